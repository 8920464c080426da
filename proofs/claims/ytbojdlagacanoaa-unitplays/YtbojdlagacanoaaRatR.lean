/-
  What the document's own functions on fractions return: Right and Make, called with any numbers of 64 bits. Condition: the arguments are numbers of 64 bits.
-/
import Derived.Test.YtbojdlagacanoaaRatC
import Derived.Deep.RegionWith
namespace Go.Proofs.Ytbojdlagacanoaa
open Go.RowKit
set_option linter.unusedVariables false

theorem natAbs_bd {n : Int} (h : I64 n) : (n.natAbs : Int) ≤ 18446744073709551615 := by unfold I64 at h; omega

set_option maxHeartbeats 1000000 in
theorem rright_any (n d : Int) (w : World) (hn : I64 n) (hd : I64 d) :
    Calls Try.prog 16 #[rv n d] w fun e w' => e = .returned (.bool (rightB n d)) ∧ Below w.heap.size w w' := by
  have fa : Hid (∀ w, Calls Try.prog 27 #[.int .i64 n] w fun e w' => e = .returned (.int .u64 (n.natAbs : Int)) ∧ w' = w) := fun w => rsize_any n w hn
  have fb : Hid (∀ w, Calls Try.prog 27 #[.int .i64 d] w fun e w' => e = .returned (.int .u64 (d.natAbs : Int)) ∧ w' = w) := fun w => rsize_any d w hd
  have fg : Hid (∀ w, Calls Try.prog 26 #[.int .u64 (n.natAbs : Int), .int .u64 (d.natAbs : Int)] w fun e w' => e = .returned (.int .u64 (gcdN n d : Int)) ∧ ∃ k, w' = w.drewN k) := fun w => rgcd_any _ _ w (natAbs_bd hn) (natAbs_bd hd)
  have H : Hid (rightB n d = (decide (0 < d) && ((gcdN n d : Int) == 1))) := by
    show _ = _
    unfold rightB
    congr 1
    rw [Bool.eq_iff_iff]; simp; omega
  generalize rightB n d = r at *
  generalize (gcdN n d : Int) = g at *
  generalize (n.natAbs : Int) = p at *
  generalize (d.natAbs : Int) = q at *
  by_cases h : 0 < d
  · replace H : Hid (r = (g == 1)) := by show _ = _; rw [H.out]; simp [h]
    clear hn hd
    go_enter Try.func16, Try.ntmps16
    go_wp2_with fail
    go_quiet (first
      | (go_at_call_of 27 n; refine Calls.quiet_of_same (fa.out _))
      | (go_at_call_of 27 d; refine Calls.quiet_of_same (fb.out _))
      | (go_at_call 26; refine Calls.quiet_of (fg.out _)))
    go_wp2
    go_ret
    exact ⟨ret_b H.out, below_drewN (by go_grown) _⟩
  · replace H : Hid (r = false) := by show _ = _; rw [H.out]; simp [h]
    have h2 : decide (0 < d) = false := by simp [h]
    clear hn hd
    go_enter Try.func16, Try.ntmps16
    go_wp2_with fail
    go_quiet (fail)
    go_wp2
    go_ret
    exact ⟨ret_b H.out, below_drewN (by go_grown) _⟩

theorem mk_minus {n d X Y : Int} (hX : ((n.natAbs / gcdN n d : Nat) : Int) = X) (hY : ((d.natAbs / gcdN n d : Nat) : Int) = Y) (h : (n < 0 ∧ 0 < d) ∨ (0 < n ∧ d < 0)) : mkX n d = -X ∧ mkY n d = Y := by
  have h1 := td_abs n (gcdN n d)
  have h2 := td_abs d (gcdN n d)
  have h3 := td_left n d
  have h4 := mkY_pos (n := n) (d := d) (by omega)
  have gp := gcdN_pos (n := n) (d := d) (by omega)
  rw [← hX, ← hY, ← h1, ← h2]
  unfold mkX mkY at *
  rcases h with ⟨a, b⟩ | ⟨a, b⟩
  · rw [if_pos b] at *
    have : n.tdiv (gcdN n d) ≤ 0 := by
      rcases Int.lt_or_le 0 (n.tdiv (gcdN n d)) with h | h
      · have := Int.mul_pos h (show (0 : Int) < (gcdN n d : Int) by omega); omega
      · exact h
    rw [if_pos b]; omega
  · rw [if_neg (by omega)] at *
    have : 0 ≤ n.tdiv (gcdN n d) := by
      rcases Int.lt_or_le (n.tdiv (gcdN n d)) 0 with h | h
      · have := Int.mul_neg_of_neg_of_pos h (show (0 : Int) < (gcdN n d : Int) by omega); omega
      · exact h
    rw [if_neg (by omega)]; omega
theorem mk_plus {n d X Y : Int} (hX : ((n.natAbs / gcdN n d : Nat) : Int) = X) (hY : ((d.natAbs / gcdN n d : Nat) : Int) = Y) (h0 : d ≠ 0) (h : n = 0 ∨ (n < 0 ∧ d < 0) ∨ (0 < n ∧ 0 < d)) : mkX n d = X ∧ mkY n d = Y := by
  have h1 := td_abs n (gcdN n d)
  have h2 := td_abs d (gcdN n d)
  have h3 := td_left n d
  have h4 := mkY_pos (n := n) (d := d) h0
  have gp := gcdN_pos (n := n) (d := d) h0
  rw [← hX, ← hY, ← h1, ← h2]
  have key : (0 < d → 0 ≤ n.tdiv (gcdN n d)) ∧ (d < 0 → n.tdiv (gcdN n d) ≤ 0) := by
    constructor
    · intro hd
      rcases Int.lt_or_le (n.tdiv (gcdN n d)) 0 with h' | h'
      · have := Int.mul_neg_of_neg_of_pos h' (show (0 : Int) < (gcdN n d : Int) by omega); omega
      · exact h'
    · intro hd
      rcases Int.lt_or_le 0 (n.tdiv (gcdN n d)) with h' | h'
      · have := Int.mul_pos h' (show (0 : Int) < (gcdN n d : Int) by omega); omega
      · exact h'
  unfold mkX mkY at *
  by_cases hd : 0 < d
  · rw [if_pos hd] at *
    have := key.1 hd
    rw [if_pos hd]; omega
  · rw [if_neg hd] at *
    have := key.2 (by omega)
    rw [if_neg hd]; omega

theorem mk_no {n d : Int} (h0 : d ≠ 0) (h : fitB (mkX n d) = false ∨ fitB (mkY n d) = false) : mkN n d = 0 ∧ mkD n d = 0 ∧ mkE n d = 2 := by
  unfold mkN mkD mkE
  rcases h with h | h <;> simp [mkOk, h0, h]
theorem mk_ok {n d : Int} (h0 : d ≠ 0) (h1 : I64 (mkX n d)) (h2 : I64 (mkY n d)) : mkN n d = mkX n d ∧ mkD n d = mkY n d ∧ mkE n d = 0 := by
  unfold mkN mkD mkE
  simp [mkOk, h0, (fitB_iff _).2 h1, (fitB_iff _).2 h2]

theorem big_ways (X Y : Int) (hX : 0 ≤ X ∧ X ≤ 9223372036854775808) : (9223372036854775807 < Y ∧ (X == 9223372036854775808) = false) ∨ (9223372036854775807 < Y ∧ (X == 9223372036854775808) = true ∧ X = 9223372036854775808) ∨ (Y ≤ 9223372036854775807 ∧ (X == 9223372036854775808) = true ∧ X = 9223372036854775808) ∨ (Y ≤ 9223372036854775807 ∧ (X == 9223372036854775808) = false ∧ X < 9223372036854775808) := by
  by_cases h : X = 9223372036854775808
  · have : (X == 9223372036854775808) = true := by simp [h]
    rcases Int.lt_or_le 9223372036854775807 Y with k | k
    · exact .inr (.inl ⟨k, this, h⟩)
    · exact .inr (.inr (.inl ⟨k, this, h⟩))
  · have : (X == 9223372036854775808) = false := by simp [h]
    rcases Int.lt_or_le 9223372036854775807 Y with k | k
    · exact .inl ⟨k, this⟩
    · exact .inr (.inr (.inr ⟨k, this, by omega⟩))

set_option maxHeartbeats 2000000 in
theorem rmake_any (n d : Int) (w : World) (hn : I64 n) (hd : I64 d) :
    Calls Try.prog 38 #[.int .i64 n, .int .i64 d] w fun e w' => e = .returned (.tuple #[rv (mkN n d) (mkD n d), .int .i64 (mkE n d)]) ∧ Below w.heap.size w w' := by
  by_cases h0 : (d == 0) = true
  · have H : Hid (mkN n d = 0 ∧ mkD n d = 0 ∧ mkE n d = 3) := by
      have : d = 0 := by simpa using h0
      subst this
      simp [Hid, mkN, mkD, mkE, mkOk]
    clear hn hd
    go_enter Try.func38, Try.ntmps38
    go_wp2
    go_returns
    exact ⟨ret_make H.out, by go_grown⟩
  · have h1 : d ≠ 0 := by simpa using h0
    replace h0 : (d == 0) = false := by simpa using h0
    have fa : Hid (∀ w, Calls Try.prog 27 #[.int .i64 n] w fun e w' => e = .returned (.int .u64 (n.natAbs : Int)) ∧ w' = w) := fun w => rsize_any n w hn
    have fb : Hid (∀ w, Calls Try.prog 27 #[.int .i64 d] w fun e w' => e = .returned (.int .u64 (d.natAbs : Int)) ∧ w' = w) := fun w => rsize_any d w hd
    have fg : Hid (∀ w, Calls Try.prog 26 #[.int .u64 (n.natAbs : Int), .int .u64 (d.natAbs : Int)] w fun e w' => e = .returned (.int .u64 (gcdN n d : Int)) ∧ ∃ k, w' = w.drewN k) := fun w => rgcd_any _ _ w (natAbs_bd hn) (natAbs_bd hd)
    have M := fun h => @mk_minus n d _ _ rfl rfl h
    have P := fun h => @mk_plus n d _ _ rfl rfl h1 h
    have NO := @mk_no n d h1
    have OK := @mk_ok n d h1
    have gp := gcdN_pos (n := n) h1
    have bX : n.natAbs / gcdN n d ≤ n.natAbs := Nat.div_le_self _ _
    have bY : d.natAbs / gcdN n d ≤ d.natAbs := Nat.div_le_self _ _
    have zX : n = 0 → n.natAbs / gcdN n d = 0 := by intro e; subst e; simp
    have eX : (n.natAbs : Int).tdiv (gcdN n d : Int) = ((n.natAbs / gcdN n d : Nat) : Int) := (Int.ofNat_tdiv _ _).symm
    have eY : (d.natAbs : Int).tdiv (gcdN n d : Int) = ((d.natAbs / gcdN n d : Nat) : Int) := (Int.ofNat_tdiv _ _).symm
    have g0 : (0 : Int) < (gcdN n d : Int) := by omega
    have aX : n.natAbs ≤ 9223372036854775808 := by unfold I64 at hn; omega
    have aY : d.natAbs ≤ 9223372036854775808 := by unfold I64 at hd; omega
    generalize n.natAbs / gcdN n d = X' at *
    generalize d.natAbs / gcdN n d = Y' at *
    have cX : 0 ≤ (X' : Int) ∧ (X' : Int) ≤ 9223372036854775808 := by omega
    have cY : 0 ≤ (Y' : Int) ∧ (Y' : Int) ≤ 9223372036854775808 := by omega
    have zX2 : n = 0 → (X' : Int) = 0 := by intro e; have := zX e; omega
    clear bX bY gp zX aX aY
    generalize (X' : Int) = X at *
    generalize (Y' : Int) = Y at *
    generalize (gcdN n d : Int) = g at *
    generalize (n.natAbs : Int) = p at *
    generalize (d.natAbs : Int) = q at *
    have sg : ((n < 0 ∧ 0 < d) ∨ (0 < n ∧ d < 0)) ∨ (n = 0 ∨ (n < 0 ∧ d < 0) ∨ (0 < n ∧ 0 < d)) := by omega
    rcases sg with sg | sg
    · obtain ⟨m1, m2⟩ := M sg
      have hw : (9223372036854775807 < Y ∧ Hid (mkN n d = 0 ∧ mkD n d = 0 ∧ mkE n d = 2)) ∨ (Y ≤ 9223372036854775807 ∧ Hid (mkN n d = -X ∧ mkD n d = Y ∧ mkE n d = 0)) := by
        rcases Int.lt_or_le 9223372036854775807 Y with k | k
        · exact .inl ⟨k, NO (.inr (by rw [m2]; exact (fit_no (by omega)).1))⟩
        · have := OK (by rw [m1]; unfold I64; omega) (by rw [m2]; unfold I64; omega)
          rw [m1, m2] at this
          exact .inr ⟨k, this⟩
      have nz : (n == 0) = false := by simp; omega
      clear M P NO OK m1 m2 hn hd zX2
      generalize mkN n d = N at *
      generalize mkD n d = D at *
      generalize mkE n d = E at *
      rcases hw with ⟨k, H⟩ | ⟨k, H⟩ <;> rcases sg with ⟨s1, s2⟩ | ⟨s1, s2⟩
      all_goals
        go_enter Try.func38, Try.ntmps38
        go_wp2_with fail
        refine (fa.out _).mono ?_
        rintro e w' ⟨rfl, rfl⟩
        go_wp2_with fail
        refine (fb.out _).mono ?_
        rintro e w' ⟨rfl, rfl⟩
        go_wp2_with fail
        refine (fg.out _).mono ?_
        rintro e w' ⟨rfl, kk, rfl⟩
        clear fa fb fg
        go_wp2
        all_goals
          go_returns
          first
            | exact ⟨ret_make H.out, below_set2 (below_drewN (by go_grown) _) (by simp) (by simp)⟩
            | (rw [neg_u64 cX]; exact ⟨ret_make H.out, below_set2 (below_drewN (by go_grown) _) (by simp) (by simp)⟩)
    · have hw : (9223372036854775807 < Y ∧ (X == 9223372036854775808) = false ∧ Hid (mkN n d = 0 ∧ mkD n d = 0 ∧ mkE n d = 2)) ∨ (9223372036854775807 < Y ∧ (X == 9223372036854775808) = true ∧ Hid (mkN n d = 0 ∧ mkD n d = 0 ∧ mkE n d = 2)) ∨ (Y ≤ 9223372036854775807 ∧ (X == 9223372036854775808) = true ∧ Hid (mkN n d = 0 ∧ mkD n d = 0 ∧ mkE n d = 2))
          ∨ (Y ≤ 9223372036854775807 ∧ (X == 9223372036854775808) = false ∧ Hid (mkN n d = X ∧ mkD n d = Y ∧ mkE n d = 0 ∧ X ≤ 9223372036854775807)) := by
        obtain ⟨m1, m2⟩ := P sg
        rcases big_ways X Y cX with ⟨k, b⟩ | ⟨k, b, _⟩ | ⟨k, b, e⟩ | ⟨k, b, e⟩
        · exact .inl ⟨k, b, NO (.inr (by rw [m2]; exact (fit_no (by omega)).1))⟩
        · exact .inr (.inl ⟨k, b, NO (.inr (by rw [m2]; exact (fit_no (by omega)).1))⟩)
        · exact .inr (.inr (.inl ⟨k, b, NO (.inl (by rw [m1]; exact (fit_no (by omega)).1))⟩))
        · have := OK (by rw [m1]; unfold I64; omega) (by rw [m2]; unfold I64; omega)
          rw [m1, m2] at this
          exact .inr (.inr (.inr ⟨k, b, this.1, this.2.1, this.2.2, by omega⟩))
      clear M P NO OK hn hd
      generalize mkN n d = N at *
      generalize mkD n d = D at *
      generalize mkE n d = E at *
      have sg2 : (n = 0) ∨ (n < 0 ∧ d < 0 ∧ (n == 0) = false) ∨ (0 < n ∧ 0 < d ∧ (n == 0) = false) := by
        rcases sg with h | h | h
        · exact .inl h
        · exact .inr (.inl ⟨h.1, h.2, by simp; omega⟩)
        · exact .inr (.inr ⟨h.1, h.2, by simp; omega⟩)
      clear sg zX2
      rcases hw with ⟨k, b, H⟩ | ⟨k, b, H⟩ | ⟨k, b, H⟩ | ⟨k, b, H⟩ <;> rcases sg2 with rfl | ⟨s1, s2, s3⟩ | ⟨s1, s2, s3⟩
      all_goals
        go_enter Try.func38, Try.ntmps38
        go_wp2_with fail
        refine (fa.out _).mono ?_
        rintro e w' ⟨rfl, rfl⟩
        go_wp2_with fail
        refine (fb.out _).mono ?_
        rintro e w' ⟨rfl, rfl⟩
        go_wp2_with fail
        refine (fg.out _).mono ?_
        rintro e w' ⟨rfl, kk, rfl⟩
        clear fa fb fg
        go_wp2
        all_goals
          go_returns
          first
            | exact ⟨ret_make H.out, below_set2 (below_drewN (by go_grown) _) (by simp) (by simp)⟩
            | (exfalso; omega)
            | exact ⟨ret_make ⟨H.out.1, H.out.2.1, H.out.2.2.1⟩, below_set2 (below_drewN (by go_grown) _) (by simp) (by simp)⟩
            | (rw [Go.IntWalk.wrap64_in X ⟨by omega, H.out.2.2.2⟩]; exact ⟨ret_make ⟨H.out.1, H.out.2.1, H.out.2.2.1⟩, below_set2 (below_drewN (by go_grown) _) (by simp) (by simp)⟩)
end Go.Proofs.Ytbojdlagacanoaa
