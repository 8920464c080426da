/-
  What ratio.Make returns, called with any two numbers of 64 bits. Condition: the arguments are numbers of 64 bits.
-/
import Derived.Test.YtbojdlagacanoaaRatA
namespace Go.Proofs.Ytbojdlagacanoaa
open Go.RowKit
set_option linter.unusedVariables false

/-- what a call that lays new blocks alone leaves of a block of two cells -/
theorem kept2 {w w' : World} {x y : Value} {b : Nat} (h : Below w.heap.size w w') (h0 : w.cell? ⟨b, 0, none⟩ = some x) (h1 : w.cell? ⟨b, 1, none⟩ = some y)
    (f0 : w.frozen? ⟨b, 0, none⟩ = false) (f1 : w.frozen? ⟨b, 1, none⟩ = false) :
    w'.cell? ⟨b, 0, none⟩ = some x ∧ w'.cell? ⟨b, 1, none⟩ = some y ∧ w'.frozen? ⟨b, 0, none⟩ = false ∧ w'.frozen? ⟨b, 1, none⟩ = false ∧ b < w'.heap.size := by
  have hb : b < w.heap.size := block_lt_of_cell h0
  exact ⟨(h.cell hb).trans h0, (h.cell hb).trans h1, (h.frozen hb).trans f0, (h.frozen hb).trans f1, Nat.lt_of_lt_of_le hb h.size⟩

theorem ret_make {a b c n d e : Int} (h : n = a ∧ d = b ∧ e = c) : Ending.returned (.tuple #[rv a b, .int .i64 c]) = .returned (.tuple #[rv n d, .int .i64 e]) := by rw [h.1, h.2.1, h.2.2]

/-- a return of a fraction that lies in a block of its own, and of what is wrong -/
theorem res_pair {fn : Func} {p u : Tmp} (h : fn.results = #[.cell p 25, .tmp u]) {tmps : Array Value} {w : World} {b : Nat} {x y e : Value}
    (hp : tmps.getD p undef = .pointer (some ⟨b, 0, none⟩)) (hu : tmps.getD u undef = e) (h0 : w.cell? ⟨b, 0, none⟩ = some x) (h1 : w.cell? ⟨b, 1, none⟩ = some y) :
    (results fn tmps).run Try.prog w = .ok (.tuple #[.agg #[x, y], e]) w := by
  rw [results_cell_tmp h, hp, hu]
  simp only [asAddr]
  simp [go_sem, Result.andThen, h0, h1]

theorem wrote2 {w : World} {b : Nat} {x y u v : Value} (c0 : w.cell? ⟨b, 0, none⟩ = some u) (c1 : w.cell? ⟨b, 1, none⟩ = some v) :
    ((w.setCell ⟨b, 0, none⟩ x).setCell ⟨b, 1, none⟩ y).cell? ⟨b, 0, none⟩ = some x ∧ ((w.setCell ⟨b, 0, none⟩ x).setCell ⟨b, 1, none⟩ y).cell? ⟨b, 1, none⟩ = some y := by
  have n1 : (⟨b, 1, none⟩ : Addr) ≠ ⟨b, 0, none⟩ := by simp
  have n2 : (⟨b, 0, none⟩ : Addr) ≠ ⟨b, 1, none⟩ := by simp
  constructor
  · rw [World.cell?_setCell_other _ _ _ _ n1]; exact World.cell?_setCell_same _ _ _ c0
  · refine World.cell?_setCell_same _ _ _ (u := v) ?_
    rw [World.cell?_setCell_other _ _ _ _ n2]; exact c1
theorem wrote2_past {w : World} {b : Nat} {x y u v : Value} (o : Obj) (c0 : w.cell? ⟨b, 0, none⟩ = some u) (c1 : w.cell? ⟨b, 1, none⟩ = some v) :
    (((w.setCell ⟨b, 0, none⟩ x).setCell ⟨b, 1, none⟩ y).alloc o).cell? ⟨b, 0, none⟩ = some x ∧ (((w.setCell ⟨b, 0, none⟩ x).setCell ⟨b, 1, none⟩ y).alloc o).cell? ⟨b, 1, none⟩ = some y := by
  have hb : b < w.heap.size := block_lt_of_cell c0
  have h := wrote2 (x := x) (y := y) c0 c1
  exact ⟨(World.cell?_alloc_lt _ _ _ (by simpa using hb)).trans h.1, (World.cell?_alloc_lt _ _ _ (by simpa using hb)).trans h.2⟩

/-- how the two numbers come out of reduced -/
theorem red_ways {n d : Int} (hn : I64 n) (hd : I64 d) (h0 : d ≠ 0) : I64 (redU n d) ∧ I64 (redL n d) ∧
    ((0 < redL n d ∧ mkN n d = redU n d ∧ mkD n d = redL n d ∧ mkE n d = 0)
    ∨ (redL n d ≤ 0 ∧ fitB (-redU n d) = true ∧ fitB (-redL n d) = true ∧ mkN n d = -redU n d ∧ mkD n d = -redL n d ∧ mkE n d = 0)
    ∨ (redL n d ≤ 0 ∧ fitB (-redU n d) = true ∧ fitB (-redL n d) = false ∧ mkN n d = 0 ∧ mkD n d = 0 ∧ mkE n d = 2)
    ∨ (redL n d ≤ 0 ∧ fitB (-redU n d) = false ∧ mkN n d = 0 ∧ mkD n d = 0 ∧ mkE n d = 2)) := by
  have hp := gcdN_pos (n := n) h0
  by_cases hg : (gcdN n d : Int) ≤ 9223372036854775807
  · have e1 : redU n d = n.tdiv (gcdN n d) := if_pos hg
    have e2 : redL n d = d.tdiv (gcdN n d) := if_pos hg
    have b1 := td_bd hp hn
    have b2 := td_bd hp hd
    rw [e1, e2]
    refine ⟨b1, b2, ?_⟩
    by_cases h : 0 < d
    · left
      obtain ⟨m1, m2, m3⟩ := mk_fits hn hd h
      refine ⟨td_pos h (Nat.gcd_dvd_right _ _), ?_, ?_, m1⟩
      · rw [m2]; unfold mkX; rw [if_pos h]
      · rw [m3]; unfold mkY; rw [if_pos h]
    · right
      have f1 : mkX n d = -(n.tdiv (gcdN n d)) := if_neg h
      have f2 : mkY n d = -(d.tdiv (gcdN n d)) := if_neg h
      have hl : d.tdiv (gcdN n d) ≤ 0 := by
        have := mkY_pos (n := n) h0
        omega
      rw [← f1, ← f2]
      rcases mkE_cases n d with ⟨_, z, _⟩ | ⟨z1, _, z2, z3, z4⟩ | ⟨z1, _, z2, z3, z4, z5⟩
      · exact absurd z h0
      · cases y1 : fitB (mkX n d)
        · exact .inr (.inr ⟨hl, rfl, z2, z3, z1⟩)
        · rcases z4 with z4 | z4
          · rw [y1] at z4; cases z4
          · exact .inr (.inl ⟨hl, rfl, z4, z2, z3, z1⟩)
      · exact .inl ⟨hl, (fitB_iff _).2 z4, (fitB_iff _).2 z5, z2, z3, z1⟩
  · obtain ⟨rfl, hh⟩ := gcd_edge hn hd h0 hg
    have e1 : redU n (-9223372036854775808) = n.tdiv (-9223372036854775808) := if_neg hg
    have e2 : redL n (-9223372036854775808) = 1 := if_neg hg
    rw [e1, e2]
    rcases hh with rfl | rfl
    · exact ⟨⟨by decide, by decide⟩, ⟨by decide, by decide⟩, .inl ⟨by decide, by decide, by decide, by decide⟩⟩
    · exact ⟨⟨by decide, by decide⟩, ⟨by decide, by decide⟩, .inl ⟨by decide, by decide, by decide, by decide⟩⟩

set_option maxHeartbeats 400000 in
theorem make_any (n d : Int) (w : World) (hn : I64 n) (hd : I64 d) :
    Calls Try.prog 45 #[.int .i64 n, .int .i64 d] w fun e w' => e = .returned (.tuple #[rv (mkN n d) (mkD n d), .int .i64 (mkE n d)]) ∧ Below w.heap.size w w' := by
  by_cases h0 : (d == 0) = true
  · have H : Hid (mkN n d = 0 ∧ mkD n d = 0 ∧ mkE n d = 3) := by
      have : d = 0 := by simpa using h0
      subst this
      simp [Hid, mkN, mkD, mkE, mkOk]
    clear hn hd
    go_enter Try.func45, Try.ntmps45
    go_wp2
    go_returns
    exact ⟨ret_make H.out, by go_grown⟩
  · have h1 : d ≠ 0 := by simpa using h0
    replace h0 : (d == 0) = false := by simpa using h0
    have fr : Hid (∀ w, Calls Try.prog 42 #[rv n d] w fun e w' => e = .returned (rv (redU n d) (redL n d)) ∧ Below w.heap.size w w') := fun w => reduced_any n d w hn hd h1
    obtain ⟨b1, b2, hc⟩ := red_ways hn hd h1
    generalize redU n d = u at *
    generalize redL n d = l at *
    have fu : Hid (∀ w, Calls Try.prog 47 #[.int .i64 u] w fun e w' => e = .returned (.tuple #[.int .i64 (fitV (-u)), .bool (fitB (-u))]) ∧ w' = w) := fun w => neg_any u w b1
    have fl : Hid (∀ w, Calls Try.prog 47 #[.int .i64 l] w fun e w' => e = .returned (.tuple #[.int .i64 (fitV (-l)), .bool (fitB (-l))]) ∧ w' = w) := fun w => neg_any l w b2
    generalize mkN n d = N at *
    generalize mkD n d = D at *
    generalize mkE n d = E at *
    go_enter Try.func45, Try.ntmps45
    go_wp2_with fail
    refine (fr.out _).mono ?_
    rintro e w1 ⟨rfl, hb⟩
    obtain ⟨c0, c1, z0, z1, zl⟩ := kept2 (b := w.heap.size) (x := .int .i64 0) (y := .int .i64 0) hb (by simp) (by simp) (by simp) (by simp)
    have HB : Hid (Below w.heap.size w w1) := ((Below.refl _ _).alloc (Nat.le_refl _) _).trans (hb.mono (by simp))
    clear hb fr hn hd
    rcases hc with ⟨hl, rfl, rfl, rfl⟩ | ⟨hl, k1, k2, rfl, rfl, rfl⟩ | ⟨hl, k1, k2, rfl, rfl, rfl⟩ | ⟨hl, k1, rfl, rfl, rfl⟩
    · clear fu fl
      go_wp2
      have hq := fun x y o => wrote2_past (x := x) (y := y) o c0 c1
      refine bodyPost_ret (res_pair Try.results45 rfl rfl (hq _ _ _).1 (hq _ _ _).2) rfl ?_
      exact ⟨rfl, (HB.out.setCell (by simp) _ |>.setCell (by simp) _).alloc (by simp; omega) _⟩
    · rw [(fit_yes ((fitB_iff _).1 k1)).1, (fit_yes ((fitB_iff _).1 k1)).2] at fu
      rw [(fit_yes ((fitB_iff _).1 k2)).1, (fit_yes ((fitB_iff _).1 k2)).2] at fl
      clear k1 k2
      go_wp2_with fail
      refine (fu.out _).mono ?_
      rintro e w' ⟨rfl, rfl⟩
      go_wp2_with fail
      refine (fl.out _).mono ?_
      rintro e w' ⟨rfl, rfl⟩
      clear fu fl
      go_wp2
      have hq := fun x y o => wrote2_past (x := x) (y := y) o c0 c1
      refine bodyPost_ret (res_pair Try.results45 rfl rfl (hq _ _ _).1 (hq _ _ _).2) rfl ?_
      exact ⟨rfl, (HB.out.setCell (by simp) _ |>.setCell (by simp) _).alloc (by simp; omega) _⟩
    · rw [(fit_yes ((fitB_iff _).1 k1)).1, (fit_yes ((fitB_iff _).1 k1)).2] at fu
      rw [k2] at fl
      generalize fitV (-l) = vl at *
      clear k1 k2
      go_wp2_with fail
      refine (fu.out _).mono ?_
      rintro e w' ⟨rfl, rfl⟩
      go_wp2_with fail
      refine (fl.out _).mono ?_
      rintro e w' ⟨rfl, rfl⟩
      clear fu fl
      go_wp2
      have hq := fun x y o => wrote2_past (x := x) (y := y) o c0 c1
      refine bodyPost_ret (res_pair Try.results45 rfl rfl (hq _ _ _).1 (hq _ _ _).2) rfl ?_
      exact ⟨rfl, (HB.out.setCell (by simp) _ |>.setCell (by simp) _).alloc (by simp; omega) _⟩
    · rw [k1] at fu
      generalize fitV (-u) = vu at *
      generalize fitV (-l) = vl at *
      generalize fitB (-l) = bl at *
      clear k1
      go_wp2_with fail
      refine (fu.out _).mono ?_
      rintro e w' ⟨rfl, rfl⟩
      go_wp2_with fail
      refine (fl.out _).mono ?_
      rintro e w' ⟨rfl, rfl⟩
      clear fu fl
      go_wp2
      have hq := fun x y o => wrote2_past (x := x) (y := y) o c0 c1
      refine bodyPost_ret (res_pair Try.results45 rfl rfl (hq _ _ _).1 (hq _ _ _).2) rfl ?_
      exact ⟨rfl, (HB.out.setCell (by simp) _ |>.setCell (by simp) _).alloc (by simp; omega) _⟩
end Go.Proofs.Ytbojdlagacanoaa
