/-
  What is proved: for any two fractions of numbers of 64 bits the statement RatioPlays (sums and products of any fractions, and which is less, are the document's) returns true. Conditions: none.
-/
import Derived.Test.YtlhjhefbindlkaaRows
import Derived.Test.YtlhjhefbindlkaaLawKit
import Derived.Test.YtlhjhefbindlkaaRatD
import Derived.Test.YtlhjhefbindlkaaRatE
import Derived.Test.YtlhjhefbindlkaaRatT
import Derived.Test.YtlhjhefbindlkaaRatU
import Derived.Deep.CutRange
import Derived.WalkKit
import Derived.ProofKit
import Derived.OpenShut
import Derived.ShutString
import Derived.ChangeOld
import Derived.Below
import Derived.Lib.SmallJoins
namespace Go.Proofs.Ytlhjhefbindlkaa.ratioPlays
open Go.ChangeShapes Go.WideShapes Go.ChangeAt Go.RowKit Go.Joins
open Go.ChangeMaps (open_string shut_string)
set_option linter.unusedVariables false

theorem own : ownKnob Try.prog.godebug = none := by kernel_rfl
theorem cells28 : Try.prog.cellsOf 28 = 2 := by kernel_rfl


set_option maxHeartbeats 2000000 in
theorem walk (n0 d0 : Int) (hn0 : I64 n0) (hd0 : I64 d0) (n1 d1 : Int) (hn1 : I64 n1) (hd1 : I64 d1) (w : World) :
    Calls Try.prog 4 #[rv n0 d0, rv n1 d1] w fun e w' => e = .returned (.bool true) ∧ Below w.heap.size w w' := by
  have f0 : Hid (∀ w, Calls Try.prog 14 #[rv n0 d0] w fun e w' => e = .returned (.bool (rightB n0 d0)) ∧ Below w.heap.size w w') := fun w => rright_any n0 d0 w hn0 hd0
  have f1 : Hid (∀ w, Calls Try.prog 14 #[rv n1 d1] w fun e w' => e = .returned (.bool (rightB n1 d1)) ∧ Below w.heap.size w w') := fun w => rright_any n1 d1 w hn1 hd1
  have N3 : Hid (∀ w : World, Pair2 w n0 d0 n1 d1 ((w.alloc (.cells #[.int .i64 n0, .int .i64 d0] 28)).alloc (.cells #[.int .i64 n1, .int .i64 d1] 28))) := fun w => pair2_new w _ _ _ _ _ _
  have g1 : Hid (∀ w, Calls Try.prog 16 #[rv n0 d0, rv n1 d1] w fun e w' => e = .returned (.tuple #[rv (addN n0 d0 n1 d1) (addD n0 d0 n1 d1), .int .i64 (addE n0 d0 n1 d1)]) ∧ Below w.heap.size w w') := fun w => fadd_any _ _ _ _ w hn0 hd0 hn1 hd1
  have g2 : Hid (∀ w, Calls Try.prog 18 #[rv n0 d0, rv n1 d1] w fun e w' => e = .returned (.tuple #[rv (mulN n0 d0 n1 d1) (mulD n0 d0 n1 d1), .int .i64 (mulE n0 d0 n1 d1)]) ∧ Below w.heap.size w w') := fun w => fmul_any _ _ _ _ w hn0 hd0 hn1 hd1
  have l1 : Hid (∀ w, Calls Try.prog 19 #[rv n0 d0, rv n1 d1] w fun e w' => e = .returned (.bool (lessB n0 d0 n1 d1)) ∧ Below w.heap.size w w') := fun w => less_any _ _ _ _ w hn0 hd0 hn1 hd1
  have l2 : Hid (mulR n0 d0 n1 d1 = true → (∀ w, Calls Try.prog 22 #[rv n0 d0, rv n1 d1] w fun e w' => e = .returned (.bool (lessB n0 d0 n1 d1)) ∧ Below w.heap.size w w')) := fun h w => rless_any _ _ _ _ w hn0 hd0 hn1 hd1 h
  have g3 : Hid (mulR n0 d0 n1 d1 = true → (∀ w, Calls Try.prog 20 #[rv n0 d0, rv n1 d1] w fun e w' => e = .returned (.tuple #[rv (addN n0 d0 n1 d1) (addD n0 d0 n1 d1), .bool ((addE n0 d0 n1 d1) == 0)]) ∧ Below w.heap.size w w')) := fun h w => rfadd_any _ _ _ _ w hn0 hd0 hn1 hd1 h
  have g4 : Hid (mulR n0 d0 n1 d1 = true → (∀ w, Calls Try.prog 21 #[rv n0 d0, rv n1 d1] w fun e w' => e = .returned (.tuple #[rv (mulN n0 d0 n1 d1) (mulD n0 d0 n1 d1), .bool ((mulE n0 d0 n1 d1) == 0)]) ∧ Below w.heap.size w w')) := fun h w => rfmul_any _ _ _ _ w hn0 hd0 hn1 hd1 h
  have FA := addE_cases n0 d0 n1 d1
  have FM := mulE_ways n0 d0 n1 d1
  have FL : mulR n0 d0 n1 d1 = false → lessB n0 d0 n1 d1 = false := fun h => by unfold lessB; rw [h]; rfl
  cases hr : mulR n0 d0 n1 d1
  · obtain ⟨a1, a2, a3⟩ : addE n0 d0 n1 d1 = 1 ∧ addN n0 d0 n1 d1 = 0 ∧ addD n0 d0 n1 d1 = 0 := by
      rcases FA with ⟨h, _, h2, h3⟩ | ⟨_, h, _⟩ | ⟨_, h, _⟩
      · exact ⟨h, h2, h3⟩
      · rw [hr] at h; cases h
      · rw [hr] at h; cases h
    obtain ⟨m1, m2, m3⟩ : mulE n0 d0 n1 d1 = 1 ∧ mulN n0 d0 n1 d1 = 0 ∧ mulD n0 d0 n1 d1 = 0 := by
      rcases FM with ⟨h, _, h2, h3⟩ | ⟨_, h, _⟩ | ⟨_, h, _⟩
      · exact ⟨h, h2, h3⟩
      · rw [hr] at h; cases h
      · rw [hr] at h; cases h
    rw [a1, a2, a3] at g1
    rw [m1, m2, m3] at g2
    rw [FL hr] at l1
    have hr2 : (rightB n0 d0 = false) ∨ (rightB n0 d0 = true ∧ rightB n1 d1 = false) := by
      unfold mulR at hr
      cases h0 : rightB n0 d0
      · exact .inl rfl
      · rw [h0] at hr; exact .inr ⟨rfl, by simpa using hr⟩
    clear FA FM FL g3 g4 l2 hr a1 a2 a3 m1 m2 m3 hn0 hd0 hn1 hd1
    generalize rightB n0 d0 = r0 at *
    generalize rightB n1 d1 = r1 at *
    have HR : Hid _ := hr2
    clear hr2
    go_enter Try.func4, Try.ntmps4
    go_wp2_with fail
    refine (awake2_any _).mono ?_
    rintro e w1 ⟨rfl, hb⟩
    have K : Hid (Pair2 w n0 d0 n1 d1 w1) := Pair2.below (N3.out _) hb
    clear hb N3
    go_upto_region 3 with fail
    go_cut [5, 6] from 15 to 22 (fun sp se wx => ∃ b : Nat, sp = .pointer (some ⟨b, 0, none⟩) ∧ se = .int .i64 1 ∧ Has wx b (.int .i64 0) (.int .i64 0) ∧ Below w1.heap.size w1 wx)
    case first =>
      go_region_held3 (fun x => (x.cell? ⟨w.heap.size, 0, none⟩ = some (.int .i64 n0) ∧ x.cell? ⟨w.heap.size, 1, none⟩ = some (.int .i64 d0) ∧ x.frozen? ⟨w.heap.size, 0, none⟩ = false ∧ x.frozen? ⟨w.heap.size, 1, none⟩ = false ∧ w.heap.size < x.heap.size) ∧
          (x.cell? ⟨w.heap.size + 1, 0, none⟩ = some (.int .i64 n1) ∧ x.cell? ⟨w.heap.size + 1, 1, none⟩ = some (.int .i64 d1) ∧ x.frozen? ⟨w.heap.size + 1, 0, none⟩ = false ∧ x.frozen? ⟨w.heap.size + 1, 1, none⟩ = false ∧ w.heap.size + 1 < x.heap.size) ∧ Below w.heap.size w x)
        ((show Pair2 w n0 d0 n1 d1 _; refine Pair2.below K.out ?_; (repeat (first | with_reducible exact BB.out | with_reducible exact Below.refl _ _ | with_reducible refine Below.drew ?_ | with_reducible refine Below.alloc ?_ ?_ _ | with_reducible refine Below.setCell ?_ ?_ _ | omega | (simp <;> omega)))))
        (first
          | (go_at_call 17; first | with_reducible refine (of_any n0 d0 _).mono ?_ | with_reducible refine (of_any n1 d1 _).mono ?_
             rintro e x ⟨rfl, hb⟩
             have BB : Hid (Below w1.heap.size w1 x) := by
               refine below_trans (a := w1) ?_ hb
               (repeat (first | with_reducible exact BB.out | with_reducible exact Below.refl _ _ | with_reducible refine Below.drew ?_ | with_reducible refine Below.alloc ?_ ?_ _ | with_reducible refine Below.setCell ?_ ?_ _ | omega | (simp <;> omega)))
             have LL : w1.heap.size ≤ x.heap.size := BB.out.size
             first
               | (with_reducible have NN := Has.below (has_newd _ _ _ _) hb)
               | (with_reducible have NN := Has.below (has_new _ _ _ _) hb)
               | (with_reducible have NN := Has.below NN hb)
               | skip
             try (have NX := NN; obtain ⟨m0, m1, m2, m3, m4⟩ := NX)
             clear hb)
          | (go_at_call 16; first | with_reducible refine (g1.out _).mono ?_
             rintro e x ⟨rfl, hb⟩
             have BB : Hid (Below w1.heap.size w1 x) := by
               refine below_trans (a := w1) ?_ hb
               (repeat (first | with_reducible exact BB.out | with_reducible exact Below.refl _ _ | with_reducible refine Below.drew ?_ | with_reducible refine Below.alloc ?_ ?_ _ | with_reducible refine Below.setCell ?_ ?_ _ | omega | (simp <;> omega)))
             have LL : w1.heap.size ≤ x.heap.size := BB.out.size
             first
               | (with_reducible have NN := Has.below (has_newd _ _ _ _) hb)
               | (with_reducible have NN := Has.below (has_new _ _ _ _) hb)
               | (with_reducible have NN := Has.below NN hb)
               | skip
             try (have NX := NN; obtain ⟨m0, m1, m2, m3, m4⟩ := NX)
             clear hb))
      all_goals
        go_wp2_with fail
        go_meet
        refine ⟨_, rfl, rfl, ?_, ?_⟩
        · first
            | ((with_reducible refine has_lit _ _ _ ?_); first | rfl | simp)
            | (with_reducible refine Has.setOwn (a := .int .i64 0) (b := .int .i64 0) ?_; exact NN)
        · (repeat (first | with_reducible exact BB.out | with_reducible exact Below.refl _ _ | with_reducible refine Below.drew ?_ | with_reducible refine Below.alloc ?_ ?_ _ | with_reducible refine Below.setCell ?_ ?_ _ | omega | (simp <;> omega)))
    obtain ⟨bs, rfl, rfl, hH, hB⟩ := hcut
    have Hbs : Hid (Has wc bs (.int .i64 0) (.int .i64 0)) := hH
    replace K : Hid (Pair2 w n0 d0 n1 d1 wc) := Pair2.below K.out hB
    clear hH hB g1
    go_upto_region 4 with fail
    go_cut [7, 8] from 23 to 30 (fun sp se wx => ∃ b : Nat, sp = .pointer (some ⟨b, 0, none⟩) ∧ se = .int .i64 1 ∧ Has wx b (.int .i64 0) (.int .i64 0) ∧ Below wc.heap.size wc wx)
    case first =>
      go_region_held3 (fun x => (x.cell? ⟨w.heap.size, 0, none⟩ = some (.int .i64 n0) ∧ x.cell? ⟨w.heap.size, 1, none⟩ = some (.int .i64 d0) ∧ x.frozen? ⟨w.heap.size, 0, none⟩ = false ∧ x.frozen? ⟨w.heap.size, 1, none⟩ = false ∧ w.heap.size < x.heap.size) ∧
          (x.cell? ⟨w.heap.size + 1, 0, none⟩ = some (.int .i64 n1) ∧ x.cell? ⟨w.heap.size + 1, 1, none⟩ = some (.int .i64 d1) ∧ x.frozen? ⟨w.heap.size + 1, 0, none⟩ = false ∧ x.frozen? ⟨w.heap.size + 1, 1, none⟩ = false ∧ w.heap.size + 1 < x.heap.size) ∧ Below w.heap.size w x)
        ((show Pair2 w n0 d0 n1 d1 _; refine Pair2.below K.out ?_; (repeat (first | with_reducible exact BB.out | with_reducible exact Below.refl _ _ | with_reducible refine Below.drew ?_ | with_reducible refine Below.alloc ?_ ?_ _ | with_reducible refine Below.setCell ?_ ?_ _ | omega | (simp <;> omega)))))
        (first
          | (go_at_call 17; first | with_reducible refine (of_any n0 d0 _).mono ?_ | with_reducible refine (of_any n1 d1 _).mono ?_
             rintro e x ⟨rfl, hb⟩
             have BB : Hid (Below wc.heap.size wc x) := by
               refine below_trans (a := wc) ?_ hb
               (repeat (first | with_reducible exact BB.out | with_reducible exact Below.refl _ _ | with_reducible refine Below.drew ?_ | with_reducible refine Below.alloc ?_ ?_ _ | with_reducible refine Below.setCell ?_ ?_ _ | omega | (simp <;> omega)))
             have LL : wc.heap.size ≤ x.heap.size := BB.out.size
             first
               | (with_reducible have NN := Has.below (has_newd _ _ _ _) hb)
               | (with_reducible have NN := Has.below (has_new _ _ _ _) hb)
               | (with_reducible have NN := Has.below NN hb)
               | skip
             try (have NX := NN; obtain ⟨m0, m1, m2, m3, m4⟩ := NX)
             clear hb)
          | (go_at_call 18; first | with_reducible refine (g2.out _).mono ?_
             rintro e x ⟨rfl, hb⟩
             have BB : Hid (Below wc.heap.size wc x) := by
               refine below_trans (a := wc) ?_ hb
               (repeat (first | with_reducible exact BB.out | with_reducible exact Below.refl _ _ | with_reducible refine Below.drew ?_ | with_reducible refine Below.alloc ?_ ?_ _ | with_reducible refine Below.setCell ?_ ?_ _ | omega | (simp <;> omega)))
             have LL : wc.heap.size ≤ x.heap.size := BB.out.size
             first
               | (with_reducible have NN := Has.below (has_newd _ _ _ _) hb)
               | (with_reducible have NN := Has.below (has_new _ _ _ _) hb)
               | (with_reducible have NN := Has.below NN hb)
               | skip
             try (have NX := NN; obtain ⟨m0, m1, m2, m3, m4⟩ := NX)
             clear hb))
      all_goals
        go_wp2_with fail
        go_meet
        refine ⟨_, rfl, rfl, ?_, ?_⟩
        · first
            | ((with_reducible refine has_lit _ _ _ ?_); first | rfl | simp)
            | (with_reducible refine Has.setOwn (a := .int .i64 0) (b := .int .i64 0) ?_; exact NN)
        · (repeat (first | with_reducible exact BB.out | with_reducible exact Below.refl _ _ | with_reducible refine Below.drew ?_ | with_reducible refine Below.alloc ?_ ?_ _ | with_reducible refine Below.setCell ?_ ?_ _ | omega | (simp <;> omega)))
    obtain ⟨bp, rfl, rfl, hH, hB⟩ := hcut
    have Hbp : Hid (Has wc bp (.int .i64 0) (.int .i64 0)) := hH
    replace K : Hid (Pair2 w n0 d0 n1 d1 wc) := Pair2.below K.out hB
    replace Hbs : Hid (Has wc bs (.int .i64 0) (.int .i64 0)) := Has.below Hbs.out hB
    clear hH hB g2
    rcases HR.out with rfl | ⟨rfl, rfl⟩
    · clear HR f1
      obtain ⟨⟨c0a, c0b, c0c, c0d, c0e⟩, -, -⟩ := K.out
      go_wp2_with fail
      refine (f0.out _).mono ?_
      rintro e w2 ⟨rfl, hb⟩
      replace K : Hid (Pair2 w n0 d0 n1 d1 w2) := Pair2.below K.out hb
      replace Hbs : Hid (Has w2 bs (.int .i64 0) (.int .i64 0)) := Has.below Hbs.out hb
      replace Hbp : Hid (Has w2 bp (.int .i64 0) (.int .i64 0)) := Has.below Hbp.out hb
      clear hb f0 c0a c0b c0c c0d c0e
      go_wp2_with fail
      obtain ⟨⟨c0a, c0b, c0c, c0d, c0e⟩, ⟨c1a, c1b, c1c, c1d, c1e⟩, -⟩ := K.out
      have kc0a := cell_regrown c0a
      have kc0b := cell_regrown c0b
      have kc1a := cell_regrown c1a
      have kc1b := cell_regrown c1b
      clear c0a c0b c0c c0d c0e c1a c1b c1c c1d c1e
      have ke0a := cell_regrown Hbs.out.1
      have ke0b := cell_regrown Hbs.out.2.1
      have ke1a := cell_regrown Hbp.out.1
      have ke1b := cell_regrown Hbp.out.2.1
      refine wp_region_quiet_below (by kernel_rfl) (by kernel_rfl) ?_
      repeat (go_big_quiet_step (first
        | (go_at_call 17; first | with_reducible exact Calls.regrown_of (of_any n0 d0 _) | with_reducible exact Calls.regrown_of (of_any n1 d1 _))
        | (go_at_call 19; first | with_reducible exact Calls.regrown_of (l1.out _))))
      refine wpQuiet_nil ?_
      intro _ hw'
      obtain ⟨⟨dq, osq⟩, hw''⟩ := hw'
      subst hw''
      clear kc0a kc0b kc1a kc1b ke0a ke0b ke1a ke1b Hbs Hbp l1
      have hb := below_regrown w2 dq osq
      replace K : Hid (Pair2 w n0 d0 n1 d1 (Sort.grow (redrawn w2 dq) osq)) := Pair2.below K.out hb
      clear hb
      generalize Sort.grow (redrawn w2 dq) osq = w9 at *
      go_wp2
      go_ret
      exact ⟨rfl, K.out.2.2⟩
    · clear HR
      obtain ⟨⟨c0a, c0b, c0c, c0d, c0e⟩, -, -⟩ := K.out
      go_wp2_with fail
      refine (f0.out _).mono ?_
      rintro e w2 ⟨rfl, hb⟩
      replace K : Hid (Pair2 w n0 d0 n1 d1 w2) := Pair2.below K.out hb
      replace Hbs : Hid (Has w2 bs (.int .i64 0) (.int .i64 0)) := Has.below Hbs.out hb
      replace Hbp : Hid (Has w2 bp (.int .i64 0) (.int .i64 0)) := Has.below Hbp.out hb
      clear hb f0 c0a c0b c0c c0d c0e
      obtain ⟨-, ⟨c1a, c1b, c1c, c1d, c1e⟩, -⟩ := K.out
      go_wp2_with fail
      refine (f1.out _).mono ?_
      rintro e w3 ⟨rfl, hb⟩
      replace K : Hid (Pair2 w n0 d0 n1 d1 w3) := Pair2.below K.out hb
      replace Hbs : Hid (Has w3 bs (.int .i64 0) (.int .i64 0)) := Has.below Hbs.out hb
      replace Hbp : Hid (Has w3 bp (.int .i64 0) (.int .i64 0)) := Has.below Hbp.out hb
      clear hb f1 c1a c1b c1c c1d c1e
      go_wp2_with fail
      obtain ⟨⟨c0a, c0b, c0c, c0d, c0e⟩, ⟨c1a, c1b, c1c, c1d, c1e⟩, -⟩ := K.out
      have kc0a := cell_regrown c0a
      have kc0b := cell_regrown c0b
      have kc1a := cell_regrown c1a
      have kc1b := cell_regrown c1b
      clear c0a c0b c0c c0d c0e c1a c1b c1c c1d c1e
      have ke0a := cell_regrown Hbs.out.1
      have ke0b := cell_regrown Hbs.out.2.1
      have ke1a := cell_regrown Hbp.out.1
      have ke1b := cell_regrown Hbp.out.2.1
      refine wp_region_quiet_below (by kernel_rfl) (by kernel_rfl) ?_
      repeat (go_big_quiet_step (first
        | (go_at_call 17; first | with_reducible exact Calls.regrown_of (of_any n0 d0 _) | with_reducible exact Calls.regrown_of (of_any n1 d1 _))
        | (go_at_call 19; first | with_reducible exact Calls.regrown_of (l1.out _))))
      refine wpQuiet_nil ?_
      intro _ hw'
      obtain ⟨⟨dq, osq⟩, hw''⟩ := hw'
      subst hw''
      clear kc0a kc0b kc1a kc1b ke0a ke0b ke1a ke1b Hbs Hbp l1
      have hb := below_regrown w3 dq osq
      replace K : Hid (Pair2 w n0 d0 n1 d1 (Sort.grow (redrawn w3 dq) osq)) := Pair2.below K.out hb
      clear hb
      generalize Sort.grow (redrawn w3 dq) osq = w9 at *
      go_wp2
      go_ret
      exact ⟨rfl, K.out.2.2⟩
  · have hr2 : rightB n0 d0 = true ∧ rightB n1 d1 = true := by unfold mulR at hr; rwa [Bool.and_eq_true] at hr
    rw [hr2.1] at f0
    rw [hr2.2] at f1
    replace g3 : Hid _ := g3.out hr
    replace g4 : Hid _ := g4.out hr
    replace l2 : Hid _ := l2.out hr
    have WA : Hid ((addE n0 d0 n1 d1 = 0 ∧ (addE n0 d0 n1 d1 == 0) = true) ∨ (addE n0 d0 n1 d1 = 2 ∧ (addE n0 d0 n1 d1 == 0) = false)) := by
      rcases FA with ⟨_, h, _⟩ | ⟨h, _⟩ | ⟨h, _⟩
      · rw [hr] at h; cases h
      · exact .inr ⟨h, by rw [h]; rfl⟩
      · exact .inl ⟨h, by rw [h]; rfl⟩
    have WM : Hid ((mulE n0 d0 n1 d1 = 0 ∧ (mulE n0 d0 n1 d1 == 0) = true) ∨ (mulE n0 d0 n1 d1 = 2 ∧ (mulE n0 d0 n1 d1 == 0) = false)) := by
      rcases FM with ⟨_, h, _⟩ | ⟨h, _⟩ | ⟨h, _⟩
      · rw [hr] at h; cases h
      · exact .inr ⟨h, by rw [h]; rfl⟩
      · exact .inl ⟨h, by rw [h]; rfl⟩
    clear FA FM FL hr hr2 hn0 hd0 hn1 hd1
    generalize addN n0 d0 n1 d1 = sN at *
    generalize addD n0 d0 n1 d1 = sD at *
    generalize (addE n0 d0 n1 d1 == 0) = oa at *
    generalize addE n0 d0 n1 d1 = sE at *
    generalize mulN n0 d0 n1 d1 = pN at *
    generalize mulD n0 d0 n1 d1 = pD at *
    generalize (mulE n0 d0 n1 d1 == 0) = om at *
    generalize mulE n0 d0 n1 d1 = pE at *
    generalize lessB n0 d0 n1 d1 = bl at *
    go_enter Try.func4, Try.ntmps4
    go_wp2_with fail
    refine (awake2_any _).mono ?_
    rintro e w1 ⟨rfl, hb⟩
    have K : Hid (Pair2 w n0 d0 n1 d1 w1) := Pair2.below (N3.out _) hb
    clear hb N3
    go_upto_region 3 with fail
    go_cut [5, 6] from 15 to 22 (fun sp se wx => ∃ b : Nat, sp = .pointer (some ⟨b, 0, none⟩) ∧ se = .int .i64 sE ∧ Has wx b (.int .i64 sN) (.int .i64 sD) ∧ Below w1.heap.size w1 wx)
    case first =>
      go_region_held3 (fun x => (x.cell? ⟨w.heap.size, 0, none⟩ = some (.int .i64 n0) ∧ x.cell? ⟨w.heap.size, 1, none⟩ = some (.int .i64 d0) ∧ x.frozen? ⟨w.heap.size, 0, none⟩ = false ∧ x.frozen? ⟨w.heap.size, 1, none⟩ = false ∧ w.heap.size < x.heap.size) ∧
          (x.cell? ⟨w.heap.size + 1, 0, none⟩ = some (.int .i64 n1) ∧ x.cell? ⟨w.heap.size + 1, 1, none⟩ = some (.int .i64 d1) ∧ x.frozen? ⟨w.heap.size + 1, 0, none⟩ = false ∧ x.frozen? ⟨w.heap.size + 1, 1, none⟩ = false ∧ w.heap.size + 1 < x.heap.size) ∧ Below w.heap.size w x)
        ((show Pair2 w n0 d0 n1 d1 _; refine Pair2.below K.out ?_; (repeat (first | with_reducible exact BB.out | with_reducible exact Below.refl _ _ | with_reducible refine Below.drew ?_ | with_reducible refine Below.alloc ?_ ?_ _ | with_reducible refine Below.setCell ?_ ?_ _ | omega | (simp <;> omega)))))
        (first
          | (go_at_call 17; first | with_reducible refine (of_any n0 d0 _).mono ?_ | with_reducible refine (of_any n1 d1 _).mono ?_
             rintro e x ⟨rfl, hb⟩
             have BB : Hid (Below w1.heap.size w1 x) := by
               refine below_trans (a := w1) ?_ hb
               (repeat (first | with_reducible exact BB.out | with_reducible exact Below.refl _ _ | with_reducible refine Below.drew ?_ | with_reducible refine Below.alloc ?_ ?_ _ | with_reducible refine Below.setCell ?_ ?_ _ | omega | (simp <;> omega)))
             have LL : w1.heap.size ≤ x.heap.size := BB.out.size
             first
               | (with_reducible have NN := Has.below (has_newd _ _ _ _) hb)
               | (with_reducible have NN := Has.below (has_new _ _ _ _) hb)
               | (with_reducible have NN := Has.below NN hb)
               | skip
             try (have NX := NN; obtain ⟨m0, m1, m2, m3, m4⟩ := NX)
             clear hb)
          | (go_at_call 16; first | with_reducible refine (g1.out _).mono ?_
             rintro e x ⟨rfl, hb⟩
             have BB : Hid (Below w1.heap.size w1 x) := by
               refine below_trans (a := w1) ?_ hb
               (repeat (first | with_reducible exact BB.out | with_reducible exact Below.refl _ _ | with_reducible refine Below.drew ?_ | with_reducible refine Below.alloc ?_ ?_ _ | with_reducible refine Below.setCell ?_ ?_ _ | omega | (simp <;> omega)))
             have LL : w1.heap.size ≤ x.heap.size := BB.out.size
             first
               | (with_reducible have NN := Has.below (has_newd _ _ _ _) hb)
               | (with_reducible have NN := Has.below (has_new _ _ _ _) hb)
               | (with_reducible have NN := Has.below NN hb)
               | skip
             try (have NX := NN; obtain ⟨m0, m1, m2, m3, m4⟩ := NX)
             clear hb))
      all_goals
        go_wp2_with fail
        go_meet
        refine ⟨_, rfl, rfl, ?_, ?_⟩
        · first
            | ((with_reducible refine has_lit _ _ _ ?_); first | rfl | simp)
            | (with_reducible refine Has.setOwn (a := .int .i64 0) (b := .int .i64 0) ?_; exact NN)
        · (repeat (first | with_reducible exact BB.out | with_reducible exact Below.refl _ _ | with_reducible refine Below.drew ?_ | with_reducible refine Below.alloc ?_ ?_ _ | with_reducible refine Below.setCell ?_ ?_ _ | omega | (simp <;> omega)))
    obtain ⟨bs, rfl, rfl, hH, hB⟩ := hcut
    have Hbs : Hid (Has wc bs (.int .i64 sN) (.int .i64 sD)) := hH
    replace K : Hid (Pair2 w n0 d0 n1 d1 wc) := Pair2.below K.out hB
    clear hH hB g1
    go_upto_region 4 with fail
    go_cut [7, 8] from 23 to 30 (fun sp se wx => ∃ b : Nat, sp = .pointer (some ⟨b, 0, none⟩) ∧ se = .int .i64 pE ∧ Has wx b (.int .i64 pN) (.int .i64 pD) ∧ Below wc.heap.size wc wx)
    case first =>
      go_region_held3 (fun x => (x.cell? ⟨w.heap.size, 0, none⟩ = some (.int .i64 n0) ∧ x.cell? ⟨w.heap.size, 1, none⟩ = some (.int .i64 d0) ∧ x.frozen? ⟨w.heap.size, 0, none⟩ = false ∧ x.frozen? ⟨w.heap.size, 1, none⟩ = false ∧ w.heap.size < x.heap.size) ∧
          (x.cell? ⟨w.heap.size + 1, 0, none⟩ = some (.int .i64 n1) ∧ x.cell? ⟨w.heap.size + 1, 1, none⟩ = some (.int .i64 d1) ∧ x.frozen? ⟨w.heap.size + 1, 0, none⟩ = false ∧ x.frozen? ⟨w.heap.size + 1, 1, none⟩ = false ∧ w.heap.size + 1 < x.heap.size) ∧ Below w.heap.size w x)
        ((show Pair2 w n0 d0 n1 d1 _; refine Pair2.below K.out ?_; (repeat (first | with_reducible exact BB.out | with_reducible exact Below.refl _ _ | with_reducible refine Below.drew ?_ | with_reducible refine Below.alloc ?_ ?_ _ | with_reducible refine Below.setCell ?_ ?_ _ | omega | (simp <;> omega)))))
        (first
          | (go_at_call 17; first | with_reducible refine (of_any n0 d0 _).mono ?_ | with_reducible refine (of_any n1 d1 _).mono ?_
             rintro e x ⟨rfl, hb⟩
             have BB : Hid (Below wc.heap.size wc x) := by
               refine below_trans (a := wc) ?_ hb
               (repeat (first | with_reducible exact BB.out | with_reducible exact Below.refl _ _ | with_reducible refine Below.drew ?_ | with_reducible refine Below.alloc ?_ ?_ _ | with_reducible refine Below.setCell ?_ ?_ _ | omega | (simp <;> omega)))
             have LL : wc.heap.size ≤ x.heap.size := BB.out.size
             first
               | (with_reducible have NN := Has.below (has_newd _ _ _ _) hb)
               | (with_reducible have NN := Has.below (has_new _ _ _ _) hb)
               | (with_reducible have NN := Has.below NN hb)
               | skip
             try (have NX := NN; obtain ⟨m0, m1, m2, m3, m4⟩ := NX)
             clear hb)
          | (go_at_call 18; first | with_reducible refine (g2.out _).mono ?_
             rintro e x ⟨rfl, hb⟩
             have BB : Hid (Below wc.heap.size wc x) := by
               refine below_trans (a := wc) ?_ hb
               (repeat (first | with_reducible exact BB.out | with_reducible exact Below.refl _ _ | with_reducible refine Below.drew ?_ | with_reducible refine Below.alloc ?_ ?_ _ | with_reducible refine Below.setCell ?_ ?_ _ | omega | (simp <;> omega)))
             have LL : wc.heap.size ≤ x.heap.size := BB.out.size
             first
               | (with_reducible have NN := Has.below (has_newd _ _ _ _) hb)
               | (with_reducible have NN := Has.below (has_new _ _ _ _) hb)
               | (with_reducible have NN := Has.below NN hb)
               | skip
             try (have NX := NN; obtain ⟨m0, m1, m2, m3, m4⟩ := NX)
             clear hb))
      all_goals
        go_wp2_with fail
        go_meet
        refine ⟨_, rfl, rfl, ?_, ?_⟩
        · first
            | ((with_reducible refine has_lit _ _ _ ?_); first | rfl | simp)
            | (with_reducible refine Has.setOwn (a := .int .i64 0) (b := .int .i64 0) ?_; exact NN)
        · (repeat (first | with_reducible exact BB.out | with_reducible exact Below.refl _ _ | with_reducible refine Below.drew ?_ | with_reducible refine Below.alloc ?_ ?_ _ | with_reducible refine Below.setCell ?_ ?_ _ | omega | (simp <;> omega)))
    obtain ⟨bp, rfl, rfl, hH, hB⟩ := hcut
    have Hbp : Hid (Has wc bp (.int .i64 pN) (.int .i64 pD)) := hH
    replace K : Hid (Pair2 w n0 d0 n1 d1 wc) := Pair2.below K.out hB
    replace Hbs : Hid (Has wc bs (.int .i64 sN) (.int .i64 sD)) := Has.below Hbs.out hB
    clear hH hB g2
    obtain ⟨⟨c0a, c0b, c0c, c0d, c0e⟩, -, -⟩ := K.out
    go_wp2_with fail
    refine (f0.out _).mono ?_
    rintro e w2 ⟨rfl, hb⟩
    replace K : Hid (Pair2 w n0 d0 n1 d1 w2) := Pair2.below K.out hb
    replace Hbs : Hid (Has w2 bs (.int .i64 sN) (.int .i64 sD)) := Has.below Hbs.out hb
    replace Hbp : Hid (Has w2 bp (.int .i64 pN) (.int .i64 pD)) := Has.below Hbp.out hb
    clear hb f0 c0a c0b c0c c0d c0e
    obtain ⟨-, ⟨c1a, c1b, c1c, c1d, c1e⟩, -⟩ := K.out
    go_wp2_with fail
    refine (f1.out _).mono ?_
    rintro e w3 ⟨rfl, hb⟩
    replace K : Hid (Pair2 w n0 d0 n1 d1 w3) := Pair2.below K.out hb
    replace Hbs : Hid (Has w3 bs (.int .i64 sN) (.int .i64 sD)) := Has.below Hbs.out hb
    replace Hbp : Hid (Has w3 bp (.int .i64 pN) (.int .i64 pD)) := Has.below Hbp.out hb
    clear hb f1 c1a c1b c1c c1d c1e
    obtain ⟨⟨c0a, c0b, c0c, c0d, c0e⟩, ⟨c1a, c1b, c1c, c1d, c1e⟩, -⟩ := K.out
    go_wp2_with fail
    refine (g3.out _).mono ?_
    rintro e w4 ⟨rfl, hb⟩
    replace K : Hid (Pair2 w n0 d0 n1 d1 w4) := Pair2.below K.out hb
    replace Hbs : Hid (Has w4 bs (.int .i64 sN) (.int .i64 sD)) := Has.below Hbs.out hb
    replace Hbp : Hid (Has w4 bp (.int .i64 pN) (.int .i64 pD)) := Has.below Hbp.out hb
    clear hb g3 c0a c0b c0c c0d c0e c1a c1b c1c c1d c1e
    obtain ⟨⟨c0a, c0b, c0c, c0d, c0e⟩, ⟨c1a, c1b, c1c, c1d, c1e⟩, -⟩ := K.out
    go_wp2_with fail
    have Ht : Hid (Has (w4.alloc (.cells #[.int .i64 sN, .int .i64 sD] 28)) w4.heap.size (.int .i64 sN) (.int .i64 sD)) := has_new _ _ _ _
    replace K : Hid (Pair2 w n0 d0 n1 d1 (w4.alloc (.cells #[.int .i64 sN, .int .i64 sD] 28))) := Pair2.alloc K.out _
    replace Hbs : Hid (Has (w4.alloc (.cells #[.int .i64 sN, .int .i64 sD] 28)) bs (.int .i64 sN) (.int .i64 sD)) := Has.alloc Hbs.out _
    replace Hbp : Hid (Has (w4.alloc (.cells #[.int .i64 sN, .int .i64 sD] 28)) bp (.int .i64 pN) (.int .i64 pD)) := Has.alloc Hbp.out _
    clear c0a c0b c0c c0d c0e c1a c1b c1c c1d c1e
    generalize w4.alloc (.cells #[.int .i64 sN, .int .i64 sD] 28) = w5 at *
    refine (g4.out _).mono ?_
    rintro e w6 ⟨rfl, hb⟩
    replace K : Hid (Pair2 w n0 d0 n1 d1 w6) := Pair2.below K.out hb
    replace Hbs : Hid (Has w6 bs (.int .i64 sN) (.int .i64 sD)) := Has.below Hbs.out hb
    replace Hbp : Hid (Has w6 bp (.int .i64 pN) (.int .i64 pD)) := Has.below Hbp.out hb
    replace Ht : Hid (Has w6 w4.heap.size (.int .i64 sN) (.int .i64 sD)) := Has.below Ht.out hb
    clear hb g4
    go_wp2_with fail
    have Hq : Hid (Has (w6.alloc (.cells #[.int .i64 pN, .int .i64 pD] 28)) w6.heap.size (.int .i64 pN) (.int .i64 pD)) := has_new _ _ _ _
    replace K : Hid (Pair2 w n0 d0 n1 d1 (w6.alloc (.cells #[.int .i64 pN, .int .i64 pD] 28))) := Pair2.alloc K.out _
    replace Hbs : Hid (Has (w6.alloc (.cells #[.int .i64 pN, .int .i64 pD] 28)) bs (.int .i64 sN) (.int .i64 sD)) := Has.alloc Hbs.out _
    replace Hbp : Hid (Has (w6.alloc (.cells #[.int .i64 pN, .int .i64 pD] 28)) bp (.int .i64 pN) (.int .i64 pD)) := Has.alloc Hbp.out _
    replace Ht : Hid (Has (w6.alloc (.cells #[.int .i64 pN, .int .i64 pD] 28)) w4.heap.size (.int .i64 sN) (.int .i64 sD)) := Has.alloc Ht.out _
    generalize w6.alloc (.cells #[.int .i64 pN, .int .i64 pD] 28) = w7 at *
    rcases WA.out with ⟨rfl, rfl⟩ | ⟨rfl, rfl⟩ <;> rcases WM.out with ⟨rfl, rfl⟩ | ⟨rfl, rfl⟩ <;> cases bl
    all_goals
      clear WA WM
      go_wp2_with fail
      obtain ⟨⟨c0a, c0b, c0c, c0d, c0e⟩, ⟨c1a, c1b, c1c, c1d, c1e⟩, -⟩ := K.out
      have kc0a := cell_regrown c0a
      have kc0b := cell_regrown c0b
      have kc1a := cell_regrown c1a
      have kc1b := cell_regrown c1b
      clear c0a c0b c0c c0d c0e c1a c1b c1c c1d c1e
      have ke0a := cell_regrown Hbs.out.1
      have ke0b := cell_regrown Hbs.out.2.1
      have ke1a := cell_regrown Hbp.out.1
      have ke1b := cell_regrown Hbp.out.2.1
      have ke2a := cell_regrown Ht.out.1
      have ke2b := cell_regrown Ht.out.2.1
      have ke3a := cell_regrown Hq.out.1
      have ke3b := cell_regrown Hq.out.2.1
      refine wp_region_quiet_below (by kernel_rfl) (by kernel_rfl) ?_
      repeat (go_big_quiet_step (first
        | (go_at_call 12; first | with_reducible exact Calls.regrown_of (plain_any sN sD _) | with_reducible exact Calls.regrown_of (plain_any pN pD _))
        | (go_at_call 17; first | with_reducible exact Calls.regrown_of (of_any n0 d0 _) | with_reducible exact Calls.regrown_of (of_any n1 d1 _))
        | (go_at_call 19; first | with_reducible exact Calls.regrown_of (l1.out _))
        | (go_at_call 22; first | with_reducible exact Calls.regrown_of (l2.out _))))
      refine wpQuiet_nil ?_
      intro _ hw'
      obtain ⟨⟨dq, osq⟩, hw''⟩ := hw'
      subst hw''
      clear kc0a kc0b kc1a kc1b ke0a ke0b ke1a ke1b ke2a ke2b ke3a ke3b Hbs Hbp Ht Hq l1 l2
      have hb := below_regrown w7 dq osq
      replace K : Hid (Pair2 w n0 d0 n1 d1 (Sort.grow (redrawn w7 dq) osq)) := Pair2.below K.out hb
      clear hb
      generalize Sort.grow (redrawn w7 dq) osq = w8 at *
      go_wp2
      go_ret
      exact ⟨rfl, K.out.2.2⟩

set_option maxRecDepth 100000 in
theorem lifted (os : Os) (started : os.Started) (H : Type) (enc : TypeId × Value → H) :
    ReturnsInHanded {} Try.checked os 4 .any (Rows.ratioPlaysSpec.pre6 enc Try.prog Try.f4 Rows.ratioPlaysRow.domain false) (Rows.ratioPlaysSpec.post enc Try.prog Try.f4 false true false false) := by
  refine returnsInHanded_of_change (C := Try.checked) own started (by kernel_rfl) Try.func4
    (ChangeSpec.witness6 (enc := enc) (C := Try.checked) false ⟨#[], #[.agg #[.int .i64 0, .int .i64 0], .agg #[.int .i64 0, .int .i64 0]], []⟩ 8 (by kernel_rfl) (by kernel_rfl) (by kernel_rfl) (by kernel_rfl)) ?_
  intro W base args ds gs before hval0 hW hcnd _
  have hval : ∀ (j : Nat) t v, Try.f4.params[j]? = some t → args[j]? = some v → Value.okWide Try.prog W .any base t v := hval0
  have hW' := hW
  obtain ⟨p, q, hA0, hV, rfl, hfz, hnd⟩ := hW
  have hA : DataW.TrodAll enc Try.prog W 0 (fun _ => true) true Try.f4.params.toList args.toList ds p := hA0
  rw [Try.params4] at hA hval
  obtain ⟨v0, vs0, dd0, ds0, p0, q0, hargs, rfl, rfl, hh0, r0⟩ := trodAll_cons hA
  obtain ⟨v1, vs1, dd1, ds1, p1, q1, rfl, rfl, rfl, hh1, r1⟩ := trodAll_cons r0
  obtain ⟨rfl, rfl, rfl⟩ := trodAll_nil r1
  obtain rfl : args = #[v0, v1] := by cases args; simp_all
  obtain ⟨rfl, rfl⟩ := trodVars_none hV
  obtain ⟨c0, e0, y0, z0, m0, rfl, rfl, rfl, hy0, hz0⟩ := open_agg2 Try.underlying28 (by kernel_rfl) cells28 (hval 0 28 v0 rfl rfl) hh0
  obtain ⟨n0, k0, rfl, w0⟩ := DataW.trod_int Try.underlying2 hy0
  obtain ⟨d0, l0, rfl, x0⟩ := DataW.trod_int Try.underlying2 hz0
  simp at k0 l0
  subst k0 l0
  obtain ⟨c1, e1, y1, z1, m1, rfl, rfl, rfl, hy1, hz1⟩ := open_agg2 Try.underlying28 (by kernel_rfl) cells28 (hval 1 28 v1 rfl rfl) hh1
  obtain ⟨n1, k1, rfl, w1⟩ := DataW.trod_int Try.underlying2 hy1
  obtain ⟨d1, l1, rfl, x1⟩ := DataW.trod_int Try.underlying2 hz1
  simp at k1 l1
  subst k1 l1
  clear hA0 hval0
  have sr0 : ∀ (W' : World) (sp : Nat → Bool), DataW.Trod enc Try.prog W' 0 sp true 28 (.agg #[.int .i64 n0, .int .i64 d0]) (.agg [.lit (.int .i64 n0), .lit (.int .i64 d0)]) [] := fun W' sp =>
    shut_agg2 (y0 := (.lit (.int .i64 n0), [])) (y1 := (.lit (.int .i64 d0), [])) Try.underlying28 (by kernel_rfl) cells28 ⟨1, by simp [DataW.trod, Try.underlying2, w0]⟩ ⟨1, by simp [DataW.trod, Try.underlying2, x0]⟩
  have sr1 : ∀ (W' : World) (sp : Nat → Bool), DataW.Trod enc Try.prog W' 0 sp true 28 (.agg #[.int .i64 n1, .int .i64 d1]) (.agg [.lit (.int .i64 n1), .lit (.int .i64 d1)]) [] := fun W' sp =>
    shut_agg2 (y0 := (.lit (.int .i64 n1), [])) (y1 := (.lit (.int .i64 d1), [])) Try.underlying28 (by kernel_rfl) cells28 ⟨1, by simp [DataW.trod, Try.underlying2, w1]⟩ ⟨1, by simp [DataW.trod, Try.underlying2, x1]⟩
  refine (walk n0 d0 (bounds_i64 w0) (bounds_i64 x0) n1 d1 (bounds_i64 w1) (bounds_i64 x1) W).mono fun e W' ⟨he, bel⟩ => ?_
  subst he
  exact ⟨_, rfl, _, _, _, [], _, [], hW', trodAll_mk1 (shut_bool Try.underlying4 _), (trodAll_cons_mk (sr0 _ _) (trodAll_cons_mk (sr1 _ _) trodAll_mk0)), rfl, bel.frame _, fun h => by cases h⟩

theorem over : Rows.ratioPlaysRow.holds Try.pinned (OpenSpec.ofChange Rows.ratioPlaysSpec) :=
  OpenClaim.holds_of_wide 4 Try.f4 rfl rfl rfl rfl rfl rfl rfl ⟨rfl, rfl, rfl, rfl, rfl⟩ rfl rfl rfl rfl rfl (by kernel_rfl) Try.func4 (by kernel_rfl)
    (of_decide_eq_true (by kernel_rfl)) (by unfold Func.isWrapper; first | (rw [if_pos (by decide +kernel)]; kernel_rfl) | (rw [if_neg (by decide +kernel)]; exact ⟨rfl, rfl⟩))
    (fun os started H enc _ => lifted os started H enc)

/-- THE STATEMENT -/
theorem proved : Rows.RatioPlaysSaid :=
  over
#print axioms proved
end Go.Proofs.Ytlhjhefbindlkaa.ratioPlays
