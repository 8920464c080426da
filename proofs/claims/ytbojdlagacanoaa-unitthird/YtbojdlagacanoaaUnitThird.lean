/-
  UnitThird, for every input: over a third unit it is as much, as long as all lies within. No conditions.
-/
import Derived.Test.YtbojdlagacanoaaRows
import Derived.Test.YtbojdlagacanoaaUnLaw
import Derived.WalkKit
import Derived.ProofKit
import Derived.OpenShut
import Derived.ShutString
import Derived.ChangeOld
import Derived.Below
import Derived.Lib.SmallJoins
namespace Go.Proofs.Ytbojdlagacanoaa.unitThird
open Go.ChangeShapes Go.WideShapes Go.ChangeAt Go.RowKit Go.Joins
open Go.ChangeMaps (open_string shut_string)
set_option linter.unusedVariables false

theorem own : ownKnob Try.prog.godebug = none := by kernel_rfl
theorem cells30 : Try.prog.cellsOf 30 = 2 := by kernel_rfl

/-- over a third unit it is as much -/
theorem key3 {n d X Y N D M C : Int} {a b c : ByteArray} (r : rightB n d = true) (h1 : cvT n d a b = (X, Y, 0)) (h2 : cvT X Y b c = (N, D, 0)) (h3 : cvT n d a c = (M, C, 0)) : N = M ∧ D = C := by
  rcases cv_ways a b r with ⟨k, _⟩ | ⟨k, _⟩ | ⟨pa, pb, _, k | ⟨X', Y', k, r1, x1⟩⟩
  · rw [h1] at k; cases k
  · rw [h1] at k; cases k
  · rw [h1] at k; cases k
  rw [h1] at k; cases k
  rcases cv_ways b c r1 with ⟨k, _⟩ | ⟨k, _⟩ | ⟨_, pc, _, k | ⟨X', Y', k, r2, x2⟩⟩
  · rw [h2] at k; cases k
  · rw [h2] at k; cases k
  · rw [h2] at k; cases k
  rw [h2] at k; cases k
  rcases cv_ways a c r with ⟨k, _⟩ | ⟨k, _⟩ | ⟨_, _, _, k | ⟨X', Y', k, r3, x3⟩⟩
  · rw [h3] at k; cases k
  · rw [h3] at k; cases k
  · rw [h3] at k; cases k
  rw [h3] at k; cases k
  exact third_one (OkU.of (okU_at pa)) (OkU.of (okU_at pb)) (OkU.of (okU_at pc)) r r1 r2 r3 x1 x2 x3


set_option maxHeartbeats 2000000 in
theorem walk (n0 d0 : Int) (hn0 : I64 n0) (hd0 : I64 d0) (a1 : ByteArray) (hs1 : a1.size ≤ maxLen) (a2 : ByteArray) (hs2 : a2.size ≤ maxLen) (a3 : ByteArray) (hs3 : a3.size ≤ maxLen) (w : World) :
    Calls Try.prog 6 #[rv n0 d0, .string a1, .string a2, .string a3] w fun e w' => e = .returned (.bool true) ∧ Below w.heap.size w w' := by
  unfold maxLen at hs1 hs2 hs3
  by_cases l1 : (50 : Int) < (a1.size : Int)
  · clear hn0 hd0
    have K0 : Hid (Has (w.alloc (.cells #[.int .i64 n0, .int .i64 d0] 30)) (w.heap.size) (.int .i64 n0) (.int .i64 d0)) := has_new w _ _ _
    have B : Hid (Below w.heap.size w (w.alloc (.cells #[.int .i64 n0, .int .i64 d0] 30))) := by unfold Hid; go_grown
    go_enter Try.func6, Try.ntmps6
    go_wp2_with fail
    refine (awake3_any _).mono ?_
    rintro e w1 ⟨rfl, hb⟩
    replace K0 : Hid (Has w1 (w.heap.size) (.int .i64 n0) (.int .i64 d0)) := K0.out.below hb
    replace B : Hid (Below w.heap.size w w1) := below_trans B.out hb
    clear hb 
    go_wp2_with fail
    refine (awake3_any _).mono ?_
    rintro e w2 ⟨rfl, hb⟩
    replace K0 : Hid (Has w2 (w.heap.size) (.int .i64 n0) (.int .i64 d0)) := K0.out.below hb
    replace B : Hid (Below w.heap.size w w2) := below_trans B.out hb
    clear hb 
    go_wp2
    go_ret
    exact ⟨rfl, B.out⟩
  by_cases l2 : (50 : Int) < (a2.size : Int)
  · clear hn0 hd0
    have K0 : Hid (Has (w.alloc (.cells #[.int .i64 n0, .int .i64 d0] 30)) (w.heap.size) (.int .i64 n0) (.int .i64 d0)) := has_new w _ _ _
    have B : Hid (Below w.heap.size w (w.alloc (.cells #[.int .i64 n0, .int .i64 d0] 30))) := by unfold Hid; go_grown
    go_enter Try.func6, Try.ntmps6
    go_wp2_with fail
    refine (awake3_any _).mono ?_
    rintro e w1 ⟨rfl, hb⟩
    replace K0 : Hid (Has w1 (w.heap.size) (.int .i64 n0) (.int .i64 d0)) := K0.out.below hb
    replace B : Hid (Below w.heap.size w w1) := below_trans B.out hb
    clear hb 
    go_wp2_with fail
    refine (awake3_any _).mono ?_
    rintro e w2 ⟨rfl, hb⟩
    replace K0 : Hid (Has w2 (w.heap.size) (.int .i64 n0) (.int .i64 d0)) := K0.out.below hb
    replace B : Hid (Below w.heap.size w w2) := below_trans B.out hb
    clear hb 
    go_wp2
    go_ret
    exact ⟨rfl, B.out⟩
  by_cases l3 : (50 : Int) < (a3.size : Int)
  · clear hn0 hd0
    have K0 : Hid (Has (w.alloc (.cells #[.int .i64 n0, .int .i64 d0] 30)) (w.heap.size) (.int .i64 n0) (.int .i64 d0)) := has_new w _ _ _
    have B : Hid (Below w.heap.size w (w.alloc (.cells #[.int .i64 n0, .int .i64 d0] 30))) := by unfold Hid; go_grown
    go_enter Try.func6, Try.ntmps6
    go_wp2_with fail
    refine (awake3_any _).mono ?_
    rintro e w1 ⟨rfl, hb⟩
    replace K0 : Hid (Has w1 (w.heap.size) (.int .i64 n0) (.int .i64 d0)) := K0.out.below hb
    replace B : Hid (Below w.heap.size w w1) := below_trans B.out hb
    clear hb 
    go_wp2_with fail
    refine (awake3_any _).mono ?_
    rintro e w2 ⟨rfl, hb⟩
    replace K0 : Hid (Has w2 (w.heap.size) (.int .i64 n0) (.int .i64 d0)) := K0.out.below hb
    replace B : Hid (Below w.heap.size w w2) := below_trans B.out hb
    clear hb 
    go_wp2
    go_ret
    exact ⟨rfl, B.out⟩
  have fr : Hid (∀ w, Calls Try.prog 16 #[rv n0 d0] w fun e w' => e = .returned (.bool (rightB n0 d0)) ∧ Below w.heap.size w w') := fun w => rright_any n0 d0 w hn0 hd0
  cases r : rightB n0 d0
  · rw [r] at fr
    clear hn0 hd0 r
    have K0 : Hid (Has (w.alloc (.cells #[.int .i64 n0, .int .i64 d0] 30)) (w.heap.size) (.int .i64 n0) (.int .i64 d0)) := has_new w _ _ _
    have B : Hid (Below w.heap.size w (w.alloc (.cells #[.int .i64 n0, .int .i64 d0] 30))) := by unfold Hid; go_grown
    go_enter Try.func6, Try.ntmps6
    go_wp2_with fail
    refine (awake3_any _).mono ?_
    rintro e w1 ⟨rfl, hb⟩
    replace K0 : Hid (Has w1 (w.heap.size) (.int .i64 n0) (.int .i64 d0)) := K0.out.below hb
    replace B : Hid (Below w.heap.size w w1) := below_trans B.out hb
    clear hb 
    obtain ⟨K0a, K0b, K0c, K0d, K0e⟩ := K0.out
    go_wp2_with fail
    refine (fr.out _).mono ?_
    rintro e w2 ⟨rfl, hb⟩
    clear K0a K0b K0c K0d K0e
    replace K0 : Hid (Has w2 (w.heap.size) (.int .i64 n0) (.int .i64 d0)) := K0.out.below hb
    replace B : Hid (Below w.heap.size w w2) := below_trans B.out hb
    clear hb 
    go_wp2_with fail
    refine (awake3_any _).mono ?_
    rintro e w3 ⟨rfl, hb⟩
    replace K0 : Hid (Has w3 (w.heap.size) (.int .i64 n0) (.int .i64 d0)) := K0.out.below hb
    replace B : Hid (Below w.heap.size w w3) := below_trans B.out hb
    clear hb 
    go_wp2
    go_ret
    exact ⟨rfl, B.out⟩
  rw [r] at fr
  obtain ⟨X, Y, E, h1⟩ : ∃ X Y E, cvT n0 d0 a1 a2 = (X, Y, E) := ⟨_, _, _, rfl⟩
  have b1 := cv_bd a1 a2 hn0 hd0
  rw [h1] at b1
  obtain ⟨N, D, F, h2⟩ : ∃ N D F, cvT X Y a2 a3 = (N, D, F) := ⟨_, _, _, rfl⟩
  obtain ⟨M, C, G, h3⟩ : ∃ M C G, cvT n0 d0 a1 a3 = (M, C, G) := ⟨_, _, _, rfl⟩
  have c1 : Hid (∀ w, Calls Try.prog 14 #[rv n0 d0, .string a1, .string a2] w fun e w' => e = .returned (.tuple #[rv X Y, .int .i64 E]) ∧ Below w.heap.size w w') := fun w => conv3 hn0 hd0 h1 w
  have c2 : Hid (∀ w, Calls Try.prog 14 #[rv X Y, .string a2, .string a3] w fun e w' => e = .returned (.tuple #[rv N D, .int .i64 F]) ∧ Below w.heap.size w w') := fun w => conv3 b1.1 b1.2 h2 w
  have c3 : Hid (∀ w, Calls Try.prog 14 #[rv n0 d0, .string a1, .string a3] w fun e w' => e = .returned (.tuple #[rv M C, .int .i64 G]) ∧ Below w.heap.size w w') := fun w => conv3 hn0 hd0 h3 w
  have key : E = 0 → F = 0 → G = 0 → N = M ∧ D = C := fun e1 e2 e3 => by
    subst e1 e2 e3; exact key3 r h1 h2 h3
  clear hn0 hd0 b1 h1 h2 h3 r
  by_cases z1 : E = 0
  · subst z1
    by_cases z2 : F = 0
    · subst z2
      by_cases z3 : G = 0
      · subst z3
        obtain ⟨rfl, rfl⟩ := key rfl rfl rfl
        clear key
        have K0 : Hid (Has (w.alloc (.cells #[.int .i64 n0, .int .i64 d0] 30)) (w.heap.size) (.int .i64 n0) (.int .i64 d0)) := has_new w _ _ _
        have B : Hid (Below w.heap.size w (w.alloc (.cells #[.int .i64 n0, .int .i64 d0] 30))) := by unfold Hid; go_grown
        go_enter Try.func6, Try.ntmps6
        go_wp2_with fail
        refine (awake3_any _).mono ?_
        rintro e w1 ⟨rfl, hb⟩
        replace K0 : Hid (Has w1 (w.heap.size) (.int .i64 n0) (.int .i64 d0)) := K0.out.below hb
        replace B : Hid (Below w.heap.size w w1) := below_trans B.out hb
        clear hb 
        obtain ⟨K0a, K0b, K0c, K0d, K0e⟩ := K0.out
        go_wp2_with fail
        refine (fr.out _).mono ?_
        rintro e w2 ⟨rfl, hb⟩
        clear K0a K0b K0c K0d K0e
        replace K0 : Hid (Has w2 (w.heap.size) (.int .i64 n0) (.int .i64 d0)) := K0.out.below hb
        replace B : Hid (Below w.heap.size w w2) := below_trans B.out hb
        clear hb fr
        obtain ⟨K0a, K0b, K0c, K0d, K0e⟩ := K0.out
        go_wp2_with fail
        refine (of_any n0 d0 _).mono ?_
        rintro e w3 ⟨rfl, hb⟩
        clear K0a K0b K0c K0d K0e
        replace K0 : Hid (Has w3 (w.heap.size) (.int .i64 n0) (.int .i64 d0)) := K0.out.below hb
        replace B : Hid (Below w.heap.size w w3) := below_trans B.out hb
        clear hb 
        go_wp2_with fail
        refine (c1.out _).mono ?_
        rintro e w4 ⟨rfl, hb⟩
        replace K0 : Hid (Has w4 (w.heap.size) (.int .i64 n0) (.int .i64 d0)) := K0.out.below hb
        replace B : Hid (Below w.heap.size w w4) := below_trans B.out hb
        clear hb c1
        replace K0 : Hid (Has (w4.alloc (.cells #[.int .i64 X, .int .i64 Y] 25)) (w.heap.size) (.int .i64 n0) (.int .i64 d0)) := K0.out.alloc _
        replace B : Hid (Below w.heap.size w (w4.alloc (.cells #[.int .i64 X, .int .i64 Y] 25))) := B.out.alloc B.out.size _
        have KX : Hid (Has (w4.alloc (.cells #[.int .i64 X, .int .i64 Y] 25)) (w4.heap.size) (.int .i64 X) (.int .i64 Y)) := has_new w4 _ _ _
        obtain ⟨KXa, KXb, KXc, KXd, KXe⟩ := KX.out
        go_wp2_with fail
        refine (c2.out _).mono ?_
        rintro e w5 ⟨rfl, hb⟩
        clear KXa KXb KXc KXd KXe
        replace K0 : Hid (Has w5 (w.heap.size) (.int .i64 n0) (.int .i64 d0)) := K0.out.below hb
        replace KX : Hid (Has w5 (w4.heap.size) (.int .i64 X) (.int .i64 Y)) := KX.out.below hb
        replace B : Hid (Below w.heap.size w w5) := below_trans B.out hb
        clear hb c2
        replace K0 : Hid (Has (w5.alloc (.cells #[.int .i64 N, .int .i64 D] 25)) (w.heap.size) (.int .i64 n0) (.int .i64 d0)) := K0.out.alloc _
        replace KX : Hid (Has (w5.alloc (.cells #[.int .i64 N, .int .i64 D] 25)) (w4.heap.size) (.int .i64 X) (.int .i64 Y)) := KX.out.alloc _
        replace B : Hid (Below w.heap.size w (w5.alloc (.cells #[.int .i64 N, .int .i64 D] 25))) := B.out.alloc B.out.size _
        have KN : Hid (Has (w5.alloc (.cells #[.int .i64 N, .int .i64 D] 25)) (w5.heap.size) (.int .i64 N) (.int .i64 D)) := has_new w5 _ _ _
        obtain ⟨K0a, K0b, K0c, K0d, K0e⟩ := K0.out
        go_wp2_with fail
        refine (of_any n0 d0 _).mono ?_
        rintro e w6 ⟨rfl, hb⟩
        clear K0a K0b K0c K0d K0e
        replace K0 : Hid (Has w6 (w.heap.size) (.int .i64 n0) (.int .i64 d0)) := K0.out.below hb
        replace KX : Hid (Has w6 (w4.heap.size) (.int .i64 X) (.int .i64 Y)) := KX.out.below hb
        replace KN : Hid (Has w6 (w5.heap.size) (.int .i64 N) (.int .i64 D)) := KN.out.below hb
        replace B : Hid (Below w.heap.size w w6) := below_trans B.out hb
        clear hb 
        go_wp2_with fail
        refine (c3.out _).mono ?_
        rintro e w7 ⟨rfl, hb⟩
        replace K0 : Hid (Has w7 (w.heap.size) (.int .i64 n0) (.int .i64 d0)) := K0.out.below hb
        replace KX : Hid (Has w7 (w4.heap.size) (.int .i64 X) (.int .i64 Y)) := KX.out.below hb
        replace KN : Hid (Has w7 (w5.heap.size) (.int .i64 N) (.int .i64 D)) := KN.out.below hb
        replace B : Hid (Below w.heap.size w w7) := below_trans B.out hb
        clear hb c3
        replace K0 : Hid (Has (w7.alloc (.cells #[.int .i64 N, .int .i64 D] 25)) (w.heap.size) (.int .i64 n0) (.int .i64 d0)) := K0.out.alloc _
        replace KX : Hid (Has (w7.alloc (.cells #[.int .i64 N, .int .i64 D] 25)) (w4.heap.size) (.int .i64 X) (.int .i64 Y)) := KX.out.alloc _
        replace KN : Hid (Has (w7.alloc (.cells #[.int .i64 N, .int .i64 D] 25)) (w5.heap.size) (.int .i64 N) (.int .i64 D)) := KN.out.alloc _
        replace B : Hid (Below w.heap.size w (w7.alloc (.cells #[.int .i64 N, .int .i64 D] 25))) := B.out.alloc B.out.size _
        have KM : Hid (Has (w7.alloc (.cells #[.int .i64 N, .int .i64 D] 25)) (w7.heap.size) (.int .i64 N) (.int .i64 D)) := has_new w7 _ _ _
        obtain ⟨KNa, KNb, KNc, KNd, KNe⟩ := KN.out
        obtain ⟨KMa, KMb, KMc, KMd, KMe⟩ := KM.out
        go_wp2
        go_ret
        exact ⟨rfl, B.out⟩
      · have y3 : (G == 0) = false := by simp [z3]
        clear key
        have K0 : Hid (Has (w.alloc (.cells #[.int .i64 n0, .int .i64 d0] 30)) (w.heap.size) (.int .i64 n0) (.int .i64 d0)) := has_new w _ _ _
        have B : Hid (Below w.heap.size w (w.alloc (.cells #[.int .i64 n0, .int .i64 d0] 30))) := by unfold Hid; go_grown
        go_enter Try.func6, Try.ntmps6
        go_wp2_with fail
        refine (awake3_any _).mono ?_
        rintro e w1 ⟨rfl, hb⟩
        replace K0 : Hid (Has w1 (w.heap.size) (.int .i64 n0) (.int .i64 d0)) := K0.out.below hb
        replace B : Hid (Below w.heap.size w w1) := below_trans B.out hb
        clear hb 
        obtain ⟨K0a, K0b, K0c, K0d, K0e⟩ := K0.out
        go_wp2_with fail
        refine (fr.out _).mono ?_
        rintro e w2 ⟨rfl, hb⟩
        clear K0a K0b K0c K0d K0e
        replace K0 : Hid (Has w2 (w.heap.size) (.int .i64 n0) (.int .i64 d0)) := K0.out.below hb
        replace B : Hid (Below w.heap.size w w2) := below_trans B.out hb
        clear hb fr
        obtain ⟨K0a, K0b, K0c, K0d, K0e⟩ := K0.out
        go_wp2_with fail
        refine (of_any n0 d0 _).mono ?_
        rintro e w3 ⟨rfl, hb⟩
        clear K0a K0b K0c K0d K0e
        replace K0 : Hid (Has w3 (w.heap.size) (.int .i64 n0) (.int .i64 d0)) := K0.out.below hb
        replace B : Hid (Below w.heap.size w w3) := below_trans B.out hb
        clear hb 
        go_wp2_with fail
        refine (c1.out _).mono ?_
        rintro e w4 ⟨rfl, hb⟩
        replace K0 : Hid (Has w4 (w.heap.size) (.int .i64 n0) (.int .i64 d0)) := K0.out.below hb
        replace B : Hid (Below w.heap.size w w4) := below_trans B.out hb
        clear hb c1
        replace K0 : Hid (Has (w4.alloc (.cells #[.int .i64 X, .int .i64 Y] 25)) (w.heap.size) (.int .i64 n0) (.int .i64 d0)) := K0.out.alloc _
        replace B : Hid (Below w.heap.size w (w4.alloc (.cells #[.int .i64 X, .int .i64 Y] 25))) := B.out.alloc B.out.size _
        have KX : Hid (Has (w4.alloc (.cells #[.int .i64 X, .int .i64 Y] 25)) (w4.heap.size) (.int .i64 X) (.int .i64 Y)) := has_new w4 _ _ _
        obtain ⟨KXa, KXb, KXc, KXd, KXe⟩ := KX.out
        go_wp2_with fail
        refine (c2.out _).mono ?_
        rintro e w5 ⟨rfl, hb⟩
        clear KXa KXb KXc KXd KXe
        replace K0 : Hid (Has w5 (w.heap.size) (.int .i64 n0) (.int .i64 d0)) := K0.out.below hb
        replace KX : Hid (Has w5 (w4.heap.size) (.int .i64 X) (.int .i64 Y)) := KX.out.below hb
        replace B : Hid (Below w.heap.size w w5) := below_trans B.out hb
        clear hb c2
        replace K0 : Hid (Has (w5.alloc (.cells #[.int .i64 N, .int .i64 D] 25)) (w.heap.size) (.int .i64 n0) (.int .i64 d0)) := K0.out.alloc _
        replace KX : Hid (Has (w5.alloc (.cells #[.int .i64 N, .int .i64 D] 25)) (w4.heap.size) (.int .i64 X) (.int .i64 Y)) := KX.out.alloc _
        replace B : Hid (Below w.heap.size w (w5.alloc (.cells #[.int .i64 N, .int .i64 D] 25))) := B.out.alloc B.out.size _
        have KN : Hid (Has (w5.alloc (.cells #[.int .i64 N, .int .i64 D] 25)) (w5.heap.size) (.int .i64 N) (.int .i64 D)) := has_new w5 _ _ _
        obtain ⟨K0a, K0b, K0c, K0d, K0e⟩ := K0.out
        go_wp2_with fail
        refine (of_any n0 d0 _).mono ?_
        rintro e w6 ⟨rfl, hb⟩
        clear K0a K0b K0c K0d K0e
        replace K0 : Hid (Has w6 (w.heap.size) (.int .i64 n0) (.int .i64 d0)) := K0.out.below hb
        replace KX : Hid (Has w6 (w4.heap.size) (.int .i64 X) (.int .i64 Y)) := KX.out.below hb
        replace KN : Hid (Has w6 (w5.heap.size) (.int .i64 N) (.int .i64 D)) := KN.out.below hb
        replace B : Hid (Below w.heap.size w w6) := below_trans B.out hb
        clear hb 
        go_wp2_with fail
        refine (c3.out _).mono ?_
        rintro e w7 ⟨rfl, hb⟩
        replace K0 : Hid (Has w7 (w.heap.size) (.int .i64 n0) (.int .i64 d0)) := K0.out.below hb
        replace KX : Hid (Has w7 (w4.heap.size) (.int .i64 X) (.int .i64 Y)) := KX.out.below hb
        replace KN : Hid (Has w7 (w5.heap.size) (.int .i64 N) (.int .i64 D)) := KN.out.below hb
        replace B : Hid (Below w.heap.size w w7) := below_trans B.out hb
        clear hb c3
        replace K0 : Hid (Has (w7.alloc (.cells #[.int .i64 M, .int .i64 C] 25)) (w.heap.size) (.int .i64 n0) (.int .i64 d0)) := K0.out.alloc _
        replace KX : Hid (Has (w7.alloc (.cells #[.int .i64 M, .int .i64 C] 25)) (w4.heap.size) (.int .i64 X) (.int .i64 Y)) := KX.out.alloc _
        replace KN : Hid (Has (w7.alloc (.cells #[.int .i64 M, .int .i64 C] 25)) (w5.heap.size) (.int .i64 N) (.int .i64 D)) := KN.out.alloc _
        replace B : Hid (Below w.heap.size w (w7.alloc (.cells #[.int .i64 M, .int .i64 C] 25))) := B.out.alloc B.out.size _
        have KM : Hid (Has (w7.alloc (.cells #[.int .i64 M, .int .i64 C] 25)) (w7.heap.size) (.int .i64 M) (.int .i64 C)) := has_new w7 _ _ _
        obtain ⟨KNa, KNb, KNc, KNd, KNe⟩ := KN.out
        obtain ⟨KMa, KMb, KMc, KMd, KMe⟩ := KM.out
        go_wp2
        go_ret
        exact ⟨rfl, B.out⟩
    · have y2 : (F == 0) = false := by simp [z2]
      clear key
      have K0 : Hid (Has (w.alloc (.cells #[.int .i64 n0, .int .i64 d0] 30)) (w.heap.size) (.int .i64 n0) (.int .i64 d0)) := has_new w _ _ _
      have B : Hid (Below w.heap.size w (w.alloc (.cells #[.int .i64 n0, .int .i64 d0] 30))) := by unfold Hid; go_grown
      go_enter Try.func6, Try.ntmps6
      go_wp2_with fail
      refine (awake3_any _).mono ?_
      rintro e w1 ⟨rfl, hb⟩
      replace K0 : Hid (Has w1 (w.heap.size) (.int .i64 n0) (.int .i64 d0)) := K0.out.below hb
      replace B : Hid (Below w.heap.size w w1) := below_trans B.out hb
      clear hb 
      obtain ⟨K0a, K0b, K0c, K0d, K0e⟩ := K0.out
      go_wp2_with fail
      refine (fr.out _).mono ?_
      rintro e w2 ⟨rfl, hb⟩
      clear K0a K0b K0c K0d K0e
      replace K0 : Hid (Has w2 (w.heap.size) (.int .i64 n0) (.int .i64 d0)) := K0.out.below hb
      replace B : Hid (Below w.heap.size w w2) := below_trans B.out hb
      clear hb fr
      obtain ⟨K0a, K0b, K0c, K0d, K0e⟩ := K0.out
      go_wp2_with fail
      refine (of_any n0 d0 _).mono ?_
      rintro e w3 ⟨rfl, hb⟩
      clear K0a K0b K0c K0d K0e
      replace K0 : Hid (Has w3 (w.heap.size) (.int .i64 n0) (.int .i64 d0)) := K0.out.below hb
      replace B : Hid (Below w.heap.size w w3) := below_trans B.out hb
      clear hb 
      go_wp2_with fail
      refine (c1.out _).mono ?_
      rintro e w4 ⟨rfl, hb⟩
      replace K0 : Hid (Has w4 (w.heap.size) (.int .i64 n0) (.int .i64 d0)) := K0.out.below hb
      replace B : Hid (Below w.heap.size w w4) := below_trans B.out hb
      clear hb c1
      replace K0 : Hid (Has (w4.alloc (.cells #[.int .i64 X, .int .i64 Y] 25)) (w.heap.size) (.int .i64 n0) (.int .i64 d0)) := K0.out.alloc _
      replace B : Hid (Below w.heap.size w (w4.alloc (.cells #[.int .i64 X, .int .i64 Y] 25))) := B.out.alloc B.out.size _
      have KX : Hid (Has (w4.alloc (.cells #[.int .i64 X, .int .i64 Y] 25)) (w4.heap.size) (.int .i64 X) (.int .i64 Y)) := has_new w4 _ _ _
      obtain ⟨KXa, KXb, KXc, KXd, KXe⟩ := KX.out
      go_wp2_with fail
      refine (c2.out _).mono ?_
      rintro e w5 ⟨rfl, hb⟩
      clear KXa KXb KXc KXd KXe
      replace K0 : Hid (Has w5 (w.heap.size) (.int .i64 n0) (.int .i64 d0)) := K0.out.below hb
      replace KX : Hid (Has w5 (w4.heap.size) (.int .i64 X) (.int .i64 Y)) := KX.out.below hb
      replace B : Hid (Below w.heap.size w w5) := below_trans B.out hb
      clear hb c2
      replace K0 : Hid (Has (w5.alloc (.cells #[.int .i64 N, .int .i64 D] 25)) (w.heap.size) (.int .i64 n0) (.int .i64 d0)) := K0.out.alloc _
      replace KX : Hid (Has (w5.alloc (.cells #[.int .i64 N, .int .i64 D] 25)) (w4.heap.size) (.int .i64 X) (.int .i64 Y)) := KX.out.alloc _
      replace B : Hid (Below w.heap.size w (w5.alloc (.cells #[.int .i64 N, .int .i64 D] 25))) := B.out.alloc B.out.size _
      have KN : Hid (Has (w5.alloc (.cells #[.int .i64 N, .int .i64 D] 25)) (w5.heap.size) (.int .i64 N) (.int .i64 D)) := has_new w5 _ _ _
      obtain ⟨K0a, K0b, K0c, K0d, K0e⟩ := K0.out
      go_wp2_with fail
      refine (of_any n0 d0 _).mono ?_
      rintro e w6 ⟨rfl, hb⟩
      clear K0a K0b K0c K0d K0e
      replace K0 : Hid (Has w6 (w.heap.size) (.int .i64 n0) (.int .i64 d0)) := K0.out.below hb
      replace KX : Hid (Has w6 (w4.heap.size) (.int .i64 X) (.int .i64 Y)) := KX.out.below hb
      replace KN : Hid (Has w6 (w5.heap.size) (.int .i64 N) (.int .i64 D)) := KN.out.below hb
      replace B : Hid (Below w.heap.size w w6) := below_trans B.out hb
      clear hb 
      go_wp2_with fail
      refine (c3.out _).mono ?_
      rintro e w7 ⟨rfl, hb⟩
      replace K0 : Hid (Has w7 (w.heap.size) (.int .i64 n0) (.int .i64 d0)) := K0.out.below hb
      replace KX : Hid (Has w7 (w4.heap.size) (.int .i64 X) (.int .i64 Y)) := KX.out.below hb
      replace KN : Hid (Has w7 (w5.heap.size) (.int .i64 N) (.int .i64 D)) := KN.out.below hb
      replace B : Hid (Below w.heap.size w w7) := below_trans B.out hb
      clear hb c3
      replace K0 : Hid (Has (w7.alloc (.cells #[.int .i64 M, .int .i64 C] 25)) (w.heap.size) (.int .i64 n0) (.int .i64 d0)) := K0.out.alloc _
      replace KX : Hid (Has (w7.alloc (.cells #[.int .i64 M, .int .i64 C] 25)) (w4.heap.size) (.int .i64 X) (.int .i64 Y)) := KX.out.alloc _
      replace KN : Hid (Has (w7.alloc (.cells #[.int .i64 M, .int .i64 C] 25)) (w5.heap.size) (.int .i64 N) (.int .i64 D)) := KN.out.alloc _
      replace B : Hid (Below w.heap.size w (w7.alloc (.cells #[.int .i64 M, .int .i64 C] 25))) := B.out.alloc B.out.size _
      have KM : Hid (Has (w7.alloc (.cells #[.int .i64 M, .int .i64 C] 25)) (w7.heap.size) (.int .i64 M) (.int .i64 C)) := has_new w7 _ _ _
      obtain ⟨KNa, KNb, KNc, KNd, KNe⟩ := KN.out
      obtain ⟨KMa, KMb, KMc, KMd, KMe⟩ := KM.out
      go_wp2
      go_ret
      exact ⟨rfl, B.out⟩
  · have y1 : (E == 0) = false := by simp [z1]
    clear key
    have K0 : Hid (Has (w.alloc (.cells #[.int .i64 n0, .int .i64 d0] 30)) (w.heap.size) (.int .i64 n0) (.int .i64 d0)) := has_new w _ _ _
    have B : Hid (Below w.heap.size w (w.alloc (.cells #[.int .i64 n0, .int .i64 d0] 30))) := by unfold Hid; go_grown
    go_enter Try.func6, Try.ntmps6
    go_wp2_with fail
    refine (awake3_any _).mono ?_
    rintro e w1 ⟨rfl, hb⟩
    replace K0 : Hid (Has w1 (w.heap.size) (.int .i64 n0) (.int .i64 d0)) := K0.out.below hb
    replace B : Hid (Below w.heap.size w w1) := below_trans B.out hb
    clear hb 
    obtain ⟨K0a, K0b, K0c, K0d, K0e⟩ := K0.out
    go_wp2_with fail
    refine (fr.out _).mono ?_
    rintro e w2 ⟨rfl, hb⟩
    clear K0a K0b K0c K0d K0e
    replace K0 : Hid (Has w2 (w.heap.size) (.int .i64 n0) (.int .i64 d0)) := K0.out.below hb
    replace B : Hid (Below w.heap.size w w2) := below_trans B.out hb
    clear hb fr
    obtain ⟨K0a, K0b, K0c, K0d, K0e⟩ := K0.out
    go_wp2_with fail
    refine (of_any n0 d0 _).mono ?_
    rintro e w3 ⟨rfl, hb⟩
    clear K0a K0b K0c K0d K0e
    replace K0 : Hid (Has w3 (w.heap.size) (.int .i64 n0) (.int .i64 d0)) := K0.out.below hb
    replace B : Hid (Below w.heap.size w w3) := below_trans B.out hb
    clear hb 
    go_wp2_with fail
    refine (c1.out _).mono ?_
    rintro e w4 ⟨rfl, hb⟩
    replace K0 : Hid (Has w4 (w.heap.size) (.int .i64 n0) (.int .i64 d0)) := K0.out.below hb
    replace B : Hid (Below w.heap.size w w4) := below_trans B.out hb
    clear hb c1
    replace K0 : Hid (Has (w4.alloc (.cells #[.int .i64 X, .int .i64 Y] 25)) (w.heap.size) (.int .i64 n0) (.int .i64 d0)) := K0.out.alloc _
    replace B : Hid (Below w.heap.size w (w4.alloc (.cells #[.int .i64 X, .int .i64 Y] 25))) := B.out.alloc B.out.size _
    have KX : Hid (Has (w4.alloc (.cells #[.int .i64 X, .int .i64 Y] 25)) (w4.heap.size) (.int .i64 X) (.int .i64 Y)) := has_new w4 _ _ _
    obtain ⟨KXa, KXb, KXc, KXd, KXe⟩ := KX.out
    go_wp2_with fail
    refine (c2.out _).mono ?_
    rintro e w5 ⟨rfl, hb⟩
    clear KXa KXb KXc KXd KXe
    replace K0 : Hid (Has w5 (w.heap.size) (.int .i64 n0) (.int .i64 d0)) := K0.out.below hb
    replace KX : Hid (Has w5 (w4.heap.size) (.int .i64 X) (.int .i64 Y)) := KX.out.below hb
    replace B : Hid (Below w.heap.size w w5) := below_trans B.out hb
    clear hb c2
    replace K0 : Hid (Has (w5.alloc (.cells #[.int .i64 N, .int .i64 D] 25)) (w.heap.size) (.int .i64 n0) (.int .i64 d0)) := K0.out.alloc _
    replace KX : Hid (Has (w5.alloc (.cells #[.int .i64 N, .int .i64 D] 25)) (w4.heap.size) (.int .i64 X) (.int .i64 Y)) := KX.out.alloc _
    replace B : Hid (Below w.heap.size w (w5.alloc (.cells #[.int .i64 N, .int .i64 D] 25))) := B.out.alloc B.out.size _
    have KN : Hid (Has (w5.alloc (.cells #[.int .i64 N, .int .i64 D] 25)) (w5.heap.size) (.int .i64 N) (.int .i64 D)) := has_new w5 _ _ _
    obtain ⟨K0a, K0b, K0c, K0d, K0e⟩ := K0.out
    go_wp2_with fail
    refine (of_any n0 d0 _).mono ?_
    rintro e w6 ⟨rfl, hb⟩
    clear K0a K0b K0c K0d K0e
    replace K0 : Hid (Has w6 (w.heap.size) (.int .i64 n0) (.int .i64 d0)) := K0.out.below hb
    replace KX : Hid (Has w6 (w4.heap.size) (.int .i64 X) (.int .i64 Y)) := KX.out.below hb
    replace KN : Hid (Has w6 (w5.heap.size) (.int .i64 N) (.int .i64 D)) := KN.out.below hb
    replace B : Hid (Below w.heap.size w w6) := below_trans B.out hb
    clear hb 
    go_wp2_with fail
    refine (c3.out _).mono ?_
    rintro e w7 ⟨rfl, hb⟩
    replace K0 : Hid (Has w7 (w.heap.size) (.int .i64 n0) (.int .i64 d0)) := K0.out.below hb
    replace KX : Hid (Has w7 (w4.heap.size) (.int .i64 X) (.int .i64 Y)) := KX.out.below hb
    replace KN : Hid (Has w7 (w5.heap.size) (.int .i64 N) (.int .i64 D)) := KN.out.below hb
    replace B : Hid (Below w.heap.size w w7) := below_trans B.out hb
    clear hb c3
    replace K0 : Hid (Has (w7.alloc (.cells #[.int .i64 M, .int .i64 C] 25)) (w.heap.size) (.int .i64 n0) (.int .i64 d0)) := K0.out.alloc _
    replace KX : Hid (Has (w7.alloc (.cells #[.int .i64 M, .int .i64 C] 25)) (w4.heap.size) (.int .i64 X) (.int .i64 Y)) := KX.out.alloc _
    replace KN : Hid (Has (w7.alloc (.cells #[.int .i64 M, .int .i64 C] 25)) (w5.heap.size) (.int .i64 N) (.int .i64 D)) := KN.out.alloc _
    replace B : Hid (Below w.heap.size w (w7.alloc (.cells #[.int .i64 M, .int .i64 C] 25))) := B.out.alloc B.out.size _
    have KM : Hid (Has (w7.alloc (.cells #[.int .i64 M, .int .i64 C] 25)) (w7.heap.size) (.int .i64 M) (.int .i64 C)) := has_new w7 _ _ _
    obtain ⟨KNa, KNb, KNc, KNd, KNe⟩ := KN.out
    obtain ⟨KMa, KMb, KMc, KMd, KMe⟩ := KM.out
    go_wp2
    go_ret
    exact ⟨rfl, B.out⟩

set_option maxRecDepth 100000 in
theorem lifted (os : Os) (started : os.Started) (H : Type) (enc : TypeId × Value → H) :
    ReturnsInHanded {} Try.checked os 6 .any (Rows.unitThirdSpec.pre6 enc Try.prog Try.f6 Rows.unitThirdRow.domain false) (Rows.unitThirdSpec.post enc Try.prog Try.f6 false true false false) := by
  refine returnsInHanded_of_change (C := Try.checked) own started (by kernel_rfl) Try.func6
    (ChangeSpec.witness6 (enc := enc) (C := Try.checked) false ⟨#[], #[.agg #[.int .i64 0, .int .i64 0], .string ByteArray.empty, .string ByteArray.empty, .string ByteArray.empty], []⟩ 8 (by kernel_rfl) (by kernel_rfl) (by kernel_rfl) (by kernel_rfl)) ?_
  intro W base args ds gs before hval0 hW hcnd _
  have hval : ∀ (j : Nat) t v, Try.f6.params[j]? = some t → args[j]? = some v → Value.okWide Try.prog W .any base t v := hval0
  have hW' := hW
  obtain ⟨p, q, hA0, hV, rfl, hfz, hnd⟩ := hW
  have hA : DataW.TrodAll enc Try.prog W 0 (fun _ => true) true Try.f6.params.toList args.toList ds p := hA0
  rw [Try.params6] at hA hval
  obtain ⟨v0, vs0, dd0, ds0, p0, q0, hargs, rfl, rfl, hh0, r0⟩ := trodAll_cons hA
  obtain ⟨v1, vs1, dd1, ds1, p1, q1, rfl, rfl, rfl, hh1, r1⟩ := trodAll_cons r0
  obtain ⟨v2, vs2, dd2, ds2, p2, q2, rfl, rfl, rfl, hh2, r2⟩ := trodAll_cons r1
  obtain ⟨v3, vs3, dd3, ds3, p3, q3, rfl, rfl, rfl, hh3, r3⟩ := trodAll_cons r2
  obtain ⟨rfl, rfl, rfl⟩ := trodAll_nil r3
  obtain rfl : args = #[v0, v1, v2, v3] := by cases args; simp_all
  obtain ⟨rfl, rfl⟩ := trodVars_none hV
  obtain ⟨c0, e0, y0, z0, m0, rfl, rfl, rfl, hy0, hz0⟩ := open_agg2 Try.underlying30 (by kernel_rfl) cells30 (hval 0 30 v0 rfl rfl) hh0
  obtain ⟨n0, k0, rfl, w0⟩ := DataW.trod_int Try.underlying2 hy0
  obtain ⟨d0, l0, rfl, x0⟩ := DataW.trod_int Try.underlying2 hz0
  simp at k0 l0
  subst k0 l0
  obtain ⟨a1, rfl, rfl, rfl, w1⟩ := open_string Try.underlying9 (hval 1 9 v1 rfl rfl) hh1
  obtain ⟨a2, rfl, rfl, rfl, w2⟩ := open_string Try.underlying9 (hval 2 9 v2 rfl rfl) hh2
  obtain ⟨a3, rfl, rfl, rfl, w3⟩ := open_string Try.underlying9 (hval 3 9 v3 rfl rfl) hh3
  clear hA0 hval0
  have sr0 : ∀ (W' : World) (sp : Nat → Bool), DataW.Trod enc Try.prog W' 0 sp true 30 (.agg #[.int .i64 n0, .int .i64 d0]) (.agg [.lit (.int .i64 n0), .lit (.int .i64 d0)]) [] := fun W' sp =>
    shut_agg2 (y0 := (.lit (.int .i64 n0), [])) (y1 := (.lit (.int .i64 d0), [])) Try.underlying30 (by kernel_rfl) cells30 ⟨1, by simp [DataW.trod, Try.underlying2, w0]⟩ ⟨1, by simp [DataW.trod, Try.underlying2, x0]⟩
  refine (walk n0 d0 (bounds_i64 w0) (bounds_i64 x0) a1 w1 a2 w2 a3 w3 W).mono fun e W' ⟨he, bel⟩ => ?_
  subst he
  exact ⟨_, rfl, _, _, _, [], _, [], hW', trodAll_mk1 (shut_bool Try.underlying4 _), (trodAll_cons_mk (sr0 _ _) (trodAll_cons_mk (shut_string Try.underlying9 w1) (trodAll_cons_mk (shut_string Try.underlying9 w2) (trodAll_cons_mk (shut_string Try.underlying9 w3) trodAll_mk0)))), rfl, bel.frame _, fun h => by cases h⟩

theorem over : Rows.unitThirdRow.holds Try.pinned (OpenSpec.ofChange Rows.unitThirdSpec) :=
  OpenClaim.holds_of_wide 6 Try.f6 rfl rfl rfl rfl rfl rfl rfl ⟨rfl, rfl, rfl, rfl, rfl⟩ rfl rfl rfl rfl rfl (by kernel_rfl) Try.func6 (by kernel_rfl)
    (of_decide_eq_true (by kernel_rfl)) (by unfold Func.isWrapper; first | (rw [if_pos (by decide +kernel)]; kernel_rfl) | (rw [if_neg (by decide +kernel)]; exact ⟨rfl, rfl⟩))
    (fun os started H enc _ => lifted os started H enc)

/-- THE STATEMENT -/
theorem proved : Rows.UnitThirdSaid :=
  over
#print axioms proved
end Go.Proofs.Ytbojdlagacanoaa.unitThird
