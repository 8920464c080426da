/-
  UnitBack, for every input: there and back is what it was; order is kept, as long as all lies within. No conditions.
-/
import Derived.Test.YtbojdlagacanoaaRows
import Derived.Test.YtbojdlagacanoaaUnLaw
import Derived.Test.YtbojdlagacanoaaRatE
import Derived.WalkKit
import Derived.ProofKit
import Derived.OpenShut
import Derived.ShutString
import Derived.ChangeOld
import Derived.Below
import Derived.Lib.SmallJoins
namespace Go.Proofs.Ytbojdlagacanoaa.unitBack
open Go.ChangeShapes Go.WideShapes Go.ChangeAt Go.RowKit Go.Joins
open Go.ChangeMaps (open_string shut_string)
set_option linter.unusedVariables false

theorem own : ownKnob Try.prog.godebug = none := by kernel_rfl
theorem cells30 : Try.prog.cellsOf 30 = 2 := by kernel_rfl

/-- what the first way answers, of a right fraction: nothing, or the units are there, of one kind -/
theorem first_way {n d : Int} {a b : ByteArray} (r : rightB n d = true) :
    (cvT n d a b = (0, 0, 4) ∨ cvT n d a b = (0, 0, 5) ∨ cvT n d a b = (0, 0, 2)) ∨ (isU a = true ∧ isU b = true ∧ dimB (atU a) (atU b) = true ∧ ∃ X Y, cvT n d a b = (X, Y, 0) ∧ rightB X Y = true ∧ X * (d * cQ (atU a) (atU b)) = (n * cP (atU a) (atU b) + d * cR (atU a) (atU b)) * Y) := by
  rcases cv_ways a b r with ⟨k, _⟩ | ⟨k, _⟩ | ⟨pa, pb, dd, k | ⟨X, Y, k, r1, x1⟩⟩
  · exact .inl (.inl k)
  · exact .inl (.inr (.inl k))
  · exact .inl (.inr (.inr k))
  · exact .inr ⟨pa, pb, dd, X, Y, k, r1, x1⟩
/-- another way between units that are there, of one kind -/
theorem more_way {n d : Int} {a b : ByteArray} (pa : isU a = true) (pb : isU b = true) (dd : dimB (atU a) (atU b) = true) (r : rightB n d = true) :
    cvT n d a b = (0, 0, 2) ∨ ∃ X Y, cvT n d a b = (X, Y, 0) ∧ rightB X Y = true ∧ X * (d * cQ (atU a) (atU b)) = (n * cP (atU a) (atU b) + d * cR (atU a) (atU b)) * Y := by
  rcases cv_ways a b r with ⟨_, k⟩ | ⟨_, _, _, k⟩ | ⟨_, _, _, k⟩
  · rw [pa, pb] at k; cases k
  · rw [dd] at k; cases k
  · exact k


set_option maxHeartbeats 16000000 in
theorem walk (n0 d0 : Int) (hn0 : I64 n0) (hd0 : I64 d0) (n1 d1 : Int) (hn1 : I64 n1) (hd1 : I64 d1) (a2 : ByteArray) (hs2 : a2.size ≤ maxLen) (a3 : ByteArray) (hs3 : a3.size ≤ maxLen) (w : World) :
    Calls Try.prog 5 #[rv n0 d0, rv n1 d1, .string a2, .string a3] w fun e w' => e = .returned (.bool true) ∧ Below w.heap.size w w' := by
  unfold maxLen at hs2 hs3
  by_cases l2 : (50 : Int) < (a2.size : Int)
  · clear hn0 hd0 hn1 hd1
    have K0 : Hid (Has ((w.alloc (.cells #[.int .i64 n0, .int .i64 d0] 30)).alloc (.cells #[.int .i64 n1, .int .i64 d1] 30)) (w.heap.size) (.int .i64 n0) (.int .i64 d0)) := (has_new w _ _ _).alloc _
    have K1 : Hid (Has ((w.alloc (.cells #[.int .i64 n0, .int .i64 d0] 30)).alloc (.cells #[.int .i64 n1, .int .i64 d1] 30)) (w.heap.size + 1) (.int .i64 n1) (.int .i64 d1)) := has_lit _ _ _ (by simp)
    have B : Hid (Below w.heap.size w ((w.alloc (.cells #[.int .i64 n0, .int .i64 d0] 30)).alloc (.cells #[.int .i64 n1, .int .i64 d1] 30))) := by unfold Hid; go_grown
    go_enter Try.func5, Try.ntmps5
    go_wp2_with fail
    refine (awake3_any _).mono ?_
    rintro e w1 ⟨rfl, hb⟩
    replace K0 : Hid (Has w1 (w.heap.size) (.int .i64 n0) (.int .i64 d0)) := K0.out.below hb
    replace K1 : Hid (Has w1 (w.heap.size + 1) (.int .i64 n1) (.int .i64 d1)) := K1.out.below hb
    replace B : Hid (Below w.heap.size w w1) := below_trans B.out hb
    clear hb 
    go_wp2_with fail
    refine (awake3_any _).mono ?_
    rintro e w2 ⟨rfl, hb⟩
    replace K0 : Hid (Has w2 (w.heap.size) (.int .i64 n0) (.int .i64 d0)) := K0.out.below hb
    replace K1 : Hid (Has w2 (w.heap.size + 1) (.int .i64 n1) (.int .i64 d1)) := K1.out.below hb
    replace B : Hid (Below w.heap.size w w2) := below_trans B.out hb
    clear hb 
    go_wp2
    go_ret
    exact ⟨rfl, B.out⟩
  by_cases l3 : (50 : Int) < (a3.size : Int)
  · clear hn0 hd0 hn1 hd1
    have K0 : Hid (Has ((w.alloc (.cells #[.int .i64 n0, .int .i64 d0] 30)).alloc (.cells #[.int .i64 n1, .int .i64 d1] 30)) (w.heap.size) (.int .i64 n0) (.int .i64 d0)) := (has_new w _ _ _).alloc _
    have K1 : Hid (Has ((w.alloc (.cells #[.int .i64 n0, .int .i64 d0] 30)).alloc (.cells #[.int .i64 n1, .int .i64 d1] 30)) (w.heap.size + 1) (.int .i64 n1) (.int .i64 d1)) := has_lit _ _ _ (by simp)
    have B : Hid (Below w.heap.size w ((w.alloc (.cells #[.int .i64 n0, .int .i64 d0] 30)).alloc (.cells #[.int .i64 n1, .int .i64 d1] 30))) := by unfold Hid; go_grown
    go_enter Try.func5, Try.ntmps5
    go_wp2_with fail
    refine (awake3_any _).mono ?_
    rintro e w1 ⟨rfl, hb⟩
    replace K0 : Hid (Has w1 (w.heap.size) (.int .i64 n0) (.int .i64 d0)) := K0.out.below hb
    replace K1 : Hid (Has w1 (w.heap.size + 1) (.int .i64 n1) (.int .i64 d1)) := K1.out.below hb
    replace B : Hid (Below w.heap.size w w1) := below_trans B.out hb
    clear hb 
    go_wp2_with fail
    refine (awake3_any _).mono ?_
    rintro e w2 ⟨rfl, hb⟩
    replace K0 : Hid (Has w2 (w.heap.size) (.int .i64 n0) (.int .i64 d0)) := K0.out.below hb
    replace K1 : Hid (Has w2 (w.heap.size + 1) (.int .i64 n1) (.int .i64 d1)) := K1.out.below hb
    replace B : Hid (Below w.heap.size w w2) := below_trans B.out hb
    clear hb 
    go_wp2
    go_ret
    exact ⟨rfl, B.out⟩
  have fr : Hid (∀ w, Calls Try.prog 16 #[rv n0 d0] w fun e w' => e = .returned (.bool (rightB n0 d0)) ∧ Below w.heap.size w w') := fun w => rright_any n0 d0 w hn0 hd0
  have fs : Hid (∀ w, Calls Try.prog 16 #[rv n1 d1] w fun e w' => e = .returned (.bool (rightB n1 d1)) ∧ Below w.heap.size w w') := fun w => rright_any n1 d1 w hn1 hd1
  cases r : rightB n0 d0
  · rw [r] at fr
    clear hn0 hd0 hn1 hd1 r fs
    have K0 : Hid (Has ((w.alloc (.cells #[.int .i64 n0, .int .i64 d0] 30)).alloc (.cells #[.int .i64 n1, .int .i64 d1] 30)) (w.heap.size) (.int .i64 n0) (.int .i64 d0)) := (has_new w _ _ _).alloc _
    have K1 : Hid (Has ((w.alloc (.cells #[.int .i64 n0, .int .i64 d0] 30)).alloc (.cells #[.int .i64 n1, .int .i64 d1] 30)) (w.heap.size + 1) (.int .i64 n1) (.int .i64 d1)) := has_lit _ _ _ (by simp)
    have B : Hid (Below w.heap.size w ((w.alloc (.cells #[.int .i64 n0, .int .i64 d0] 30)).alloc (.cells #[.int .i64 n1, .int .i64 d1] 30))) := by unfold Hid; go_grown
    go_enter Try.func5, Try.ntmps5
    go_wp2_with fail
    refine (awake3_any _).mono ?_
    rintro e w1 ⟨rfl, hb⟩
    replace K0 : Hid (Has w1 (w.heap.size) (.int .i64 n0) (.int .i64 d0)) := K0.out.below hb
    replace K1 : Hid (Has w1 (w.heap.size + 1) (.int .i64 n1) (.int .i64 d1)) := K1.out.below hb
    replace B : Hid (Below w.heap.size w w1) := below_trans B.out hb
    clear hb 
    obtain ⟨K0a, K0b, K0c, K0d, K0e⟩ := K0.out
    go_wp2_with fail
    refine (fr.out _).mono ?_
    rintro e w2 ⟨rfl, hb⟩
    clear K0a K0b K0c K0d K0e
    replace K0 : Hid (Has w2 (w.heap.size) (.int .i64 n0) (.int .i64 d0)) := K0.out.below hb
    replace K1 : Hid (Has w2 (w.heap.size + 1) (.int .i64 n1) (.int .i64 d1)) := K1.out.below hb
    replace B : Hid (Below w.heap.size w w2) := below_trans B.out hb
    clear hb fr
    go_wp2_with fail
    refine (awake3_any _).mono ?_
    rintro e w3 ⟨rfl, hb⟩
    replace K0 : Hid (Has w3 (w.heap.size) (.int .i64 n0) (.int .i64 d0)) := K0.out.below hb
    replace K1 : Hid (Has w3 (w.heap.size + 1) (.int .i64 n1) (.int .i64 d1)) := K1.out.below hb
    replace B : Hid (Below w.heap.size w w3) := below_trans B.out hb
    clear hb 
    go_wp2
    go_ret
    exact ⟨rfl, B.out⟩
  rw [r] at fr
  cases s : rightB n1 d1
  · rw [s] at fs
    clear hn0 hd0 hn1 hd1 r s
    have K0 : Hid (Has ((w.alloc (.cells #[.int .i64 n0, .int .i64 d0] 30)).alloc (.cells #[.int .i64 n1, .int .i64 d1] 30)) (w.heap.size) (.int .i64 n0) (.int .i64 d0)) := (has_new w _ _ _).alloc _
    have K1 : Hid (Has ((w.alloc (.cells #[.int .i64 n0, .int .i64 d0] 30)).alloc (.cells #[.int .i64 n1, .int .i64 d1] 30)) (w.heap.size + 1) (.int .i64 n1) (.int .i64 d1)) := has_lit _ _ _ (by simp)
    have B : Hid (Below w.heap.size w ((w.alloc (.cells #[.int .i64 n0, .int .i64 d0] 30)).alloc (.cells #[.int .i64 n1, .int .i64 d1] 30))) := by unfold Hid; go_grown
    go_enter Try.func5, Try.ntmps5
    go_wp2_with fail
    refine (awake3_any _).mono ?_
    rintro e w1 ⟨rfl, hb⟩
    replace K0 : Hid (Has w1 (w.heap.size) (.int .i64 n0) (.int .i64 d0)) := K0.out.below hb
    replace K1 : Hid (Has w1 (w.heap.size + 1) (.int .i64 n1) (.int .i64 d1)) := K1.out.below hb
    replace B : Hid (Below w.heap.size w w1) := below_trans B.out hb
    clear hb 
    obtain ⟨K0a, K0b, K0c, K0d, K0e⟩ := K0.out
    go_wp2_with fail
    refine (fr.out _).mono ?_
    rintro e w2 ⟨rfl, hb⟩
    clear K0a K0b K0c K0d K0e
    replace K0 : Hid (Has w2 (w.heap.size) (.int .i64 n0) (.int .i64 d0)) := K0.out.below hb
    replace K1 : Hid (Has w2 (w.heap.size + 1) (.int .i64 n1) (.int .i64 d1)) := K1.out.below hb
    replace B : Hid (Below w.heap.size w w2) := below_trans B.out hb
    clear hb fr
    obtain ⟨K1a, K1b, K1c, K1d, K1e⟩ := K1.out
    go_wp2_with fail
    refine (fs.out _).mono ?_
    rintro e w3 ⟨rfl, hb⟩
    clear K1a K1b K1c K1d K1e
    replace K0 : Hid (Has w3 (w.heap.size) (.int .i64 n0) (.int .i64 d0)) := K0.out.below hb
    replace K1 : Hid (Has w3 (w.heap.size + 1) (.int .i64 n1) (.int .i64 d1)) := K1.out.below hb
    replace B : Hid (Below w.heap.size w w3) := below_trans B.out hb
    clear hb fs
    go_wp2_with fail
    refine (awake3_any _).mono ?_
    rintro e w4 ⟨rfl, hb⟩
    replace K0 : Hid (Has w4 (w.heap.size) (.int .i64 n0) (.int .i64 d0)) := K0.out.below hb
    replace K1 : Hid (Has w4 (w.heap.size + 1) (.int .i64 n1) (.int .i64 d1)) := K1.out.below hb
    replace B : Hid (Below w.heap.size w w4) := below_trans B.out hb
    clear hb 
    go_wp2
    go_ret
    exact ⟨rfl, B.out⟩
  rw [s] at fs
  rcases first_way (a := a2) (b := a3) r with (k1 | k1 | k1) | ⟨pa, pb, dd, X, Y, k1, r1, x1⟩
  · have c1 : Hid (∀ w, Calls Try.prog 14 #[rv n0 d0, .string a2, .string a3] w fun e w' => e = .returned (.tuple #[rv 0 0, .int .i64 4]) ∧ Below w.heap.size w w') := fun w => conv3 hn0 hd0 k1 w
    clear k1 r s hn0 hd0 hn1 hd1
    have K0 : Hid (Has ((w.alloc (.cells #[.int .i64 n0, .int .i64 d0] 30)).alloc (.cells #[.int .i64 n1, .int .i64 d1] 30)) (w.heap.size) (.int .i64 n0) (.int .i64 d0)) := (has_new w _ _ _).alloc _
    have K1 : Hid (Has ((w.alloc (.cells #[.int .i64 n0, .int .i64 d0] 30)).alloc (.cells #[.int .i64 n1, .int .i64 d1] 30)) (w.heap.size + 1) (.int .i64 n1) (.int .i64 d1)) := has_lit _ _ _ (by simp)
    have B : Hid (Below w.heap.size w ((w.alloc (.cells #[.int .i64 n0, .int .i64 d0] 30)).alloc (.cells #[.int .i64 n1, .int .i64 d1] 30))) := by unfold Hid; go_grown
    go_enter Try.func5, Try.ntmps5
    go_wp2_with fail
    refine (awake3_any _).mono ?_
    rintro e w1 ⟨rfl, hb⟩
    replace K0 : Hid (Has w1 (w.heap.size) (.int .i64 n0) (.int .i64 d0)) := K0.out.below hb
    replace K1 : Hid (Has w1 (w.heap.size + 1) (.int .i64 n1) (.int .i64 d1)) := K1.out.below hb
    replace B : Hid (Below w.heap.size w w1) := below_trans B.out hb
    clear hb 
    obtain ⟨K0a, K0b, K0c, K0d, K0e⟩ := K0.out
    go_wp2_with fail
    refine (fr.out _).mono ?_
    rintro e w2 ⟨rfl, hb⟩
    clear K0a K0b K0c K0d K0e
    replace K0 : Hid (Has w2 (w.heap.size) (.int .i64 n0) (.int .i64 d0)) := K0.out.below hb
    replace K1 : Hid (Has w2 (w.heap.size + 1) (.int .i64 n1) (.int .i64 d1)) := K1.out.below hb
    replace B : Hid (Below w.heap.size w w2) := below_trans B.out hb
    clear hb fr
    obtain ⟨K1a, K1b, K1c, K1d, K1e⟩ := K1.out
    go_wp2_with fail
    refine (fs.out _).mono ?_
    rintro e w3 ⟨rfl, hb⟩
    clear K1a K1b K1c K1d K1e
    replace K0 : Hid (Has w3 (w.heap.size) (.int .i64 n0) (.int .i64 d0)) := K0.out.below hb
    replace K1 : Hid (Has w3 (w.heap.size + 1) (.int .i64 n1) (.int .i64 d1)) := K1.out.below hb
    replace B : Hid (Below w.heap.size w w3) := below_trans B.out hb
    clear hb fs
    obtain ⟨K0a, K0b, K0c, K0d, K0e⟩ := K0.out
    go_wp2_with fail
    refine (of_any n0 d0 _).mono ?_
    rintro e w4 ⟨rfl, hb⟩
    clear K0a K0b K0c K0d K0e
    replace K0 : Hid (Has w4 (w.heap.size) (.int .i64 n0) (.int .i64 d0)) := K0.out.below hb
    replace K1 : Hid (Has w4 (w.heap.size + 1) (.int .i64 n1) (.int .i64 d1)) := K1.out.below hb
    replace B : Hid (Below w.heap.size w w4) := below_trans B.out hb
    clear hb 
    go_wp2_with fail
    refine (c1.out _).mono ?_
    rintro e w5 ⟨rfl, hb⟩
    replace K0 : Hid (Has w5 (w.heap.size) (.int .i64 n0) (.int .i64 d0)) := K0.out.below hb
    replace K1 : Hid (Has w5 (w.heap.size + 1) (.int .i64 n1) (.int .i64 d1)) := K1.out.below hb
    replace B : Hid (Below w.heap.size w w5) := below_trans B.out hb
    clear hb c1
    replace K0 : Hid (Has (w5.alloc (.cells #[.int .i64 0, .int .i64 0] 25)) (w.heap.size) (.int .i64 n0) (.int .i64 d0)) := K0.out.alloc _
    replace K1 : Hid (Has (w5.alloc (.cells #[.int .i64 0, .int .i64 0] 25)) (w.heap.size + 1) (.int .i64 n1) (.int .i64 d1)) := K1.out.alloc _
    replace B : Hid (Below w.heap.size w (w5.alloc (.cells #[.int .i64 0, .int .i64 0] 25))) := B.out.alloc B.out.size _
    have KX : Hid (Has (w5.alloc (.cells #[.int .i64 0, .int .i64 0] 25)) (w5.heap.size) (.int .i64 0) (.int .i64 0)) := has_new w5 _ _ _
    go_wp2
    go_ret
    exact ⟨rfl, B.out⟩
  · have c1 : Hid (∀ w, Calls Try.prog 14 #[rv n0 d0, .string a2, .string a3] w fun e w' => e = .returned (.tuple #[rv 0 0, .int .i64 5]) ∧ Below w.heap.size w w') := fun w => conv3 hn0 hd0 k1 w
    clear k1 r s hn0 hd0 hn1 hd1
    have K0 : Hid (Has ((w.alloc (.cells #[.int .i64 n0, .int .i64 d0] 30)).alloc (.cells #[.int .i64 n1, .int .i64 d1] 30)) (w.heap.size) (.int .i64 n0) (.int .i64 d0)) := (has_new w _ _ _).alloc _
    have K1 : Hid (Has ((w.alloc (.cells #[.int .i64 n0, .int .i64 d0] 30)).alloc (.cells #[.int .i64 n1, .int .i64 d1] 30)) (w.heap.size + 1) (.int .i64 n1) (.int .i64 d1)) := has_lit _ _ _ (by simp)
    have B : Hid (Below w.heap.size w ((w.alloc (.cells #[.int .i64 n0, .int .i64 d0] 30)).alloc (.cells #[.int .i64 n1, .int .i64 d1] 30))) := by unfold Hid; go_grown
    go_enter Try.func5, Try.ntmps5
    go_wp2_with fail
    refine (awake3_any _).mono ?_
    rintro e w1 ⟨rfl, hb⟩
    replace K0 : Hid (Has w1 (w.heap.size) (.int .i64 n0) (.int .i64 d0)) := K0.out.below hb
    replace K1 : Hid (Has w1 (w.heap.size + 1) (.int .i64 n1) (.int .i64 d1)) := K1.out.below hb
    replace B : Hid (Below w.heap.size w w1) := below_trans B.out hb
    clear hb 
    obtain ⟨K0a, K0b, K0c, K0d, K0e⟩ := K0.out
    go_wp2_with fail
    refine (fr.out _).mono ?_
    rintro e w2 ⟨rfl, hb⟩
    clear K0a K0b K0c K0d K0e
    replace K0 : Hid (Has w2 (w.heap.size) (.int .i64 n0) (.int .i64 d0)) := K0.out.below hb
    replace K1 : Hid (Has w2 (w.heap.size + 1) (.int .i64 n1) (.int .i64 d1)) := K1.out.below hb
    replace B : Hid (Below w.heap.size w w2) := below_trans B.out hb
    clear hb fr
    obtain ⟨K1a, K1b, K1c, K1d, K1e⟩ := K1.out
    go_wp2_with fail
    refine (fs.out _).mono ?_
    rintro e w3 ⟨rfl, hb⟩
    clear K1a K1b K1c K1d K1e
    replace K0 : Hid (Has w3 (w.heap.size) (.int .i64 n0) (.int .i64 d0)) := K0.out.below hb
    replace K1 : Hid (Has w3 (w.heap.size + 1) (.int .i64 n1) (.int .i64 d1)) := K1.out.below hb
    replace B : Hid (Below w.heap.size w w3) := below_trans B.out hb
    clear hb fs
    obtain ⟨K0a, K0b, K0c, K0d, K0e⟩ := K0.out
    go_wp2_with fail
    refine (of_any n0 d0 _).mono ?_
    rintro e w4 ⟨rfl, hb⟩
    clear K0a K0b K0c K0d K0e
    replace K0 : Hid (Has w4 (w.heap.size) (.int .i64 n0) (.int .i64 d0)) := K0.out.below hb
    replace K1 : Hid (Has w4 (w.heap.size + 1) (.int .i64 n1) (.int .i64 d1)) := K1.out.below hb
    replace B : Hid (Below w.heap.size w w4) := below_trans B.out hb
    clear hb 
    go_wp2_with fail
    refine (c1.out _).mono ?_
    rintro e w5 ⟨rfl, hb⟩
    replace K0 : Hid (Has w5 (w.heap.size) (.int .i64 n0) (.int .i64 d0)) := K0.out.below hb
    replace K1 : Hid (Has w5 (w.heap.size + 1) (.int .i64 n1) (.int .i64 d1)) := K1.out.below hb
    replace B : Hid (Below w.heap.size w w5) := below_trans B.out hb
    clear hb c1
    replace K0 : Hid (Has (w5.alloc (.cells #[.int .i64 0, .int .i64 0] 25)) (w.heap.size) (.int .i64 n0) (.int .i64 d0)) := K0.out.alloc _
    replace K1 : Hid (Has (w5.alloc (.cells #[.int .i64 0, .int .i64 0] 25)) (w.heap.size + 1) (.int .i64 n1) (.int .i64 d1)) := K1.out.alloc _
    replace B : Hid (Below w.heap.size w (w5.alloc (.cells #[.int .i64 0, .int .i64 0] 25))) := B.out.alloc B.out.size _
    have KX : Hid (Has (w5.alloc (.cells #[.int .i64 0, .int .i64 0] 25)) (w5.heap.size) (.int .i64 0) (.int .i64 0)) := has_new w5 _ _ _
    go_wp2
    go_ret
    exact ⟨rfl, B.out⟩
  · have c1 : Hid (∀ w, Calls Try.prog 14 #[rv n0 d0, .string a2, .string a3] w fun e w' => e = .returned (.tuple #[rv 0 0, .int .i64 2]) ∧ Below w.heap.size w w') := fun w => conv3 hn0 hd0 k1 w
    clear k1 r s hn0 hd0 hn1 hd1
    have K0 : Hid (Has ((w.alloc (.cells #[.int .i64 n0, .int .i64 d0] 30)).alloc (.cells #[.int .i64 n1, .int .i64 d1] 30)) (w.heap.size) (.int .i64 n0) (.int .i64 d0)) := (has_new w _ _ _).alloc _
    have K1 : Hid (Has ((w.alloc (.cells #[.int .i64 n0, .int .i64 d0] 30)).alloc (.cells #[.int .i64 n1, .int .i64 d1] 30)) (w.heap.size + 1) (.int .i64 n1) (.int .i64 d1)) := has_lit _ _ _ (by simp)
    have B : Hid (Below w.heap.size w ((w.alloc (.cells #[.int .i64 n0, .int .i64 d0] 30)).alloc (.cells #[.int .i64 n1, .int .i64 d1] 30))) := by unfold Hid; go_grown
    go_enter Try.func5, Try.ntmps5
    go_wp2_with fail
    refine (awake3_any _).mono ?_
    rintro e w1 ⟨rfl, hb⟩
    replace K0 : Hid (Has w1 (w.heap.size) (.int .i64 n0) (.int .i64 d0)) := K0.out.below hb
    replace K1 : Hid (Has w1 (w.heap.size + 1) (.int .i64 n1) (.int .i64 d1)) := K1.out.below hb
    replace B : Hid (Below w.heap.size w w1) := below_trans B.out hb
    clear hb 
    obtain ⟨K0a, K0b, K0c, K0d, K0e⟩ := K0.out
    go_wp2_with fail
    refine (fr.out _).mono ?_
    rintro e w2 ⟨rfl, hb⟩
    clear K0a K0b K0c K0d K0e
    replace K0 : Hid (Has w2 (w.heap.size) (.int .i64 n0) (.int .i64 d0)) := K0.out.below hb
    replace K1 : Hid (Has w2 (w.heap.size + 1) (.int .i64 n1) (.int .i64 d1)) := K1.out.below hb
    replace B : Hid (Below w.heap.size w w2) := below_trans B.out hb
    clear hb fr
    obtain ⟨K1a, K1b, K1c, K1d, K1e⟩ := K1.out
    go_wp2_with fail
    refine (fs.out _).mono ?_
    rintro e w3 ⟨rfl, hb⟩
    clear K1a K1b K1c K1d K1e
    replace K0 : Hid (Has w3 (w.heap.size) (.int .i64 n0) (.int .i64 d0)) := K0.out.below hb
    replace K1 : Hid (Has w3 (w.heap.size + 1) (.int .i64 n1) (.int .i64 d1)) := K1.out.below hb
    replace B : Hid (Below w.heap.size w w3) := below_trans B.out hb
    clear hb fs
    obtain ⟨K0a, K0b, K0c, K0d, K0e⟩ := K0.out
    go_wp2_with fail
    refine (of_any n0 d0 _).mono ?_
    rintro e w4 ⟨rfl, hb⟩
    clear K0a K0b K0c K0d K0e
    replace K0 : Hid (Has w4 (w.heap.size) (.int .i64 n0) (.int .i64 d0)) := K0.out.below hb
    replace K1 : Hid (Has w4 (w.heap.size + 1) (.int .i64 n1) (.int .i64 d1)) := K1.out.below hb
    replace B : Hid (Below w.heap.size w w4) := below_trans B.out hb
    clear hb 
    go_wp2_with fail
    refine (c1.out _).mono ?_
    rintro e w5 ⟨rfl, hb⟩
    replace K0 : Hid (Has w5 (w.heap.size) (.int .i64 n0) (.int .i64 d0)) := K0.out.below hb
    replace K1 : Hid (Has w5 (w.heap.size + 1) (.int .i64 n1) (.int .i64 d1)) := K1.out.below hb
    replace B : Hid (Below w.heap.size w w5) := below_trans B.out hb
    clear hb c1
    replace K0 : Hid (Has (w5.alloc (.cells #[.int .i64 0, .int .i64 0] 25)) (w.heap.size) (.int .i64 n0) (.int .i64 d0)) := K0.out.alloc _
    replace K1 : Hid (Has (w5.alloc (.cells #[.int .i64 0, .int .i64 0] 25)) (w.heap.size + 1) (.int .i64 n1) (.int .i64 d1)) := K1.out.alloc _
    replace B : Hid (Below w.heap.size w (w5.alloc (.cells #[.int .i64 0, .int .i64 0] 25))) := B.out.alloc B.out.size _
    have KX : Hid (Has (w5.alloc (.cells #[.int .i64 0, .int .i64 0] 25)) (w5.heap.size) (.int .i64 0) (.int .i64 0)) := has_new w5 _ _ _
    go_wp2
    go_ret
    exact ⟨rfl, B.out⟩
  have b1 := cv_bd a2 a3 hn0 hd0
  rw [k1] at b1
  have c1 : Hid (∀ w, Calls Try.prog 14 #[rv n0 d0, .string a2, .string a3] w fun e w' => e = .returned (.tuple #[rv X Y, .int .i64 0]) ∧ Below w.heap.size w w') := fun w => conv3 hn0 hd0 k1 w
  have fl : Hid (∀ w, Calls Try.prog 18 #[rv n0 d0, rv n1 d1] w fun e w' => e = .returned (.bool (lessB n0 d0 n1 d1)) ∧ Below w.heap.size w w') := fun w => less_any n0 d0 n1 d1 w hn0 hd0 hn1 hd1
  have dd' := dd
  rw [dimB_comm] at dd'
  rcases more_way pb pa dd' r1 with k2 | ⟨N, D, k2, r2, x2⟩
  · have c2 : Hid (∀ w, Calls Try.prog 14 #[rv X Y, .string a3, .string a2] w fun e w' => e = .returned (.tuple #[rv 0 0, .int .i64 2]) ∧ Below w.heap.size w w') := fun w => conv3 b1.1 b1.2 k2 w
    rcases more_way pa pb dd s with k3 | ⟨M, C, k3, r3, x3⟩
    · have c3 : Hid (∀ w, Calls Try.prog 14 #[rv n1 d1, .string a2, .string a3] w fun e w' => e = .returned (.tuple #[rv 0 0, .int .i64 2]) ∧ Below w.heap.size w w') := fun w => conv3 hn1 hd1 k3 w
      clear fl b1 dd' k1 k2 k3 r r1 x1 s pa pb dd hn0 hd0 hn1 hd1 
      have K0 : Hid (Has ((w.alloc (.cells #[.int .i64 n0, .int .i64 d0] 30)).alloc (.cells #[.int .i64 n1, .int .i64 d1] 30)) (w.heap.size) (.int .i64 n0) (.int .i64 d0)) := (has_new w _ _ _).alloc _
      have K1 : Hid (Has ((w.alloc (.cells #[.int .i64 n0, .int .i64 d0] 30)).alloc (.cells #[.int .i64 n1, .int .i64 d1] 30)) (w.heap.size + 1) (.int .i64 n1) (.int .i64 d1)) := has_lit _ _ _ (by simp)
      have B : Hid (Below w.heap.size w ((w.alloc (.cells #[.int .i64 n0, .int .i64 d0] 30)).alloc (.cells #[.int .i64 n1, .int .i64 d1] 30))) := by unfold Hid; go_grown
      go_enter Try.func5, Try.ntmps5
      go_wp2_with fail
      refine (awake3_any _).mono ?_
      rintro e w1 ⟨rfl, hb⟩
      replace K0 : Hid (Has w1 (w.heap.size) (.int .i64 n0) (.int .i64 d0)) := K0.out.below hb
      replace K1 : Hid (Has w1 (w.heap.size + 1) (.int .i64 n1) (.int .i64 d1)) := K1.out.below hb
      replace B : Hid (Below w.heap.size w w1) := below_trans B.out hb
      clear hb 
      obtain ⟨K0a, K0b, K0c, K0d, K0e⟩ := K0.out
      go_wp2_with fail
      refine (fr.out _).mono ?_
      rintro e w2 ⟨rfl, hb⟩
      clear K0a K0b K0c K0d K0e
      replace K0 : Hid (Has w2 (w.heap.size) (.int .i64 n0) (.int .i64 d0)) := K0.out.below hb
      replace K1 : Hid (Has w2 (w.heap.size + 1) (.int .i64 n1) (.int .i64 d1)) := K1.out.below hb
      replace B : Hid (Below w.heap.size w w2) := below_trans B.out hb
      clear hb fr
      obtain ⟨K1a, K1b, K1c, K1d, K1e⟩ := K1.out
      go_wp2_with fail
      refine (fs.out _).mono ?_
      rintro e w3 ⟨rfl, hb⟩
      clear K1a K1b K1c K1d K1e
      replace K0 : Hid (Has w3 (w.heap.size) (.int .i64 n0) (.int .i64 d0)) := K0.out.below hb
      replace K1 : Hid (Has w3 (w.heap.size + 1) (.int .i64 n1) (.int .i64 d1)) := K1.out.below hb
      replace B : Hid (Below w.heap.size w w3) := below_trans B.out hb
      clear hb fs
      obtain ⟨K0a, K0b, K0c, K0d, K0e⟩ := K0.out
      go_wp2_with fail
      refine (of_any n0 d0 _).mono ?_
      rintro e w4 ⟨rfl, hb⟩
      clear K0a K0b K0c K0d K0e
      replace K0 : Hid (Has w4 (w.heap.size) (.int .i64 n0) (.int .i64 d0)) := K0.out.below hb
      replace K1 : Hid (Has w4 (w.heap.size + 1) (.int .i64 n1) (.int .i64 d1)) := K1.out.below hb
      replace B : Hid (Below w.heap.size w w4) := below_trans B.out hb
      clear hb 
      go_wp2_with fail
      refine (c1.out _).mono ?_
      rintro e w5 ⟨rfl, hb⟩
      replace K0 : Hid (Has w5 (w.heap.size) (.int .i64 n0) (.int .i64 d0)) := K0.out.below hb
      replace K1 : Hid (Has w5 (w.heap.size + 1) (.int .i64 n1) (.int .i64 d1)) := K1.out.below hb
      replace B : Hid (Below w.heap.size w w5) := below_trans B.out hb
      clear hb c1
      replace K0 : Hid (Has (w5.alloc (.cells #[.int .i64 X, .int .i64 Y] 25)) (w.heap.size) (.int .i64 n0) (.int .i64 d0)) := K0.out.alloc _
      replace K1 : Hid (Has (w5.alloc (.cells #[.int .i64 X, .int .i64 Y] 25)) (w.heap.size + 1) (.int .i64 n1) (.int .i64 d1)) := K1.out.alloc _
      replace B : Hid (Below w.heap.size w (w5.alloc (.cells #[.int .i64 X, .int .i64 Y] 25))) := B.out.alloc B.out.size _
      have KX : Hid (Has (w5.alloc (.cells #[.int .i64 X, .int .i64 Y] 25)) (w5.heap.size) (.int .i64 X) (.int .i64 Y)) := has_new w5 _ _ _
      obtain ⟨KXa, KXb, KXc, KXd, KXe⟩ := KX.out
      go_wp2_with fail
      refine (c2.out _).mono ?_
      rintro e w6 ⟨rfl, hb⟩
      clear KXa KXb KXc KXd KXe
      replace K0 : Hid (Has w6 (w.heap.size) (.int .i64 n0) (.int .i64 d0)) := K0.out.below hb
      replace K1 : Hid (Has w6 (w.heap.size + 1) (.int .i64 n1) (.int .i64 d1)) := K1.out.below hb
      replace KX : Hid (Has w6 (w5.heap.size) (.int .i64 X) (.int .i64 Y)) := KX.out.below hb
      replace B : Hid (Below w.heap.size w w6) := below_trans B.out hb
      clear hb c2
      replace K0 : Hid (Has (w6.alloc (.cells #[.int .i64 0, .int .i64 0] 25)) (w.heap.size) (.int .i64 n0) (.int .i64 d0)) := K0.out.alloc _
      replace K1 : Hid (Has (w6.alloc (.cells #[.int .i64 0, .int .i64 0] 25)) (w.heap.size + 1) (.int .i64 n1) (.int .i64 d1)) := K1.out.alloc _
      replace KX : Hid (Has (w6.alloc (.cells #[.int .i64 0, .int .i64 0] 25)) (w5.heap.size) (.int .i64 X) (.int .i64 Y)) := KX.out.alloc _
      replace B : Hid (Below w.heap.size w (w6.alloc (.cells #[.int .i64 0, .int .i64 0] 25))) := B.out.alloc B.out.size _
      have KN : Hid (Has (w6.alloc (.cells #[.int .i64 0, .int .i64 0] 25)) (w6.heap.size) (.int .i64 0) (.int .i64 0)) := has_new w6 _ _ _
      obtain ⟨K1a, K1b, K1c, K1d, K1e⟩ := K1.out
      go_wp2_with fail
      refine (of_any n1 d1 _).mono ?_
      rintro e w7 ⟨rfl, hb⟩
      clear K1a K1b K1c K1d K1e
      replace K0 : Hid (Has w7 (w.heap.size) (.int .i64 n0) (.int .i64 d0)) := K0.out.below hb
      replace K1 : Hid (Has w7 (w.heap.size + 1) (.int .i64 n1) (.int .i64 d1)) := K1.out.below hb
      replace KX : Hid (Has w7 (w5.heap.size) (.int .i64 X) (.int .i64 Y)) := KX.out.below hb
      replace KN : Hid (Has w7 (w6.heap.size) (.int .i64 0) (.int .i64 0)) := KN.out.below hb
      replace B : Hid (Below w.heap.size w w7) := below_trans B.out hb
      clear hb 
      go_wp2_with fail
      refine (c3.out _).mono ?_
      rintro e w8 ⟨rfl, hb⟩
      replace K0 : Hid (Has w8 (w.heap.size) (.int .i64 n0) (.int .i64 d0)) := K0.out.below hb
      replace K1 : Hid (Has w8 (w.heap.size + 1) (.int .i64 n1) (.int .i64 d1)) := K1.out.below hb
      replace KX : Hid (Has w8 (w5.heap.size) (.int .i64 X) (.int .i64 Y)) := KX.out.below hb
      replace KN : Hid (Has w8 (w6.heap.size) (.int .i64 0) (.int .i64 0)) := KN.out.below hb
      replace B : Hid (Below w.heap.size w w8) := below_trans B.out hb
      clear hb c3
      replace K0 : Hid (Has (w8.alloc (.cells #[.int .i64 0, .int .i64 0] 25)) (w.heap.size) (.int .i64 n0) (.int .i64 d0)) := K0.out.alloc _
      replace K1 : Hid (Has (w8.alloc (.cells #[.int .i64 0, .int .i64 0] 25)) (w.heap.size + 1) (.int .i64 n1) (.int .i64 d1)) := K1.out.alloc _
      replace KX : Hid (Has (w8.alloc (.cells #[.int .i64 0, .int .i64 0] 25)) (w5.heap.size) (.int .i64 X) (.int .i64 Y)) := KX.out.alloc _
      replace KN : Hid (Has (w8.alloc (.cells #[.int .i64 0, .int .i64 0] 25)) (w6.heap.size) (.int .i64 0) (.int .i64 0)) := KN.out.alloc _
      replace B : Hid (Below w.heap.size w (w8.alloc (.cells #[.int .i64 0, .int .i64 0] 25))) := B.out.alloc B.out.size _
      have KM : Hid (Has (w8.alloc (.cells #[.int .i64 0, .int .i64 0] 25)) (w8.heap.size) (.int .i64 0) (.int .i64 0)) := has_new w8 _ _ _
      go_wp2_with fail
      refine wp_region_quiet_below (by kernel_rfl) (by kernel_rfl) ?_
      repeat (go_big_quiet_step (fail))
      refine wpQuiet_nil ?_
      intro _ hw'
      obtain ⟨⟨dq, osq⟩, hw''⟩ := hw'
      subst hw''
      have hb := below_regrown (w8.alloc (.cells #[.int .i64 0, .int .i64 0] 25)) dq osq
      replace K0 : Hid (Has (Sort.grow (redrawn (w8.alloc (.cells #[.int .i64 0, .int .i64 0] 25)) dq) osq) (w.heap.size) (.int .i64 n0) (.int .i64 d0)) := K0.out.below hb
      replace K1 : Hid (Has (Sort.grow (redrawn (w8.alloc (.cells #[.int .i64 0, .int .i64 0] 25)) dq) osq) (w.heap.size + 1) (.int .i64 n1) (.int .i64 d1)) := K1.out.below hb
      replace KX : Hid (Has (Sort.grow (redrawn (w8.alloc (.cells #[.int .i64 0, .int .i64 0] 25)) dq) osq) (w5.heap.size) (.int .i64 X) (.int .i64 Y)) := KX.out.below hb
      replace KN : Hid (Has (Sort.grow (redrawn (w8.alloc (.cells #[.int .i64 0, .int .i64 0] 25)) dq) osq) (w6.heap.size) (.int .i64 0) (.int .i64 0)) := KN.out.below hb
      replace KM : Hid (Has (Sort.grow (redrawn (w8.alloc (.cells #[.int .i64 0, .int .i64 0] 25)) dq) osq) (w8.heap.size) (.int .i64 0) (.int .i64 0)) := KM.out.below hb
      replace B : Hid (Below w.heap.size w (Sort.grow (redrawn (w8.alloc (.cells #[.int .i64 0, .int .i64 0] 25)) dq) osq)) := below_trans B.out hb
      clear hb
      generalize Sort.grow (redrawn (w8.alloc (.cells #[.int .i64 0, .int .i64 0] 25)) dq) osq = w9 at *
      go_wp2_with fail
      refine wp_region_quiet_below (by kernel_rfl) (by kernel_rfl) ?_
      repeat (go_big_quiet_step (fail))
      refine wpQuiet_nil ?_
      intro _ hw'
      obtain ⟨⟨dq, osq⟩, hw''⟩ := hw'
      subst hw''
      have hb := below_regrown w9 dq osq
      replace K0 : Hid (Has (Sort.grow (redrawn w9 dq) osq) (w.heap.size) (.int .i64 n0) (.int .i64 d0)) := K0.out.below hb
      replace K1 : Hid (Has (Sort.grow (redrawn w9 dq) osq) (w.heap.size + 1) (.int .i64 n1) (.int .i64 d1)) := K1.out.below hb
      replace KX : Hid (Has (Sort.grow (redrawn w9 dq) osq) (w5.heap.size) (.int .i64 X) (.int .i64 Y)) := KX.out.below hb
      replace KN : Hid (Has (Sort.grow (redrawn w9 dq) osq) (w6.heap.size) (.int .i64 0) (.int .i64 0)) := KN.out.below hb
      replace KM : Hid (Has (Sort.grow (redrawn w9 dq) osq) (w8.heap.size) (.int .i64 0) (.int .i64 0)) := KM.out.below hb
      replace B : Hid (Below w.heap.size w (Sort.grow (redrawn w9 dq) osq)) := below_trans B.out hb
      clear hb
      generalize Sort.grow (redrawn w9 dq) osq = w10 at *
      go_wp2
      go_ret
      exact ⟨rfl, B.out⟩
    · have c3 : Hid (∀ w, Calls Try.prog 14 #[rv n1 d1, .string a2, .string a3] w fun e w' => e = .returned (.tuple #[rv M C, .int .i64 0]) ∧ Below w.heap.size w w') := fun w => conv3 hn1 hd1 k3 w
      have b3 := cv_bd a2 a3 hn1 hd1
      rw [k3] at b3
      have ok := order_kept (OkU.of (okU_at pa)) (OkU.of (okU_at pb)) r s r1 r3 x1 x3
      have fm : Hid (∀ w, Calls Try.prog 18 #[rv X Y, rv M C] w fun e w' => e = .returned (.bool (lessB n0 d0 n1 d1)) ∧ Below w.heap.size w w') := fun w => by rw [ok]; exact less_any X Y M C w b1.1 b1.2 b3.1 b3.2
      generalize lessB n0 d0 n1 d1 = ls at *
      clear ok b1 b3 dd' k1 k2 k3 r r1 r3 x1 x3 s pa pb dd hn0 hd0 hn1 hd1 
      cases ls
      all_goals
        have K0 : Hid (Has ((w.alloc (.cells #[.int .i64 n0, .int .i64 d0] 30)).alloc (.cells #[.int .i64 n1, .int .i64 d1] 30)) (w.heap.size) (.int .i64 n0) (.int .i64 d0)) := (has_new w _ _ _).alloc _
        have K1 : Hid (Has ((w.alloc (.cells #[.int .i64 n0, .int .i64 d0] 30)).alloc (.cells #[.int .i64 n1, .int .i64 d1] 30)) (w.heap.size + 1) (.int .i64 n1) (.int .i64 d1)) := has_lit _ _ _ (by simp)
        have B : Hid (Below w.heap.size w ((w.alloc (.cells #[.int .i64 n0, .int .i64 d0] 30)).alloc (.cells #[.int .i64 n1, .int .i64 d1] 30))) := by unfold Hid; go_grown
        go_enter Try.func5, Try.ntmps5
        go_wp2_with fail
        refine (awake3_any _).mono ?_
        rintro e w1 ⟨rfl, hb⟩
        replace K0 : Hid (Has w1 (w.heap.size) (.int .i64 n0) (.int .i64 d0)) := K0.out.below hb
        replace K1 : Hid (Has w1 (w.heap.size + 1) (.int .i64 n1) (.int .i64 d1)) := K1.out.below hb
        replace B : Hid (Below w.heap.size w w1) := below_trans B.out hb
        clear hb 
        obtain ⟨K0a, K0b, K0c, K0d, K0e⟩ := K0.out
        go_wp2_with fail
        refine (fr.out _).mono ?_
        rintro e w2 ⟨rfl, hb⟩
        clear K0a K0b K0c K0d K0e
        replace K0 : Hid (Has w2 (w.heap.size) (.int .i64 n0) (.int .i64 d0)) := K0.out.below hb
        replace K1 : Hid (Has w2 (w.heap.size + 1) (.int .i64 n1) (.int .i64 d1)) := K1.out.below hb
        replace B : Hid (Below w.heap.size w w2) := below_trans B.out hb
        clear hb fr
        obtain ⟨K1a, K1b, K1c, K1d, K1e⟩ := K1.out
        go_wp2_with fail
        refine (fs.out _).mono ?_
        rintro e w3 ⟨rfl, hb⟩
        clear K1a K1b K1c K1d K1e
        replace K0 : Hid (Has w3 (w.heap.size) (.int .i64 n0) (.int .i64 d0)) := K0.out.below hb
        replace K1 : Hid (Has w3 (w.heap.size + 1) (.int .i64 n1) (.int .i64 d1)) := K1.out.below hb
        replace B : Hid (Below w.heap.size w w3) := below_trans B.out hb
        clear hb fs
        obtain ⟨K0a, K0b, K0c, K0d, K0e⟩ := K0.out
        go_wp2_with fail
        refine (of_any n0 d0 _).mono ?_
        rintro e w4 ⟨rfl, hb⟩
        clear K0a K0b K0c K0d K0e
        replace K0 : Hid (Has w4 (w.heap.size) (.int .i64 n0) (.int .i64 d0)) := K0.out.below hb
        replace K1 : Hid (Has w4 (w.heap.size + 1) (.int .i64 n1) (.int .i64 d1)) := K1.out.below hb
        replace B : Hid (Below w.heap.size w w4) := below_trans B.out hb
        clear hb 
        go_wp2_with fail
        refine (c1.out _).mono ?_
        rintro e w5 ⟨rfl, hb⟩
        replace K0 : Hid (Has w5 (w.heap.size) (.int .i64 n0) (.int .i64 d0)) := K0.out.below hb
        replace K1 : Hid (Has w5 (w.heap.size + 1) (.int .i64 n1) (.int .i64 d1)) := K1.out.below hb
        replace B : Hid (Below w.heap.size w w5) := below_trans B.out hb
        clear hb c1
        replace K0 : Hid (Has (w5.alloc (.cells #[.int .i64 X, .int .i64 Y] 25)) (w.heap.size) (.int .i64 n0) (.int .i64 d0)) := K0.out.alloc _
        replace K1 : Hid (Has (w5.alloc (.cells #[.int .i64 X, .int .i64 Y] 25)) (w.heap.size + 1) (.int .i64 n1) (.int .i64 d1)) := K1.out.alloc _
        replace B : Hid (Below w.heap.size w (w5.alloc (.cells #[.int .i64 X, .int .i64 Y] 25))) := B.out.alloc B.out.size _
        have KX : Hid (Has (w5.alloc (.cells #[.int .i64 X, .int .i64 Y] 25)) (w5.heap.size) (.int .i64 X) (.int .i64 Y)) := has_new w5 _ _ _
        obtain ⟨KXa, KXb, KXc, KXd, KXe⟩ := KX.out
        go_wp2_with fail
        refine (c2.out _).mono ?_
        rintro e w6 ⟨rfl, hb⟩
        clear KXa KXb KXc KXd KXe
        replace K0 : Hid (Has w6 (w.heap.size) (.int .i64 n0) (.int .i64 d0)) := K0.out.below hb
        replace K1 : Hid (Has w6 (w.heap.size + 1) (.int .i64 n1) (.int .i64 d1)) := K1.out.below hb
        replace KX : Hid (Has w6 (w5.heap.size) (.int .i64 X) (.int .i64 Y)) := KX.out.below hb
        replace B : Hid (Below w.heap.size w w6) := below_trans B.out hb
        clear hb c2
        replace K0 : Hid (Has (w6.alloc (.cells #[.int .i64 0, .int .i64 0] 25)) (w.heap.size) (.int .i64 n0) (.int .i64 d0)) := K0.out.alloc _
        replace K1 : Hid (Has (w6.alloc (.cells #[.int .i64 0, .int .i64 0] 25)) (w.heap.size + 1) (.int .i64 n1) (.int .i64 d1)) := K1.out.alloc _
        replace KX : Hid (Has (w6.alloc (.cells #[.int .i64 0, .int .i64 0] 25)) (w5.heap.size) (.int .i64 X) (.int .i64 Y)) := KX.out.alloc _
        replace B : Hid (Below w.heap.size w (w6.alloc (.cells #[.int .i64 0, .int .i64 0] 25))) := B.out.alloc B.out.size _
        have KN : Hid (Has (w6.alloc (.cells #[.int .i64 0, .int .i64 0] 25)) (w6.heap.size) (.int .i64 0) (.int .i64 0)) := has_new w6 _ _ _
        obtain ⟨K1a, K1b, K1c, K1d, K1e⟩ := K1.out
        go_wp2_with fail
        refine (of_any n1 d1 _).mono ?_
        rintro e w7 ⟨rfl, hb⟩
        clear K1a K1b K1c K1d K1e
        replace K0 : Hid (Has w7 (w.heap.size) (.int .i64 n0) (.int .i64 d0)) := K0.out.below hb
        replace K1 : Hid (Has w7 (w.heap.size + 1) (.int .i64 n1) (.int .i64 d1)) := K1.out.below hb
        replace KX : Hid (Has w7 (w5.heap.size) (.int .i64 X) (.int .i64 Y)) := KX.out.below hb
        replace KN : Hid (Has w7 (w6.heap.size) (.int .i64 0) (.int .i64 0)) := KN.out.below hb
        replace B : Hid (Below w.heap.size w w7) := below_trans B.out hb
        clear hb 
        go_wp2_with fail
        refine (c3.out _).mono ?_
        rintro e w8 ⟨rfl, hb⟩
        replace K0 : Hid (Has w8 (w.heap.size) (.int .i64 n0) (.int .i64 d0)) := K0.out.below hb
        replace K1 : Hid (Has w8 (w.heap.size + 1) (.int .i64 n1) (.int .i64 d1)) := K1.out.below hb
        replace KX : Hid (Has w8 (w5.heap.size) (.int .i64 X) (.int .i64 Y)) := KX.out.below hb
        replace KN : Hid (Has w8 (w6.heap.size) (.int .i64 0) (.int .i64 0)) := KN.out.below hb
        replace B : Hid (Below w.heap.size w w8) := below_trans B.out hb
        clear hb c3
        replace K0 : Hid (Has (w8.alloc (.cells #[.int .i64 M, .int .i64 C] 25)) (w.heap.size) (.int .i64 n0) (.int .i64 d0)) := K0.out.alloc _
        replace K1 : Hid (Has (w8.alloc (.cells #[.int .i64 M, .int .i64 C] 25)) (w.heap.size + 1) (.int .i64 n1) (.int .i64 d1)) := K1.out.alloc _
        replace KX : Hid (Has (w8.alloc (.cells #[.int .i64 M, .int .i64 C] 25)) (w5.heap.size) (.int .i64 X) (.int .i64 Y)) := KX.out.alloc _
        replace KN : Hid (Has (w8.alloc (.cells #[.int .i64 M, .int .i64 C] 25)) (w6.heap.size) (.int .i64 0) (.int .i64 0)) := KN.out.alloc _
        replace B : Hid (Below w.heap.size w (w8.alloc (.cells #[.int .i64 M, .int .i64 C] 25))) := B.out.alloc B.out.size _
        have KM : Hid (Has (w8.alloc (.cells #[.int .i64 M, .int .i64 C] 25)) (w8.heap.size) (.int .i64 M) (.int .i64 C)) := has_new w8 _ _ _
        go_wp2_with fail
        refine wp_region_quiet_below (by kernel_rfl) (by kernel_rfl) ?_
        repeat (go_big_quiet_step (fail))
        refine wpQuiet_nil ?_
        intro _ hw'
        obtain ⟨⟨dq, osq⟩, hw''⟩ := hw'
        subst hw''
        have hb := below_regrown (w8.alloc (.cells #[.int .i64 M, .int .i64 C] 25)) dq osq
        replace K0 : Hid (Has (Sort.grow (redrawn (w8.alloc (.cells #[.int .i64 M, .int .i64 C] 25)) dq) osq) (w.heap.size) (.int .i64 n0) (.int .i64 d0)) := K0.out.below hb
        replace K1 : Hid (Has (Sort.grow (redrawn (w8.alloc (.cells #[.int .i64 M, .int .i64 C] 25)) dq) osq) (w.heap.size + 1) (.int .i64 n1) (.int .i64 d1)) := K1.out.below hb
        replace KX : Hid (Has (Sort.grow (redrawn (w8.alloc (.cells #[.int .i64 M, .int .i64 C] 25)) dq) osq) (w5.heap.size) (.int .i64 X) (.int .i64 Y)) := KX.out.below hb
        replace KN : Hid (Has (Sort.grow (redrawn (w8.alloc (.cells #[.int .i64 M, .int .i64 C] 25)) dq) osq) (w6.heap.size) (.int .i64 0) (.int .i64 0)) := KN.out.below hb
        replace KM : Hid (Has (Sort.grow (redrawn (w8.alloc (.cells #[.int .i64 M, .int .i64 C] 25)) dq) osq) (w8.heap.size) (.int .i64 M) (.int .i64 C)) := KM.out.below hb
        replace B : Hid (Below w.heap.size w (Sort.grow (redrawn (w8.alloc (.cells #[.int .i64 M, .int .i64 C] 25)) dq) osq)) := below_trans B.out hb
        clear hb
        generalize Sort.grow (redrawn (w8.alloc (.cells #[.int .i64 M, .int .i64 C] 25)) dq) osq = w9 at *
        go_wp2_with fail
        have K0qa := cell_regrown K0.out.1
        have K0qb := cell_regrown K0.out.2.1
        have K1qa := cell_regrown K1.out.1
        have K1qb := cell_regrown K1.out.2.1
        have KXqa := cell_regrown KX.out.1
        have KXqb := cell_regrown KX.out.2.1
        have KMqa := cell_regrown KM.out.1
        have KMqb := cell_regrown KM.out.2.1
        refine wp_region_quiet_below (by kernel_rfl) (by kernel_rfl) ?_
        repeat (go_big_quiet_step (first
          | (go_at_call 15; first | with_reducible exact Calls.regrown_of (of_any n0 d0 _) | with_reducible exact Calls.regrown_of (of_any n1 d1 _))
          | (go_at_call 18; first | with_reducible exact Calls.regrown_of (fl.out _) | with_reducible exact Calls.regrown_of (fm.out _))))
        refine wpQuiet_nil ?_
        intro _ hw'
        obtain ⟨⟨dq, osq⟩, hw''⟩ := hw'
        subst hw''
        clear K0qa K0qb K1qa K1qb KXqa KXqb KMqa KMqb 
        have hb := below_regrown w9 dq osq
        replace K0 : Hid (Has (Sort.grow (redrawn w9 dq) osq) (w.heap.size) (.int .i64 n0) (.int .i64 d0)) := K0.out.below hb
        replace K1 : Hid (Has (Sort.grow (redrawn w9 dq) osq) (w.heap.size + 1) (.int .i64 n1) (.int .i64 d1)) := K1.out.below hb
        replace KX : Hid (Has (Sort.grow (redrawn w9 dq) osq) (w5.heap.size) (.int .i64 X) (.int .i64 Y)) := KX.out.below hb
        replace KN : Hid (Has (Sort.grow (redrawn w9 dq) osq) (w6.heap.size) (.int .i64 0) (.int .i64 0)) := KN.out.below hb
        replace KM : Hid (Has (Sort.grow (redrawn w9 dq) osq) (w8.heap.size) (.int .i64 M) (.int .i64 C)) := KM.out.below hb
        replace B : Hid (Below w.heap.size w (Sort.grow (redrawn w9 dq) osq)) := below_trans B.out hb
        clear hb
        generalize Sort.grow (redrawn w9 dq) osq = w10 at *
        go_wp2
        go_ret
        exact ⟨rfl, B.out⟩
  · obtain ⟨e1, e2⟩ := back_one (OkU.of (okU_at pa)) (OkU.of (okU_at pb)) r r1 r2 x1 x2
    subst N
    subst D
    have c2 : Hid (∀ w, Calls Try.prog 14 #[rv X Y, .string a3, .string a2] w fun e w' => e = .returned (.tuple #[rv n0 d0, .int .i64 0]) ∧ Below w.heap.size w w') := fun w => conv3 b1.1 b1.2 k2 w
    rcases more_way pa pb dd s with k3 | ⟨M, C, k3, r3, x3⟩
    · have c3 : Hid (∀ w, Calls Try.prog 14 #[rv n1 d1, .string a2, .string a3] w fun e w' => e = .returned (.tuple #[rv 0 0, .int .i64 2]) ∧ Below w.heap.size w w') := fun w => conv3 hn1 hd1 k3 w
      clear fl b1 dd' k1 k2 k3 r r1 x1 s pa pb dd hn0 hd0 hn1 hd1 r2 x2
      have K0 : Hid (Has ((w.alloc (.cells #[.int .i64 n0, .int .i64 d0] 30)).alloc (.cells #[.int .i64 n1, .int .i64 d1] 30)) (w.heap.size) (.int .i64 n0) (.int .i64 d0)) := (has_new w _ _ _).alloc _
      have K1 : Hid (Has ((w.alloc (.cells #[.int .i64 n0, .int .i64 d0] 30)).alloc (.cells #[.int .i64 n1, .int .i64 d1] 30)) (w.heap.size + 1) (.int .i64 n1) (.int .i64 d1)) := has_lit _ _ _ (by simp)
      have B : Hid (Below w.heap.size w ((w.alloc (.cells #[.int .i64 n0, .int .i64 d0] 30)).alloc (.cells #[.int .i64 n1, .int .i64 d1] 30))) := by unfold Hid; go_grown
      go_enter Try.func5, Try.ntmps5
      go_wp2_with fail
      refine (awake3_any _).mono ?_
      rintro e w1 ⟨rfl, hb⟩
      replace K0 : Hid (Has w1 (w.heap.size) (.int .i64 n0) (.int .i64 d0)) := K0.out.below hb
      replace K1 : Hid (Has w1 (w.heap.size + 1) (.int .i64 n1) (.int .i64 d1)) := K1.out.below hb
      replace B : Hid (Below w.heap.size w w1) := below_trans B.out hb
      clear hb 
      obtain ⟨K0a, K0b, K0c, K0d, K0e⟩ := K0.out
      go_wp2_with fail
      refine (fr.out _).mono ?_
      rintro e w2 ⟨rfl, hb⟩
      clear K0a K0b K0c K0d K0e
      replace K0 : Hid (Has w2 (w.heap.size) (.int .i64 n0) (.int .i64 d0)) := K0.out.below hb
      replace K1 : Hid (Has w2 (w.heap.size + 1) (.int .i64 n1) (.int .i64 d1)) := K1.out.below hb
      replace B : Hid (Below w.heap.size w w2) := below_trans B.out hb
      clear hb fr
      obtain ⟨K1a, K1b, K1c, K1d, K1e⟩ := K1.out
      go_wp2_with fail
      refine (fs.out _).mono ?_
      rintro e w3 ⟨rfl, hb⟩
      clear K1a K1b K1c K1d K1e
      replace K0 : Hid (Has w3 (w.heap.size) (.int .i64 n0) (.int .i64 d0)) := K0.out.below hb
      replace K1 : Hid (Has w3 (w.heap.size + 1) (.int .i64 n1) (.int .i64 d1)) := K1.out.below hb
      replace B : Hid (Below w.heap.size w w3) := below_trans B.out hb
      clear hb fs
      obtain ⟨K0a, K0b, K0c, K0d, K0e⟩ := K0.out
      go_wp2_with fail
      refine (of_any n0 d0 _).mono ?_
      rintro e w4 ⟨rfl, hb⟩
      clear K0a K0b K0c K0d K0e
      replace K0 : Hid (Has w4 (w.heap.size) (.int .i64 n0) (.int .i64 d0)) := K0.out.below hb
      replace K1 : Hid (Has w4 (w.heap.size + 1) (.int .i64 n1) (.int .i64 d1)) := K1.out.below hb
      replace B : Hid (Below w.heap.size w w4) := below_trans B.out hb
      clear hb 
      go_wp2_with fail
      refine (c1.out _).mono ?_
      rintro e w5 ⟨rfl, hb⟩
      replace K0 : Hid (Has w5 (w.heap.size) (.int .i64 n0) (.int .i64 d0)) := K0.out.below hb
      replace K1 : Hid (Has w5 (w.heap.size + 1) (.int .i64 n1) (.int .i64 d1)) := K1.out.below hb
      replace B : Hid (Below w.heap.size w w5) := below_trans B.out hb
      clear hb c1
      replace K0 : Hid (Has (w5.alloc (.cells #[.int .i64 X, .int .i64 Y] 25)) (w.heap.size) (.int .i64 n0) (.int .i64 d0)) := K0.out.alloc _
      replace K1 : Hid (Has (w5.alloc (.cells #[.int .i64 X, .int .i64 Y] 25)) (w.heap.size + 1) (.int .i64 n1) (.int .i64 d1)) := K1.out.alloc _
      replace B : Hid (Below w.heap.size w (w5.alloc (.cells #[.int .i64 X, .int .i64 Y] 25))) := B.out.alloc B.out.size _
      have KX : Hid (Has (w5.alloc (.cells #[.int .i64 X, .int .i64 Y] 25)) (w5.heap.size) (.int .i64 X) (.int .i64 Y)) := has_new w5 _ _ _
      obtain ⟨KXa, KXb, KXc, KXd, KXe⟩ := KX.out
      go_wp2_with fail
      refine (c2.out _).mono ?_
      rintro e w6 ⟨rfl, hb⟩
      clear KXa KXb KXc KXd KXe
      replace K0 : Hid (Has w6 (w.heap.size) (.int .i64 n0) (.int .i64 d0)) := K0.out.below hb
      replace K1 : Hid (Has w6 (w.heap.size + 1) (.int .i64 n1) (.int .i64 d1)) := K1.out.below hb
      replace KX : Hid (Has w6 (w5.heap.size) (.int .i64 X) (.int .i64 Y)) := KX.out.below hb
      replace B : Hid (Below w.heap.size w w6) := below_trans B.out hb
      clear hb c2
      replace K0 : Hid (Has (w6.alloc (.cells #[.int .i64 n0, .int .i64 d0] 25)) (w.heap.size) (.int .i64 n0) (.int .i64 d0)) := K0.out.alloc _
      replace K1 : Hid (Has (w6.alloc (.cells #[.int .i64 n0, .int .i64 d0] 25)) (w.heap.size + 1) (.int .i64 n1) (.int .i64 d1)) := K1.out.alloc _
      replace KX : Hid (Has (w6.alloc (.cells #[.int .i64 n0, .int .i64 d0] 25)) (w5.heap.size) (.int .i64 X) (.int .i64 Y)) := KX.out.alloc _
      replace B : Hid (Below w.heap.size w (w6.alloc (.cells #[.int .i64 n0, .int .i64 d0] 25))) := B.out.alloc B.out.size _
      have KN : Hid (Has (w6.alloc (.cells #[.int .i64 n0, .int .i64 d0] 25)) (w6.heap.size) (.int .i64 n0) (.int .i64 d0)) := has_new w6 _ _ _
      obtain ⟨K1a, K1b, K1c, K1d, K1e⟩ := K1.out
      go_wp2_with fail
      refine (of_any n1 d1 _).mono ?_
      rintro e w7 ⟨rfl, hb⟩
      clear K1a K1b K1c K1d K1e
      replace K0 : Hid (Has w7 (w.heap.size) (.int .i64 n0) (.int .i64 d0)) := K0.out.below hb
      replace K1 : Hid (Has w7 (w.heap.size + 1) (.int .i64 n1) (.int .i64 d1)) := K1.out.below hb
      replace KX : Hid (Has w7 (w5.heap.size) (.int .i64 X) (.int .i64 Y)) := KX.out.below hb
      replace KN : Hid (Has w7 (w6.heap.size) (.int .i64 n0) (.int .i64 d0)) := KN.out.below hb
      replace B : Hid (Below w.heap.size w w7) := below_trans B.out hb
      clear hb 
      go_wp2_with fail
      refine (c3.out _).mono ?_
      rintro e w8 ⟨rfl, hb⟩
      replace K0 : Hid (Has w8 (w.heap.size) (.int .i64 n0) (.int .i64 d0)) := K0.out.below hb
      replace K1 : Hid (Has w8 (w.heap.size + 1) (.int .i64 n1) (.int .i64 d1)) := K1.out.below hb
      replace KX : Hid (Has w8 (w5.heap.size) (.int .i64 X) (.int .i64 Y)) := KX.out.below hb
      replace KN : Hid (Has w8 (w6.heap.size) (.int .i64 n0) (.int .i64 d0)) := KN.out.below hb
      replace B : Hid (Below w.heap.size w w8) := below_trans B.out hb
      clear hb c3
      replace K0 : Hid (Has (w8.alloc (.cells #[.int .i64 0, .int .i64 0] 25)) (w.heap.size) (.int .i64 n0) (.int .i64 d0)) := K0.out.alloc _
      replace K1 : Hid (Has (w8.alloc (.cells #[.int .i64 0, .int .i64 0] 25)) (w.heap.size + 1) (.int .i64 n1) (.int .i64 d1)) := K1.out.alloc _
      replace KX : Hid (Has (w8.alloc (.cells #[.int .i64 0, .int .i64 0] 25)) (w5.heap.size) (.int .i64 X) (.int .i64 Y)) := KX.out.alloc _
      replace KN : Hid (Has (w8.alloc (.cells #[.int .i64 0, .int .i64 0] 25)) (w6.heap.size) (.int .i64 n0) (.int .i64 d0)) := KN.out.alloc _
      replace B : Hid (Below w.heap.size w (w8.alloc (.cells #[.int .i64 0, .int .i64 0] 25))) := B.out.alloc B.out.size _
      have KM : Hid (Has (w8.alloc (.cells #[.int .i64 0, .int .i64 0] 25)) (w8.heap.size) (.int .i64 0) (.int .i64 0)) := has_new w8 _ _ _
      go_wp2_with fail
      have KNqa := cell_regrown KN.out.1
      have KNqb := cell_regrown KN.out.2.1
      have K0qa := cell_regrown K0.out.1
      have K0qb := cell_regrown K0.out.2.1
      refine wp_region_quiet_below (by kernel_rfl) (by kernel_rfl) ?_
      repeat (go_big_quiet_step (first
        | (go_at_call 15; first | with_reducible exact Calls.regrown_of (of_any n0 d0 _))))
      refine wpQuiet_nil ?_
      intro _ hw'
      obtain ⟨⟨dq, osq⟩, hw''⟩ := hw'
      subst hw''
      clear KNqa KNqb K0qa K0qb 
      have hb := below_regrown (w8.alloc (.cells #[.int .i64 0, .int .i64 0] 25)) dq osq
      replace K0 : Hid (Has (Sort.grow (redrawn (w8.alloc (.cells #[.int .i64 0, .int .i64 0] 25)) dq) osq) (w.heap.size) (.int .i64 n0) (.int .i64 d0)) := K0.out.below hb
      replace K1 : Hid (Has (Sort.grow (redrawn (w8.alloc (.cells #[.int .i64 0, .int .i64 0] 25)) dq) osq) (w.heap.size + 1) (.int .i64 n1) (.int .i64 d1)) := K1.out.below hb
      replace KX : Hid (Has (Sort.grow (redrawn (w8.alloc (.cells #[.int .i64 0, .int .i64 0] 25)) dq) osq) (w5.heap.size) (.int .i64 X) (.int .i64 Y)) := KX.out.below hb
      replace KN : Hid (Has (Sort.grow (redrawn (w8.alloc (.cells #[.int .i64 0, .int .i64 0] 25)) dq) osq) (w6.heap.size) (.int .i64 n0) (.int .i64 d0)) := KN.out.below hb
      replace KM : Hid (Has (Sort.grow (redrawn (w8.alloc (.cells #[.int .i64 0, .int .i64 0] 25)) dq) osq) (w8.heap.size) (.int .i64 0) (.int .i64 0)) := KM.out.below hb
      replace B : Hid (Below w.heap.size w (Sort.grow (redrawn (w8.alloc (.cells #[.int .i64 0, .int .i64 0] 25)) dq) osq)) := below_trans B.out hb
      clear hb
      generalize Sort.grow (redrawn (w8.alloc (.cells #[.int .i64 0, .int .i64 0] 25)) dq) osq = w9 at *
      go_wp2_with fail
      refine wp_region_quiet_below (by kernel_rfl) (by kernel_rfl) ?_
      repeat (go_big_quiet_step (fail))
      refine wpQuiet_nil ?_
      intro _ hw'
      obtain ⟨⟨dq, osq⟩, hw''⟩ := hw'
      subst hw''
      have hb := below_regrown w9 dq osq
      replace K0 : Hid (Has (Sort.grow (redrawn w9 dq) osq) (w.heap.size) (.int .i64 n0) (.int .i64 d0)) := K0.out.below hb
      replace K1 : Hid (Has (Sort.grow (redrawn w9 dq) osq) (w.heap.size + 1) (.int .i64 n1) (.int .i64 d1)) := K1.out.below hb
      replace KX : Hid (Has (Sort.grow (redrawn w9 dq) osq) (w5.heap.size) (.int .i64 X) (.int .i64 Y)) := KX.out.below hb
      replace KN : Hid (Has (Sort.grow (redrawn w9 dq) osq) (w6.heap.size) (.int .i64 n0) (.int .i64 d0)) := KN.out.below hb
      replace KM : Hid (Has (Sort.grow (redrawn w9 dq) osq) (w8.heap.size) (.int .i64 0) (.int .i64 0)) := KM.out.below hb
      replace B : Hid (Below w.heap.size w (Sort.grow (redrawn w9 dq) osq)) := below_trans B.out hb
      clear hb
      generalize Sort.grow (redrawn w9 dq) osq = w10 at *
      go_wp2
      go_ret
      exact ⟨rfl, B.out⟩
    · have c3 : Hid (∀ w, Calls Try.prog 14 #[rv n1 d1, .string a2, .string a3] w fun e w' => e = .returned (.tuple #[rv M C, .int .i64 0]) ∧ Below w.heap.size w w') := fun w => conv3 hn1 hd1 k3 w
      have b3 := cv_bd a2 a3 hn1 hd1
      rw [k3] at b3
      have ok := order_kept (OkU.of (okU_at pa)) (OkU.of (okU_at pb)) r s r1 r3 x1 x3
      have fm : Hid (∀ w, Calls Try.prog 18 #[rv X Y, rv M C] w fun e w' => e = .returned (.bool (lessB n0 d0 n1 d1)) ∧ Below w.heap.size w w') := fun w => by rw [ok]; exact less_any X Y M C w b1.1 b1.2 b3.1 b3.2
      generalize lessB n0 d0 n1 d1 = ls at *
      clear ok b1 b3 dd' k1 k2 k3 r r1 r3 x1 x3 s pa pb dd hn0 hd0 hn1 hd1 r2 x2
      cases ls
      all_goals
        have K0 : Hid (Has ((w.alloc (.cells #[.int .i64 n0, .int .i64 d0] 30)).alloc (.cells #[.int .i64 n1, .int .i64 d1] 30)) (w.heap.size) (.int .i64 n0) (.int .i64 d0)) := (has_new w _ _ _).alloc _
        have K1 : Hid (Has ((w.alloc (.cells #[.int .i64 n0, .int .i64 d0] 30)).alloc (.cells #[.int .i64 n1, .int .i64 d1] 30)) (w.heap.size + 1) (.int .i64 n1) (.int .i64 d1)) := has_lit _ _ _ (by simp)
        have B : Hid (Below w.heap.size w ((w.alloc (.cells #[.int .i64 n0, .int .i64 d0] 30)).alloc (.cells #[.int .i64 n1, .int .i64 d1] 30))) := by unfold Hid; go_grown
        go_enter Try.func5, Try.ntmps5
        go_wp2_with fail
        refine (awake3_any _).mono ?_
        rintro e w1 ⟨rfl, hb⟩
        replace K0 : Hid (Has w1 (w.heap.size) (.int .i64 n0) (.int .i64 d0)) := K0.out.below hb
        replace K1 : Hid (Has w1 (w.heap.size + 1) (.int .i64 n1) (.int .i64 d1)) := K1.out.below hb
        replace B : Hid (Below w.heap.size w w1) := below_trans B.out hb
        clear hb 
        obtain ⟨K0a, K0b, K0c, K0d, K0e⟩ := K0.out
        go_wp2_with fail
        refine (fr.out _).mono ?_
        rintro e w2 ⟨rfl, hb⟩
        clear K0a K0b K0c K0d K0e
        replace K0 : Hid (Has w2 (w.heap.size) (.int .i64 n0) (.int .i64 d0)) := K0.out.below hb
        replace K1 : Hid (Has w2 (w.heap.size + 1) (.int .i64 n1) (.int .i64 d1)) := K1.out.below hb
        replace B : Hid (Below w.heap.size w w2) := below_trans B.out hb
        clear hb fr
        obtain ⟨K1a, K1b, K1c, K1d, K1e⟩ := K1.out
        go_wp2_with fail
        refine (fs.out _).mono ?_
        rintro e w3 ⟨rfl, hb⟩
        clear K1a K1b K1c K1d K1e
        replace K0 : Hid (Has w3 (w.heap.size) (.int .i64 n0) (.int .i64 d0)) := K0.out.below hb
        replace K1 : Hid (Has w3 (w.heap.size + 1) (.int .i64 n1) (.int .i64 d1)) := K1.out.below hb
        replace B : Hid (Below w.heap.size w w3) := below_trans B.out hb
        clear hb fs
        obtain ⟨K0a, K0b, K0c, K0d, K0e⟩ := K0.out
        go_wp2_with fail
        refine (of_any n0 d0 _).mono ?_
        rintro e w4 ⟨rfl, hb⟩
        clear K0a K0b K0c K0d K0e
        replace K0 : Hid (Has w4 (w.heap.size) (.int .i64 n0) (.int .i64 d0)) := K0.out.below hb
        replace K1 : Hid (Has w4 (w.heap.size + 1) (.int .i64 n1) (.int .i64 d1)) := K1.out.below hb
        replace B : Hid (Below w.heap.size w w4) := below_trans B.out hb
        clear hb 
        go_wp2_with fail
        refine (c1.out _).mono ?_
        rintro e w5 ⟨rfl, hb⟩
        replace K0 : Hid (Has w5 (w.heap.size) (.int .i64 n0) (.int .i64 d0)) := K0.out.below hb
        replace K1 : Hid (Has w5 (w.heap.size + 1) (.int .i64 n1) (.int .i64 d1)) := K1.out.below hb
        replace B : Hid (Below w.heap.size w w5) := below_trans B.out hb
        clear hb c1
        replace K0 : Hid (Has (w5.alloc (.cells #[.int .i64 X, .int .i64 Y] 25)) (w.heap.size) (.int .i64 n0) (.int .i64 d0)) := K0.out.alloc _
        replace K1 : Hid (Has (w5.alloc (.cells #[.int .i64 X, .int .i64 Y] 25)) (w.heap.size + 1) (.int .i64 n1) (.int .i64 d1)) := K1.out.alloc _
        replace B : Hid (Below w.heap.size w (w5.alloc (.cells #[.int .i64 X, .int .i64 Y] 25))) := B.out.alloc B.out.size _
        have KX : Hid (Has (w5.alloc (.cells #[.int .i64 X, .int .i64 Y] 25)) (w5.heap.size) (.int .i64 X) (.int .i64 Y)) := has_new w5 _ _ _
        obtain ⟨KXa, KXb, KXc, KXd, KXe⟩ := KX.out
        go_wp2_with fail
        refine (c2.out _).mono ?_
        rintro e w6 ⟨rfl, hb⟩
        clear KXa KXb KXc KXd KXe
        replace K0 : Hid (Has w6 (w.heap.size) (.int .i64 n0) (.int .i64 d0)) := K0.out.below hb
        replace K1 : Hid (Has w6 (w.heap.size + 1) (.int .i64 n1) (.int .i64 d1)) := K1.out.below hb
        replace KX : Hid (Has w6 (w5.heap.size) (.int .i64 X) (.int .i64 Y)) := KX.out.below hb
        replace B : Hid (Below w.heap.size w w6) := below_trans B.out hb
        clear hb c2
        replace K0 : Hid (Has (w6.alloc (.cells #[.int .i64 n0, .int .i64 d0] 25)) (w.heap.size) (.int .i64 n0) (.int .i64 d0)) := K0.out.alloc _
        replace K1 : Hid (Has (w6.alloc (.cells #[.int .i64 n0, .int .i64 d0] 25)) (w.heap.size + 1) (.int .i64 n1) (.int .i64 d1)) := K1.out.alloc _
        replace KX : Hid (Has (w6.alloc (.cells #[.int .i64 n0, .int .i64 d0] 25)) (w5.heap.size) (.int .i64 X) (.int .i64 Y)) := KX.out.alloc _
        replace B : Hid (Below w.heap.size w (w6.alloc (.cells #[.int .i64 n0, .int .i64 d0] 25))) := B.out.alloc B.out.size _
        have KN : Hid (Has (w6.alloc (.cells #[.int .i64 n0, .int .i64 d0] 25)) (w6.heap.size) (.int .i64 n0) (.int .i64 d0)) := has_new w6 _ _ _
        obtain ⟨K1a, K1b, K1c, K1d, K1e⟩ := K1.out
        go_wp2_with fail
        refine (of_any n1 d1 _).mono ?_
        rintro e w7 ⟨rfl, hb⟩
        clear K1a K1b K1c K1d K1e
        replace K0 : Hid (Has w7 (w.heap.size) (.int .i64 n0) (.int .i64 d0)) := K0.out.below hb
        replace K1 : Hid (Has w7 (w.heap.size + 1) (.int .i64 n1) (.int .i64 d1)) := K1.out.below hb
        replace KX : Hid (Has w7 (w5.heap.size) (.int .i64 X) (.int .i64 Y)) := KX.out.below hb
        replace KN : Hid (Has w7 (w6.heap.size) (.int .i64 n0) (.int .i64 d0)) := KN.out.below hb
        replace B : Hid (Below w.heap.size w w7) := below_trans B.out hb
        clear hb 
        go_wp2_with fail
        refine (c3.out _).mono ?_
        rintro e w8 ⟨rfl, hb⟩
        replace K0 : Hid (Has w8 (w.heap.size) (.int .i64 n0) (.int .i64 d0)) := K0.out.below hb
        replace K1 : Hid (Has w8 (w.heap.size + 1) (.int .i64 n1) (.int .i64 d1)) := K1.out.below hb
        replace KX : Hid (Has w8 (w5.heap.size) (.int .i64 X) (.int .i64 Y)) := KX.out.below hb
        replace KN : Hid (Has w8 (w6.heap.size) (.int .i64 n0) (.int .i64 d0)) := KN.out.below hb
        replace B : Hid (Below w.heap.size w w8) := below_trans B.out hb
        clear hb c3
        replace K0 : Hid (Has (w8.alloc (.cells #[.int .i64 M, .int .i64 C] 25)) (w.heap.size) (.int .i64 n0) (.int .i64 d0)) := K0.out.alloc _
        replace K1 : Hid (Has (w8.alloc (.cells #[.int .i64 M, .int .i64 C] 25)) (w.heap.size + 1) (.int .i64 n1) (.int .i64 d1)) := K1.out.alloc _
        replace KX : Hid (Has (w8.alloc (.cells #[.int .i64 M, .int .i64 C] 25)) (w5.heap.size) (.int .i64 X) (.int .i64 Y)) := KX.out.alloc _
        replace KN : Hid (Has (w8.alloc (.cells #[.int .i64 M, .int .i64 C] 25)) (w6.heap.size) (.int .i64 n0) (.int .i64 d0)) := KN.out.alloc _
        replace B : Hid (Below w.heap.size w (w8.alloc (.cells #[.int .i64 M, .int .i64 C] 25))) := B.out.alloc B.out.size _
        have KM : Hid (Has (w8.alloc (.cells #[.int .i64 M, .int .i64 C] 25)) (w8.heap.size) (.int .i64 M) (.int .i64 C)) := has_new w8 _ _ _
        go_wp2_with fail
        have KNqa := cell_regrown KN.out.1
        have KNqb := cell_regrown KN.out.2.1
        have K0qa := cell_regrown K0.out.1
        have K0qb := cell_regrown K0.out.2.1
        refine wp_region_quiet_below (by kernel_rfl) (by kernel_rfl) ?_
        repeat (go_big_quiet_step (first
          | (go_at_call 15; first | with_reducible exact Calls.regrown_of (of_any n0 d0 _))))
        refine wpQuiet_nil ?_
        intro _ hw'
        obtain ⟨⟨dq, osq⟩, hw''⟩ := hw'
        subst hw''
        clear KNqa KNqb K0qa K0qb 
        have hb := below_regrown (w8.alloc (.cells #[.int .i64 M, .int .i64 C] 25)) dq osq
        replace K0 : Hid (Has (Sort.grow (redrawn (w8.alloc (.cells #[.int .i64 M, .int .i64 C] 25)) dq) osq) (w.heap.size) (.int .i64 n0) (.int .i64 d0)) := K0.out.below hb
        replace K1 : Hid (Has (Sort.grow (redrawn (w8.alloc (.cells #[.int .i64 M, .int .i64 C] 25)) dq) osq) (w.heap.size + 1) (.int .i64 n1) (.int .i64 d1)) := K1.out.below hb
        replace KX : Hid (Has (Sort.grow (redrawn (w8.alloc (.cells #[.int .i64 M, .int .i64 C] 25)) dq) osq) (w5.heap.size) (.int .i64 X) (.int .i64 Y)) := KX.out.below hb
        replace KN : Hid (Has (Sort.grow (redrawn (w8.alloc (.cells #[.int .i64 M, .int .i64 C] 25)) dq) osq) (w6.heap.size) (.int .i64 n0) (.int .i64 d0)) := KN.out.below hb
        replace KM : Hid (Has (Sort.grow (redrawn (w8.alloc (.cells #[.int .i64 M, .int .i64 C] 25)) dq) osq) (w8.heap.size) (.int .i64 M) (.int .i64 C)) := KM.out.below hb
        replace B : Hid (Below w.heap.size w (Sort.grow (redrawn (w8.alloc (.cells #[.int .i64 M, .int .i64 C] 25)) dq) osq)) := below_trans B.out hb
        clear hb
        generalize Sort.grow (redrawn (w8.alloc (.cells #[.int .i64 M, .int .i64 C] 25)) dq) osq = w9 at *
        go_wp2_with fail
        have K0qa := cell_regrown K0.out.1
        have K0qb := cell_regrown K0.out.2.1
        have K1qa := cell_regrown K1.out.1
        have K1qb := cell_regrown K1.out.2.1
        have KXqa := cell_regrown KX.out.1
        have KXqb := cell_regrown KX.out.2.1
        have KMqa := cell_regrown KM.out.1
        have KMqb := cell_regrown KM.out.2.1
        refine wp_region_quiet_below (by kernel_rfl) (by kernel_rfl) ?_
        repeat (go_big_quiet_step (first
          | (go_at_call 15; first | with_reducible exact Calls.regrown_of (of_any n0 d0 _) | with_reducible exact Calls.regrown_of (of_any n1 d1 _))
          | (go_at_call 18; first | with_reducible exact Calls.regrown_of (fl.out _) | with_reducible exact Calls.regrown_of (fm.out _))))
        refine wpQuiet_nil ?_
        intro _ hw'
        obtain ⟨⟨dq, osq⟩, hw''⟩ := hw'
        subst hw''
        clear K0qa K0qb K1qa K1qb KXqa KXqb KMqa KMqb 
        have hb := below_regrown w9 dq osq
        replace K0 : Hid (Has (Sort.grow (redrawn w9 dq) osq) (w.heap.size) (.int .i64 n0) (.int .i64 d0)) := K0.out.below hb
        replace K1 : Hid (Has (Sort.grow (redrawn w9 dq) osq) (w.heap.size + 1) (.int .i64 n1) (.int .i64 d1)) := K1.out.below hb
        replace KX : Hid (Has (Sort.grow (redrawn w9 dq) osq) (w5.heap.size) (.int .i64 X) (.int .i64 Y)) := KX.out.below hb
        replace KN : Hid (Has (Sort.grow (redrawn w9 dq) osq) (w6.heap.size) (.int .i64 n0) (.int .i64 d0)) := KN.out.below hb
        replace KM : Hid (Has (Sort.grow (redrawn w9 dq) osq) (w8.heap.size) (.int .i64 M) (.int .i64 C)) := KM.out.below hb
        replace B : Hid (Below w.heap.size w (Sort.grow (redrawn w9 dq) osq)) := below_trans B.out hb
        clear hb
        generalize Sort.grow (redrawn w9 dq) osq = w10 at *
        go_wp2
        go_ret
        exact ⟨rfl, B.out⟩

set_option maxRecDepth 100000 in
theorem lifted (os : Os) (started : os.Started) (H : Type) (enc : TypeId × Value → H) :
    ReturnsInHanded {} Try.checked os 5 .any (Rows.unitBackSpec.pre6 enc Try.prog Try.f5 Rows.unitBackRow.domain false) (Rows.unitBackSpec.post enc Try.prog Try.f5 false true false false) := by
  refine returnsInHanded_of_change (C := Try.checked) own started (by kernel_rfl) Try.func5
    (ChangeSpec.witness6 (enc := enc) (C := Try.checked) false ⟨#[], #[.agg #[.int .i64 0, .int .i64 0], .agg #[.int .i64 0, .int .i64 0], .string ByteArray.empty, .string ByteArray.empty], []⟩ 8 (by kernel_rfl) (by kernel_rfl) (by kernel_rfl) (by kernel_rfl)) ?_
  intro W base args ds gs before hval0 hW hcnd _
  have hval : ∀ (j : Nat) t v, Try.f5.params[j]? = some t → args[j]? = some v → Value.okWide Try.prog W .any base t v := hval0
  have hW' := hW
  obtain ⟨p, q, hA0, hV, rfl, hfz, hnd⟩ := hW
  have hA : DataW.TrodAll enc Try.prog W 0 (fun _ => true) true Try.f5.params.toList args.toList ds p := hA0
  rw [Try.params5] at hA hval
  obtain ⟨v0, vs0, dd0, ds0, p0, q0, hargs, rfl, rfl, hh0, r0⟩ := trodAll_cons hA
  obtain ⟨v1, vs1, dd1, ds1, p1, q1, rfl, rfl, rfl, hh1, r1⟩ := trodAll_cons r0
  obtain ⟨v2, vs2, dd2, ds2, p2, q2, rfl, rfl, rfl, hh2, r2⟩ := trodAll_cons r1
  obtain ⟨v3, vs3, dd3, ds3, p3, q3, rfl, rfl, rfl, hh3, r3⟩ := trodAll_cons r2
  obtain ⟨rfl, rfl, rfl⟩ := trodAll_nil r3
  obtain rfl : args = #[v0, v1, v2, v3] := by cases args; simp_all
  obtain ⟨rfl, rfl⟩ := trodVars_none hV
  obtain ⟨c0, e0, y0, z0, m0, rfl, rfl, rfl, hy0, hz0⟩ := open_agg2 Try.underlying30 (by kernel_rfl) cells30 (hval 0 30 v0 rfl rfl) hh0
  obtain ⟨n0, k0, rfl, w0⟩ := DataW.trod_int Try.underlying2 hy0
  obtain ⟨d0, l0, rfl, x0⟩ := DataW.trod_int Try.underlying2 hz0
  simp at k0 l0
  subst k0 l0
  obtain ⟨c1, e1, y1, z1, m1, rfl, rfl, rfl, hy1, hz1⟩ := open_agg2 Try.underlying30 (by kernel_rfl) cells30 (hval 1 30 v1 rfl rfl) hh1
  obtain ⟨n1, k1, rfl, w1⟩ := DataW.trod_int Try.underlying2 hy1
  obtain ⟨d1, l1, rfl, x1⟩ := DataW.trod_int Try.underlying2 hz1
  simp at k1 l1
  subst k1 l1
  obtain ⟨a2, rfl, rfl, rfl, w2⟩ := open_string Try.underlying9 (hval 2 9 v2 rfl rfl) hh2
  obtain ⟨a3, rfl, rfl, rfl, w3⟩ := open_string Try.underlying9 (hval 3 9 v3 rfl rfl) hh3
  clear hA0 hval0
  have sr0 : ∀ (W' : World) (sp : Nat → Bool), DataW.Trod enc Try.prog W' 0 sp true 30 (.agg #[.int .i64 n0, .int .i64 d0]) (.agg [.lit (.int .i64 n0), .lit (.int .i64 d0)]) [] := fun W' sp =>
    shut_agg2 (y0 := (.lit (.int .i64 n0), [])) (y1 := (.lit (.int .i64 d0), [])) Try.underlying30 (by kernel_rfl) cells30 ⟨1, by simp [DataW.trod, Try.underlying2, w0]⟩ ⟨1, by simp [DataW.trod, Try.underlying2, x0]⟩
  have sr1 : ∀ (W' : World) (sp : Nat → Bool), DataW.Trod enc Try.prog W' 0 sp true 30 (.agg #[.int .i64 n1, .int .i64 d1]) (.agg [.lit (.int .i64 n1), .lit (.int .i64 d1)]) [] := fun W' sp =>
    shut_agg2 (y0 := (.lit (.int .i64 n1), [])) (y1 := (.lit (.int .i64 d1), [])) Try.underlying30 (by kernel_rfl) cells30 ⟨1, by simp [DataW.trod, Try.underlying2, w1]⟩ ⟨1, by simp [DataW.trod, Try.underlying2, x1]⟩
  refine (walk n0 d0 (bounds_i64 w0) (bounds_i64 x0) n1 d1 (bounds_i64 w1) (bounds_i64 x1) a2 w2 a3 w3 W).mono fun e W' ⟨he, bel⟩ => ?_
  subst he
  exact ⟨_, rfl, _, _, _, [], _, [], hW', trodAll_mk1 (shut_bool Try.underlying4 _), (trodAll_cons_mk (sr0 _ _) (trodAll_cons_mk (sr1 _ _) (trodAll_cons_mk (shut_string Try.underlying9 w2) (trodAll_cons_mk (shut_string Try.underlying9 w3) trodAll_mk0)))), rfl, bel.frame _, fun h => by cases h⟩

theorem over : Rows.unitBackRow.holds Try.pinned (OpenSpec.ofChange Rows.unitBackSpec) :=
  OpenClaim.holds_of_wide 5 Try.f5 rfl rfl rfl rfl rfl rfl rfl ⟨rfl, rfl, rfl, rfl, rfl⟩ rfl rfl rfl rfl rfl (by kernel_rfl) Try.func5 (by kernel_rfl)
    (of_decide_eq_true (by kernel_rfl)) (by unfold Func.isWrapper; first | (rw [if_pos (by decide +kernel)]; kernel_rfl) | (rw [if_neg (by decide +kernel)]; exact ⟨rfl, rfl⟩))
    (fun os started H enc _ => lifted os started H enc)

/-- THE STATEMENT -/
theorem proved : Rows.UnitBackSaid :=
  over
#print axioms proved
end Go.Proofs.Ytbojdlagacanoaa.unitBack
