/-
  UnitLikes, for every input: units of one kind with a third one are of one kind; so much is converted just within a kind; into itself it stays. No conditions.
-/
import Derived.Test.YtbojdlagacanoaaRows
import Derived.Test.YtbojdlagacanoaaUnLaw
import Derived.Test.YtbojdlagacanoaaUnLike
import Derived.WalkKit
import Derived.ProofKit
import Derived.OpenShut
import Derived.ShutString
import Derived.ChangeOld
import Derived.Below
import Derived.Lib.SmallJoins
namespace Go.Proofs.Ytbojdlagacanoaa.unitLikes
open Go.ChangeShapes Go.WideShapes Go.ChangeAt Go.RowKit Go.Joins
open Go.ChangeMaps (open_string shut_string)
set_option linter.unusedVariables false

theorem own : ownKnob Try.prog.godebug = none := by kernel_rfl
theorem cells30 : Try.prog.cellsOf 30 = 2 := by kernel_rfl

theorem like_self (a : ByteArray) : likeB a a = isU a := by unfold likeB; rw [dimB_self]; cases isU a <;> rfl
theorem like_comm (a b : ByteArray) : likeB a b = likeB b a := by unfold likeB; rw [dimB_comm, Bool.and_comm (isU a)]
theorem like_trans {a b c : ByteArray} (h : likeB a b = true) (k : likeB b c = true) : likeB a c = true := by
  unfold likeB at *
  simp only [Bool.and_eq_true] at *
  exact ⟨⟨h.1.1, k.1.2⟩, dimB_trans h.2 k.2⟩
theorem like_no {a b : ByteArray} (h : isU a = false) : likeB a b = false := by unfold likeB; rw [h]; rfl
theorem cv_none {n d : Int} {a b : ByteArray} (h : isU a = false) : cvT n d a b = (0, 0, 4) := by unfold cvT; rw [h]; rfl
theorem cv_self {n d : Int} {a : ByteArray} (h : isU a = true) (r : rightB n d = true) : cvT n d a a = (n, d, 0) := by
  unfold cvT; rw [h, dimB_self, r]; simp
theorem cv_unlike {n d : Int} {a b : ByteArray} (r : rightB n d = true) (h : likeB a b = false) : cvT n d a b = (0, 0, 4) ∨ cvT n d a b = (0, 0, 5) := by
  rcases cv_ways a b r with ⟨k, _⟩ | ⟨k, _⟩ | ⟨pa, pb, dd, _⟩
  · exact .inl k
  · exact .inr k
  · unfold likeB at h; rw [pa, pb, dd] at h; cases h
theorem cv_like {n d : Int} {a b : ByteArray} (r : rightB n d = true) (h : likeB a b = true) : cvT n d a b = (0, 0, 2) ∨ ∃ X Y, cvT n d a b = (X, Y, 0) := by
  rcases cv_ways a b r with ⟨_, k⟩ | ⟨_, _, _, k⟩ | ⟨_, _, _, k | ⟨X, Y, k, _⟩⟩
  · unfold likeB at h; rw [k] at h; cases h
  · unfold likeB at h; rw [k, Bool.and_false] at h; cases h
  · exact .inl k
  · exact .inr ⟨X, Y, k⟩


set_option maxHeartbeats 8000000 in
theorem walk (n0 d0 : Int) (hn0 : I64 n0) (hd0 : I64 d0) (a1 : ByteArray) (hs1 : a1.size ≤ maxLen) (a2 : ByteArray) (hs2 : a2.size ≤ maxLen) (a3 : ByteArray) (hs3 : a3.size ≤ maxLen) (w : World) :
    Calls Try.prog 7 #[rv n0 d0, .string a1, .string a2, .string a3] w fun e w' => e = .returned (.bool true) ∧ Below w.heap.size w w' := by
  unfold maxLen at hs1 hs2 hs3
  by_cases l1 : (50 : Int) < (a1.size : Int)
  · clear hn0 hd0
    have K0 : Hid (Has (w.alloc (.cells #[.int .i64 n0, .int .i64 d0] 30)) (w.heap.size) (.int .i64 n0) (.int .i64 d0)) := has_new w _ _ _
    have B : Hid (Below w.heap.size w (w.alloc (.cells #[.int .i64 n0, .int .i64 d0] 30))) := by unfold Hid; go_grown
    go_enter Try.func7, Try.ntmps7
    go_wp2_with fail
    refine (awake3_any _).mono ?_
    rintro e w1 ⟨rfl, hb⟩
    replace K0 : Hid (Has w1 (w.heap.size) (.int .i64 n0) (.int .i64 d0)) := K0.out.below hb
    replace B : Hid (Below w.heap.size w w1) := below_trans B.out hb
    clear hb 
    go_wp2_with fail
    refine (awake3_any _).mono ?_
    rintro e w2 ⟨rfl, hb⟩
    replace K0 : Hid (Has w2 (w.heap.size) (.int .i64 n0) (.int .i64 d0)) := K0.out.below hb
    replace B : Hid (Below w.heap.size w w2) := below_trans B.out hb
    clear hb 
    go_wp2
    go_ret
    exact ⟨rfl, B.out⟩
  by_cases l2 : (50 : Int) < (a2.size : Int)
  · clear hn0 hd0
    have K0 : Hid (Has (w.alloc (.cells #[.int .i64 n0, .int .i64 d0] 30)) (w.heap.size) (.int .i64 n0) (.int .i64 d0)) := has_new w _ _ _
    have B : Hid (Below w.heap.size w (w.alloc (.cells #[.int .i64 n0, .int .i64 d0] 30))) := by unfold Hid; go_grown
    go_enter Try.func7, Try.ntmps7
    go_wp2_with fail
    refine (awake3_any _).mono ?_
    rintro e w1 ⟨rfl, hb⟩
    replace K0 : Hid (Has w1 (w.heap.size) (.int .i64 n0) (.int .i64 d0)) := K0.out.below hb
    replace B : Hid (Below w.heap.size w w1) := below_trans B.out hb
    clear hb 
    go_wp2_with fail
    refine (awake3_any _).mono ?_
    rintro e w2 ⟨rfl, hb⟩
    replace K0 : Hid (Has w2 (w.heap.size) (.int .i64 n0) (.int .i64 d0)) := K0.out.below hb
    replace B : Hid (Below w.heap.size w w2) := below_trans B.out hb
    clear hb 
    go_wp2
    go_ret
    exact ⟨rfl, B.out⟩
  by_cases l3 : (50 : Int) < (a3.size : Int)
  · clear hn0 hd0
    have K0 : Hid (Has (w.alloc (.cells #[.int .i64 n0, .int .i64 d0] 30)) (w.heap.size) (.int .i64 n0) (.int .i64 d0)) := has_new w _ _ _
    have B : Hid (Below w.heap.size w (w.alloc (.cells #[.int .i64 n0, .int .i64 d0] 30))) := by unfold Hid; go_grown
    go_enter Try.func7, Try.ntmps7
    go_wp2_with fail
    refine (awake3_any _).mono ?_
    rintro e w1 ⟨rfl, hb⟩
    replace K0 : Hid (Has w1 (w.heap.size) (.int .i64 n0) (.int .i64 d0)) := K0.out.below hb
    replace B : Hid (Below w.heap.size w w1) := below_trans B.out hb
    clear hb 
    go_wp2_with fail
    refine (awake3_any _).mono ?_
    rintro e w2 ⟨rfl, hb⟩
    replace K0 : Hid (Has w2 (w.heap.size) (.int .i64 n0) (.int .i64 d0)) := K0.out.below hb
    replace B : Hid (Below w.heap.size w w2) := below_trans B.out hb
    clear hb 
    go_wp2
    go_ret
    exact ⟨rfl, B.out⟩
  have fr : Hid (∀ w, Calls Try.prog 16 #[rv n0 d0] w fun e w' => e = .returned (.bool (rightB n0 d0)) ∧ Below w.heap.size w w') := fun w => rright_any n0 d0 w hn0 hd0
  cases r : rightB n0 d0
  · rw [r] at fr
    clear hn0 hd0 r
    have K0 : Hid (Has (w.alloc (.cells #[.int .i64 n0, .int .i64 d0] 30)) (w.heap.size) (.int .i64 n0) (.int .i64 d0)) := has_new w _ _ _
    have B : Hid (Below w.heap.size w (w.alloc (.cells #[.int .i64 n0, .int .i64 d0] 30))) := by unfold Hid; go_grown
    go_enter Try.func7, Try.ntmps7
    go_wp2_with fail
    refine (awake3_any _).mono ?_
    rintro e w1 ⟨rfl, hb⟩
    replace K0 : Hid (Has w1 (w.heap.size) (.int .i64 n0) (.int .i64 d0)) := K0.out.below hb
    replace B : Hid (Below w.heap.size w w1) := below_trans B.out hb
    clear hb 
    obtain ⟨K0a, K0b, K0c, K0d, K0e⟩ := K0.out
    go_wp2_with fail
    refine (fr.out _).mono ?_
    rintro e w2 ⟨rfl, hb⟩
    clear K0a K0b K0c K0d K0e
    replace K0 : Hid (Has w2 (w.heap.size) (.int .i64 n0) (.int .i64 d0)) := K0.out.below hb
    replace B : Hid (Below w.heap.size w w2) := below_trans B.out hb
    clear hb 
    go_wp2_with fail
    refine (awake3_any _).mono ?_
    rintro e w3 ⟨rfl, hb⟩
    replace K0 : Hid (Has w3 (w.heap.size) (.int .i64 n0) (.int .i64 d0)) := K0.out.below hb
    replace B : Hid (Below w.heap.size w w3) := below_trans B.out hb
    clear hb 
    go_wp2
    go_ret
    exact ⟨rfl, B.out⟩
  rw [r] at fr
  have ff : Hid (∀ w, Calls Try.prog 9 #[.string a1] w fun e w' => e = .returned (.tuple #[encU (atU a1), .bool (isU a1)]) ∧ Below w.heap.size w w') := fun w => find_any a1 w
  have g11 : Hid (∀ w, Calls Try.prog 12 #[.string a1, .string a1] w fun e w' => e = .returned (.bool (likeB a1 a1)) ∧ Below w.heap.size w w') := fun w => like_any a1 a1 w
  have g12 : Hid (∀ w, Calls Try.prog 12 #[.string a1, .string a2] w fun e w' => e = .returned (.bool (likeB a1 a2)) ∧ Below w.heap.size w w') := fun w => like_any a1 a2 w
  have g21 : Hid (∀ w, Calls Try.prog 12 #[.string a2, .string a1] w fun e w' => e = .returned (.bool (likeB a1 a2)) ∧ Below w.heap.size w w') := fun w => by rw [like_comm]; exact like_any a2 a1 w
  have g23 : Hid (∀ w, Calls Try.prog 12 #[.string a2, .string a3] w fun e w' => e = .returned (.bool (likeB a2 a3)) ∧ Below w.heap.size w w') := fun w => like_any a2 a3 w
  have g13 : Hid (∀ w, Calls Try.prog 12 #[.string a1, .string a3] w fun e w' => e = .returned (.bool (likeB a1 a3)) ∧ Below w.heap.size w w') := fun w => like_any a1 a3 w
  rw [like_self] at g11
  generalize atU a1 = u at *
  cases p : isU a1
  · have k1 := cv_none (n := n0) (d := d0) (b := a1) p
    have k2 := cv_none (n := n0) (d := d0) (b := a2) p
    have c1 : Hid (∀ w, Calls Try.prog 14 #[rv n0 d0, .string a1, .string a1] w fun e w' => e = .returned (.tuple #[rv 0 0, .int .i64 4]) ∧ Below w.heap.size w w') := fun w => conv3 hn0 hd0 k1 w
    have c2 : Hid (∀ w, Calls Try.prog 14 #[rv n0 d0, .string a1, .string a2] w fun e w' => e = .returned (.tuple #[rv 0 0, .int .i64 4]) ∧ Below w.heap.size w w') := fun w => conv3 hn0 hd0 k2 w
    rw [p] at ff g11
    rw [like_no p] at g12 g21
    clear g23 g13 k1 k2 p r hn0 hd0
    have K0 : Hid (Has (w.alloc (.cells #[.int .i64 n0, .int .i64 d0] 30)) (w.heap.size) (.int .i64 n0) (.int .i64 d0)) := has_new w _ _ _
    have B : Hid (Below w.heap.size w (w.alloc (.cells #[.int .i64 n0, .int .i64 d0] 30))) := by unfold Hid; go_grown
    go_enter Try.func7, Try.ntmps7
    go_wp2_with fail
    refine (awake3_any _).mono ?_
    rintro e w1 ⟨rfl, hb⟩
    replace K0 : Hid (Has w1 (w.heap.size) (.int .i64 n0) (.int .i64 d0)) := K0.out.below hb
    replace B : Hid (Below w.heap.size w w1) := below_trans B.out hb
    clear hb 
    obtain ⟨K0a, K0b, K0c, K0d, K0e⟩ := K0.out
    go_wp2_with fail
    refine (fr.out _).mono ?_
    rintro e w2 ⟨rfl, hb⟩
    clear K0a K0b K0c K0d K0e
    replace K0 : Hid (Has w2 (w.heap.size) (.int .i64 n0) (.int .i64 d0)) := K0.out.below hb
    replace B : Hid (Below w.heap.size w w2) := below_trans B.out hb
    clear hb fr
    go_wp2_with fail
    refine (ff.out _).mono ?_
    rintro e w3 ⟨rfl, hb⟩
    replace K0 : Hid (Has w3 (w.heap.size) (.int .i64 n0) (.int .i64 d0)) := K0.out.below hb
    replace B : Hid (Below w.heap.size w w3) := below_trans B.out hb
    clear hb ff
    replace K0 : Hid (Has (w3.alloc (.cells #[.string u.nm, .int .i64 u.m, .int .i64 u.l, .int .i64 u.t, .int .i64 u.k, .int .i64 u.fn, .int .i64 u.fd, .int .i64 u.on, .int .i64 u.od, .int .i64 u.code] 27)) (w.heap.size) (.int .i64 n0) (.int .i64 d0)) := K0.out.alloc _
    replace B : Hid (Below w.heap.size w (w3.alloc (.cells #[.string u.nm, .int .i64 u.m, .int .i64 u.l, .int .i64 u.t, .int .i64 u.k, .int .i64 u.fn, .int .i64 u.fd, .int .i64 u.on, .int .i64 u.od, .int .i64 u.code] 27))) := B.out.alloc B.out.size _
    have KU : Hid (HasU (w3.alloc (.cells #[.string u.nm, .int .i64 u.m, .int .i64 u.l, .int .i64 u.t, .int .i64 u.k, .int .i64 u.fn, .int .i64 u.fd, .int .i64 u.on, .int .i64 u.od, .int .i64 u.code] 27)) (w3.heap.size) 27 u) := hasU_new w3 _ u
    obtain ⟨K0a, K0b, K0c, K0d, K0e⟩ := K0.out
    go_wp2_with fail
    refine (of_any n0 d0 _).mono ?_
    rintro e w4 ⟨rfl, hb⟩
    clear K0a K0b K0c K0d K0e
    replace K0 : Hid (Has w4 (w.heap.size) (.int .i64 n0) (.int .i64 d0)) := K0.out.below hb
    replace KU : Hid (HasU w4 (w3.heap.size) 27 u) := KU.out.below hb
    replace B : Hid (Below w.heap.size w w4) := below_trans B.out hb
    clear hb 
    go_wp2_with fail
    refine (c1.out _).mono ?_
    rintro e w5 ⟨rfl, hb⟩
    replace K0 : Hid (Has w5 (w.heap.size) (.int .i64 n0) (.int .i64 d0)) := K0.out.below hb
    replace KU : Hid (HasU w5 (w3.heap.size) 27 u) := KU.out.below hb
    replace B : Hid (Below w.heap.size w w5) := below_trans B.out hb
    clear hb c1
    replace K0 : Hid (Has (w5.alloc (.cells #[.int .i64 0, .int .i64 0] 25)) (w.heap.size) (.int .i64 n0) (.int .i64 d0)) := K0.out.alloc _
    replace KU : Hid (HasU (w5.alloc (.cells #[.int .i64 0, .int .i64 0] 25)) (w3.heap.size) 27 u) := KU.out.alloc _
    replace B : Hid (Below w.heap.size w (w5.alloc (.cells #[.int .i64 0, .int .i64 0] 25))) := B.out.alloc B.out.size _
    have KX : Hid (Has (w5.alloc (.cells #[.int .i64 0, .int .i64 0] 25)) (w5.heap.size) (.int .i64 0) (.int .i64 0)) := has_new w5 _ _ _
    obtain ⟨K0a, K0b, K0c, K0d, K0e⟩ := K0.out
    go_wp2_with fail
    refine (of_any n0 d0 _).mono ?_
    rintro e w6 ⟨rfl, hb⟩
    clear K0a K0b K0c K0d K0e
    replace K0 : Hid (Has w6 (w.heap.size) (.int .i64 n0) (.int .i64 d0)) := K0.out.below hb
    replace KU : Hid (HasU w6 (w3.heap.size) 27 u) := KU.out.below hb
    replace KX : Hid (Has w6 (w5.heap.size) (.int .i64 0) (.int .i64 0)) := KX.out.below hb
    replace B : Hid (Below w.heap.size w w6) := below_trans B.out hb
    clear hb 
    go_wp2_with fail
    refine (c2.out _).mono ?_
    rintro e w7 ⟨rfl, hb⟩
    replace K0 : Hid (Has w7 (w.heap.size) (.int .i64 n0) (.int .i64 d0)) := K0.out.below hb
    replace KU : Hid (HasU w7 (w3.heap.size) 27 u) := KU.out.below hb
    replace KX : Hid (Has w7 (w5.heap.size) (.int .i64 0) (.int .i64 0)) := KX.out.below hb
    replace B : Hid (Below w.heap.size w w7) := below_trans B.out hb
    clear hb c2
    replace K0 : Hid (Has (w7.alloc (.cells #[.int .i64 0, .int .i64 0] 25)) (w.heap.size) (.int .i64 n0) (.int .i64 d0)) := K0.out.alloc _
    replace KU : Hid (HasU (w7.alloc (.cells #[.int .i64 0, .int .i64 0] 25)) (w3.heap.size) 27 u) := KU.out.alloc _
    replace KX : Hid (Has (w7.alloc (.cells #[.int .i64 0, .int .i64 0] 25)) (w5.heap.size) (.int .i64 0) (.int .i64 0)) := KX.out.alloc _
    replace B : Hid (Below w.heap.size w (w7.alloc (.cells #[.int .i64 0, .int .i64 0] 25))) := B.out.alloc B.out.size _
    have KF : Hid (Has (w7.alloc (.cells #[.int .i64 0, .int .i64 0] 25)) (w7.heap.size) (.int .i64 0) (.int .i64 0)) := has_new w7 _ _ _
    clear KU
    go_wp2_with fail
    refine (g11.out _).mono ?_
    rintro e w8 ⟨rfl, hb⟩
    replace K0 : Hid (Has w8 (w.heap.size) (.int .i64 n0) (.int .i64 d0)) := K0.out.below hb
    replace KX : Hid (Has w8 (w5.heap.size) (.int .i64 0) (.int .i64 0)) := KX.out.below hb
    replace KF : Hid (Has w8 (w7.heap.size) (.int .i64 0) (.int .i64 0)) := KF.out.below hb
    replace B : Hid (Below w.heap.size w w8) := below_trans B.out hb
    clear hb g11
    go_wp2_with fail
    refine (g12.out _).mono ?_
    rintro e w9 ⟨rfl, hb⟩
    replace K0 : Hid (Has w9 (w.heap.size) (.int .i64 n0) (.int .i64 d0)) := K0.out.below hb
    replace KX : Hid (Has w9 (w5.heap.size) (.int .i64 0) (.int .i64 0)) := KX.out.below hb
    replace KF : Hid (Has w9 (w7.heap.size) (.int .i64 0) (.int .i64 0)) := KF.out.below hb
    replace B : Hid (Below w.heap.size w w9) := below_trans B.out hb
    clear hb 
    go_wp2_with fail
    refine (g21.out _).mono ?_
    rintro e w10 ⟨rfl, hb⟩
    replace K0 : Hid (Has w10 (w.heap.size) (.int .i64 n0) (.int .i64 d0)) := K0.out.below hb
    replace KX : Hid (Has w10 (w5.heap.size) (.int .i64 0) (.int .i64 0)) := KX.out.below hb
    replace KF : Hid (Has w10 (w7.heap.size) (.int .i64 0) (.int .i64 0)) := KF.out.below hb
    replace B : Hid (Below w.heap.size w w10) := below_trans B.out hb
    clear hb g21
    go_wp2_with fail
    refine (g12.out _).mono ?_
    rintro e w11 ⟨rfl, hb⟩
    replace K0 : Hid (Has w11 (w.heap.size) (.int .i64 n0) (.int .i64 d0)) := K0.out.below hb
    replace KX : Hid (Has w11 (w5.heap.size) (.int .i64 0) (.int .i64 0)) := KX.out.below hb
    replace KF : Hid (Has w11 (w7.heap.size) (.int .i64 0) (.int .i64 0)) := KF.out.below hb
    replace B : Hid (Below w.heap.size w w11) := below_trans B.out hb
    clear hb 
    go_wp2_with fail
    refine wp_region_quiet_below (by kernel_rfl) (by kernel_rfl) ?_
    repeat (go_big_quiet_step (first
      | (go_at_call 12; first | with_reducible exact Calls.regrown_of (g12.out _))))
    refine wpQuiet_nil ?_
    intro _ hw'
    obtain ⟨⟨dq, osq⟩, hw''⟩ := hw'
    subst hw''
    have hb := below_regrown w11 dq osq
    replace K0 : Hid (Has (Sort.grow (redrawn w11 dq) osq) (w.heap.size) (.int .i64 n0) (.int .i64 d0)) := K0.out.below hb
    replace KX : Hid (Has (Sort.grow (redrawn w11 dq) osq) (w5.heap.size) (.int .i64 0) (.int .i64 0)) := KX.out.below hb
    replace KF : Hid (Has (Sort.grow (redrawn w11 dq) osq) (w7.heap.size) (.int .i64 0) (.int .i64 0)) := KF.out.below hb
    replace B : Hid (Below w.heap.size w (Sort.grow (redrawn w11 dq) osq)) := below_trans B.out hb
    clear hb
    generalize Sort.grow (redrawn w11 dq) osq = w12 at *
    go_wp2
    go_ret
    exact ⟨rfl, B.out⟩
  rw [p] at ff g11
  have k1 := cv_self p r
  have c1 : Hid (∀ w, Calls Try.prog 14 #[rv n0 d0, .string a1, .string a1] w fun e w' => e = .returned (.tuple #[rv n0 d0, .int .i64 0]) ∧ Below w.heap.size w w') := fun w => conv3 hn0 hd0 k1 w
  cases q : likeB a1 a2
  · rw [q] at g12 g21
    rcases cv_unlike r q with k2 | k2
    · have c2 : Hid (∀ w, Calls Try.prog 14 #[rv n0 d0, .string a1, .string a2] w fun e w' => e = .returned (.tuple #[rv 0 0, .int .i64 4]) ∧ Below w.heap.size w w') := fun w => conv3 hn0 hd0 k2 w
      clear g23 g13 k1 k2 p q r hn0 hd0
      have K0 : Hid (Has (w.alloc (.cells #[.int .i64 n0, .int .i64 d0] 30)) (w.heap.size) (.int .i64 n0) (.int .i64 d0)) := has_new w _ _ _
      have B : Hid (Below w.heap.size w (w.alloc (.cells #[.int .i64 n0, .int .i64 d0] 30))) := by unfold Hid; go_grown
      go_enter Try.func7, Try.ntmps7
      go_wp2_with fail
      refine (awake3_any _).mono ?_
      rintro e w1 ⟨rfl, hb⟩
      replace K0 : Hid (Has w1 (w.heap.size) (.int .i64 n0) (.int .i64 d0)) := K0.out.below hb
      replace B : Hid (Below w.heap.size w w1) := below_trans B.out hb
      clear hb 
      obtain ⟨K0a, K0b, K0c, K0d, K0e⟩ := K0.out
      go_wp2_with fail
      refine (fr.out _).mono ?_
      rintro e w2 ⟨rfl, hb⟩
      clear K0a K0b K0c K0d K0e
      replace K0 : Hid (Has w2 (w.heap.size) (.int .i64 n0) (.int .i64 d0)) := K0.out.below hb
      replace B : Hid (Below w.heap.size w w2) := below_trans B.out hb
      clear hb fr
      go_wp2_with fail
      refine (ff.out _).mono ?_
      rintro e w3 ⟨rfl, hb⟩
      replace K0 : Hid (Has w3 (w.heap.size) (.int .i64 n0) (.int .i64 d0)) := K0.out.below hb
      replace B : Hid (Below w.heap.size w w3) := below_trans B.out hb
      clear hb ff
      replace K0 : Hid (Has (w3.alloc (.cells #[.string u.nm, .int .i64 u.m, .int .i64 u.l, .int .i64 u.t, .int .i64 u.k, .int .i64 u.fn, .int .i64 u.fd, .int .i64 u.on, .int .i64 u.od, .int .i64 u.code] 27)) (w.heap.size) (.int .i64 n0) (.int .i64 d0)) := K0.out.alloc _
      replace B : Hid (Below w.heap.size w (w3.alloc (.cells #[.string u.nm, .int .i64 u.m, .int .i64 u.l, .int .i64 u.t, .int .i64 u.k, .int .i64 u.fn, .int .i64 u.fd, .int .i64 u.on, .int .i64 u.od, .int .i64 u.code] 27))) := B.out.alloc B.out.size _
      have KU : Hid (HasU (w3.alloc (.cells #[.string u.nm, .int .i64 u.m, .int .i64 u.l, .int .i64 u.t, .int .i64 u.k, .int .i64 u.fn, .int .i64 u.fd, .int .i64 u.on, .int .i64 u.od, .int .i64 u.code] 27)) (w3.heap.size) 27 u) := hasU_new w3 _ u
      obtain ⟨K0a, K0b, K0c, K0d, K0e⟩ := K0.out
      go_wp2_with fail
      refine (of_any n0 d0 _).mono ?_
      rintro e w4 ⟨rfl, hb⟩
      clear K0a K0b K0c K0d K0e
      replace K0 : Hid (Has w4 (w.heap.size) (.int .i64 n0) (.int .i64 d0)) := K0.out.below hb
      replace KU : Hid (HasU w4 (w3.heap.size) 27 u) := KU.out.below hb
      replace B : Hid (Below w.heap.size w w4) := below_trans B.out hb
      clear hb 
      go_wp2_with fail
      refine (c1.out _).mono ?_
      rintro e w5 ⟨rfl, hb⟩
      replace K0 : Hid (Has w5 (w.heap.size) (.int .i64 n0) (.int .i64 d0)) := K0.out.below hb
      replace KU : Hid (HasU w5 (w3.heap.size) 27 u) := KU.out.below hb
      replace B : Hid (Below w.heap.size w w5) := below_trans B.out hb
      clear hb c1
      replace K0 : Hid (Has (w5.alloc (.cells #[.int .i64 n0, .int .i64 d0] 25)) (w.heap.size) (.int .i64 n0) (.int .i64 d0)) := K0.out.alloc _
      replace KU : Hid (HasU (w5.alloc (.cells #[.int .i64 n0, .int .i64 d0] 25)) (w3.heap.size) 27 u) := KU.out.alloc _
      replace B : Hid (Below w.heap.size w (w5.alloc (.cells #[.int .i64 n0, .int .i64 d0] 25))) := B.out.alloc B.out.size _
      have KX : Hid (Has (w5.alloc (.cells #[.int .i64 n0, .int .i64 d0] 25)) (w5.heap.size) (.int .i64 n0) (.int .i64 d0)) := has_new w5 _ _ _
      obtain ⟨K0a, K0b, K0c, K0d, K0e⟩ := K0.out
      go_wp2_with fail
      refine (of_any n0 d0 _).mono ?_
      rintro e w6 ⟨rfl, hb⟩
      clear K0a K0b K0c K0d K0e
      replace K0 : Hid (Has w6 (w.heap.size) (.int .i64 n0) (.int .i64 d0)) := K0.out.below hb
      replace KU : Hid (HasU w6 (w3.heap.size) 27 u) := KU.out.below hb
      replace KX : Hid (Has w6 (w5.heap.size) (.int .i64 n0) (.int .i64 d0)) := KX.out.below hb
      replace B : Hid (Below w.heap.size w w6) := below_trans B.out hb
      clear hb 
      go_wp2_with fail
      refine (c2.out _).mono ?_
      rintro e w7 ⟨rfl, hb⟩
      replace K0 : Hid (Has w7 (w.heap.size) (.int .i64 n0) (.int .i64 d0)) := K0.out.below hb
      replace KU : Hid (HasU w7 (w3.heap.size) 27 u) := KU.out.below hb
      replace KX : Hid (Has w7 (w5.heap.size) (.int .i64 n0) (.int .i64 d0)) := KX.out.below hb
      replace B : Hid (Below w.heap.size w w7) := below_trans B.out hb
      clear hb c2
      replace K0 : Hid (Has (w7.alloc (.cells #[.int .i64 0, .int .i64 0] 25)) (w.heap.size) (.int .i64 n0) (.int .i64 d0)) := K0.out.alloc _
      replace KU : Hid (HasU (w7.alloc (.cells #[.int .i64 0, .int .i64 0] 25)) (w3.heap.size) 27 u) := KU.out.alloc _
      replace KX : Hid (Has (w7.alloc (.cells #[.int .i64 0, .int .i64 0] 25)) (w5.heap.size) (.int .i64 n0) (.int .i64 d0)) := KX.out.alloc _
      replace B : Hid (Below w.heap.size w (w7.alloc (.cells #[.int .i64 0, .int .i64 0] 25))) := B.out.alloc B.out.size _
      have KF : Hid (Has (w7.alloc (.cells #[.int .i64 0, .int .i64 0] 25)) (w7.heap.size) (.int .i64 0) (.int .i64 0)) := has_new w7 _ _ _
      clear KU
      go_wp2_with fail
      refine (g11.out _).mono ?_
      rintro e w8 ⟨rfl, hb⟩
      replace K0 : Hid (Has w8 (w.heap.size) (.int .i64 n0) (.int .i64 d0)) := K0.out.below hb
      replace KX : Hid (Has w8 (w5.heap.size) (.int .i64 n0) (.int .i64 d0)) := KX.out.below hb
      replace KF : Hid (Has w8 (w7.heap.size) (.int .i64 0) (.int .i64 0)) := KF.out.below hb
      replace B : Hid (Below w.heap.size w w8) := below_trans B.out hb
      clear hb g11
      go_wp2_with fail
      refine (g12.out _).mono ?_
      rintro e w9 ⟨rfl, hb⟩
      replace K0 : Hid (Has w9 (w.heap.size) (.int .i64 n0) (.int .i64 d0)) := K0.out.below hb
      replace KX : Hid (Has w9 (w5.heap.size) (.int .i64 n0) (.int .i64 d0)) := KX.out.below hb
      replace KF : Hid (Has w9 (w7.heap.size) (.int .i64 0) (.int .i64 0)) := KF.out.below hb
      replace B : Hid (Below w.heap.size w w9) := below_trans B.out hb
      clear hb 
      go_wp2_with fail
      refine (g21.out _).mono ?_
      rintro e w10 ⟨rfl, hb⟩
      replace K0 : Hid (Has w10 (w.heap.size) (.int .i64 n0) (.int .i64 d0)) := K0.out.below hb
      replace KX : Hid (Has w10 (w5.heap.size) (.int .i64 n0) (.int .i64 d0)) := KX.out.below hb
      replace KF : Hid (Has w10 (w7.heap.size) (.int .i64 0) (.int .i64 0)) := KF.out.below hb
      replace B : Hid (Below w.heap.size w w10) := below_trans B.out hb
      clear hb g21
      go_wp2_with fail
      refine (g12.out _).mono ?_
      rintro e w11 ⟨rfl, hb⟩
      replace K0 : Hid (Has w11 (w.heap.size) (.int .i64 n0) (.int .i64 d0)) := K0.out.below hb
      replace KX : Hid (Has w11 (w5.heap.size) (.int .i64 n0) (.int .i64 d0)) := KX.out.below hb
      replace KF : Hid (Has w11 (w7.heap.size) (.int .i64 0) (.int .i64 0)) := KF.out.below hb
      replace B : Hid (Below w.heap.size w w11) := below_trans B.out hb
      clear hb 
      go_wp2_with fail
      have KXqa := cell_regrown KX.out.1
      have KXqb := cell_regrown KX.out.2.1
      have K0qa := cell_regrown K0.out.1
      have K0qb := cell_regrown K0.out.2.1
      refine wp_region_quiet_below (by kernel_rfl) (by kernel_rfl) ?_
      repeat (go_big_quiet_step (first
        | (go_at_call 15; first | with_reducible exact Calls.regrown_of (of_any n0 d0 _))
        | (go_at_call 12; first | with_reducible exact Calls.regrown_of (g12.out _))))
      refine wpQuiet_nil ?_
      intro _ hw'
      obtain ⟨⟨dq, osq⟩, hw''⟩ := hw'
      subst hw''
      clear KXqa KXqb K0qa K0qb 
      have hb := below_regrown w11 dq osq
      replace K0 : Hid (Has (Sort.grow (redrawn w11 dq) osq) (w.heap.size) (.int .i64 n0) (.int .i64 d0)) := K0.out.below hb
      replace KX : Hid (Has (Sort.grow (redrawn w11 dq) osq) (w5.heap.size) (.int .i64 n0) (.int .i64 d0)) := KX.out.below hb
      replace KF : Hid (Has (Sort.grow (redrawn w11 dq) osq) (w7.heap.size) (.int .i64 0) (.int .i64 0)) := KF.out.below hb
      replace B : Hid (Below w.heap.size w (Sort.grow (redrawn w11 dq) osq)) := below_trans B.out hb
      clear hb
      generalize Sort.grow (redrawn w11 dq) osq = w12 at *
      go_wp2
      go_ret
      exact ⟨rfl, B.out⟩
    · have c2 : Hid (∀ w, Calls Try.prog 14 #[rv n0 d0, .string a1, .string a2] w fun e w' => e = .returned (.tuple #[rv 0 0, .int .i64 5]) ∧ Below w.heap.size w w') := fun w => conv3 hn0 hd0 k2 w
      clear g23 g13 k1 k2 p q r hn0 hd0
      have K0 : Hid (Has (w.alloc (.cells #[.int .i64 n0, .int .i64 d0] 30)) (w.heap.size) (.int .i64 n0) (.int .i64 d0)) := has_new w _ _ _
      have B : Hid (Below w.heap.size w (w.alloc (.cells #[.int .i64 n0, .int .i64 d0] 30))) := by unfold Hid; go_grown
      go_enter Try.func7, Try.ntmps7
      go_wp2_with fail
      refine (awake3_any _).mono ?_
      rintro e w1 ⟨rfl, hb⟩
      replace K0 : Hid (Has w1 (w.heap.size) (.int .i64 n0) (.int .i64 d0)) := K0.out.below hb
      replace B : Hid (Below w.heap.size w w1) := below_trans B.out hb
      clear hb 
      obtain ⟨K0a, K0b, K0c, K0d, K0e⟩ := K0.out
      go_wp2_with fail
      refine (fr.out _).mono ?_
      rintro e w2 ⟨rfl, hb⟩
      clear K0a K0b K0c K0d K0e
      replace K0 : Hid (Has w2 (w.heap.size) (.int .i64 n0) (.int .i64 d0)) := K0.out.below hb
      replace B : Hid (Below w.heap.size w w2) := below_trans B.out hb
      clear hb fr
      go_wp2_with fail
      refine (ff.out _).mono ?_
      rintro e w3 ⟨rfl, hb⟩
      replace K0 : Hid (Has w3 (w.heap.size) (.int .i64 n0) (.int .i64 d0)) := K0.out.below hb
      replace B : Hid (Below w.heap.size w w3) := below_trans B.out hb
      clear hb ff
      replace K0 : Hid (Has (w3.alloc (.cells #[.string u.nm, .int .i64 u.m, .int .i64 u.l, .int .i64 u.t, .int .i64 u.k, .int .i64 u.fn, .int .i64 u.fd, .int .i64 u.on, .int .i64 u.od, .int .i64 u.code] 27)) (w.heap.size) (.int .i64 n0) (.int .i64 d0)) := K0.out.alloc _
      replace B : Hid (Below w.heap.size w (w3.alloc (.cells #[.string u.nm, .int .i64 u.m, .int .i64 u.l, .int .i64 u.t, .int .i64 u.k, .int .i64 u.fn, .int .i64 u.fd, .int .i64 u.on, .int .i64 u.od, .int .i64 u.code] 27))) := B.out.alloc B.out.size _
      have KU : Hid (HasU (w3.alloc (.cells #[.string u.nm, .int .i64 u.m, .int .i64 u.l, .int .i64 u.t, .int .i64 u.k, .int .i64 u.fn, .int .i64 u.fd, .int .i64 u.on, .int .i64 u.od, .int .i64 u.code] 27)) (w3.heap.size) 27 u) := hasU_new w3 _ u
      obtain ⟨K0a, K0b, K0c, K0d, K0e⟩ := K0.out
      go_wp2_with fail
      refine (of_any n0 d0 _).mono ?_
      rintro e w4 ⟨rfl, hb⟩
      clear K0a K0b K0c K0d K0e
      replace K0 : Hid (Has w4 (w.heap.size) (.int .i64 n0) (.int .i64 d0)) := K0.out.below hb
      replace KU : Hid (HasU w4 (w3.heap.size) 27 u) := KU.out.below hb
      replace B : Hid (Below w.heap.size w w4) := below_trans B.out hb
      clear hb 
      go_wp2_with fail
      refine (c1.out _).mono ?_
      rintro e w5 ⟨rfl, hb⟩
      replace K0 : Hid (Has w5 (w.heap.size) (.int .i64 n0) (.int .i64 d0)) := K0.out.below hb
      replace KU : Hid (HasU w5 (w3.heap.size) 27 u) := KU.out.below hb
      replace B : Hid (Below w.heap.size w w5) := below_trans B.out hb
      clear hb c1
      replace K0 : Hid (Has (w5.alloc (.cells #[.int .i64 n0, .int .i64 d0] 25)) (w.heap.size) (.int .i64 n0) (.int .i64 d0)) := K0.out.alloc _
      replace KU : Hid (HasU (w5.alloc (.cells #[.int .i64 n0, .int .i64 d0] 25)) (w3.heap.size) 27 u) := KU.out.alloc _
      replace B : Hid (Below w.heap.size w (w5.alloc (.cells #[.int .i64 n0, .int .i64 d0] 25))) := B.out.alloc B.out.size _
      have KX : Hid (Has (w5.alloc (.cells #[.int .i64 n0, .int .i64 d0] 25)) (w5.heap.size) (.int .i64 n0) (.int .i64 d0)) := has_new w5 _ _ _
      obtain ⟨K0a, K0b, K0c, K0d, K0e⟩ := K0.out
      go_wp2_with fail
      refine (of_any n0 d0 _).mono ?_
      rintro e w6 ⟨rfl, hb⟩
      clear K0a K0b K0c K0d K0e
      replace K0 : Hid (Has w6 (w.heap.size) (.int .i64 n0) (.int .i64 d0)) := K0.out.below hb
      replace KU : Hid (HasU w6 (w3.heap.size) 27 u) := KU.out.below hb
      replace KX : Hid (Has w6 (w5.heap.size) (.int .i64 n0) (.int .i64 d0)) := KX.out.below hb
      replace B : Hid (Below w.heap.size w w6) := below_trans B.out hb
      clear hb 
      go_wp2_with fail
      refine (c2.out _).mono ?_
      rintro e w7 ⟨rfl, hb⟩
      replace K0 : Hid (Has w7 (w.heap.size) (.int .i64 n0) (.int .i64 d0)) := K0.out.below hb
      replace KU : Hid (HasU w7 (w3.heap.size) 27 u) := KU.out.below hb
      replace KX : Hid (Has w7 (w5.heap.size) (.int .i64 n0) (.int .i64 d0)) := KX.out.below hb
      replace B : Hid (Below w.heap.size w w7) := below_trans B.out hb
      clear hb c2
      replace K0 : Hid (Has (w7.alloc (.cells #[.int .i64 0, .int .i64 0] 25)) (w.heap.size) (.int .i64 n0) (.int .i64 d0)) := K0.out.alloc _
      replace KU : Hid (HasU (w7.alloc (.cells #[.int .i64 0, .int .i64 0] 25)) (w3.heap.size) 27 u) := KU.out.alloc _
      replace KX : Hid (Has (w7.alloc (.cells #[.int .i64 0, .int .i64 0] 25)) (w5.heap.size) (.int .i64 n0) (.int .i64 d0)) := KX.out.alloc _
      replace B : Hid (Below w.heap.size w (w7.alloc (.cells #[.int .i64 0, .int .i64 0] 25))) := B.out.alloc B.out.size _
      have KF : Hid (Has (w7.alloc (.cells #[.int .i64 0, .int .i64 0] 25)) (w7.heap.size) (.int .i64 0) (.int .i64 0)) := has_new w7 _ _ _
      clear KU
      go_wp2_with fail
      refine (g11.out _).mono ?_
      rintro e w8 ⟨rfl, hb⟩
      replace K0 : Hid (Has w8 (w.heap.size) (.int .i64 n0) (.int .i64 d0)) := K0.out.below hb
      replace KX : Hid (Has w8 (w5.heap.size) (.int .i64 n0) (.int .i64 d0)) := KX.out.below hb
      replace KF : Hid (Has w8 (w7.heap.size) (.int .i64 0) (.int .i64 0)) := KF.out.below hb
      replace B : Hid (Below w.heap.size w w8) := below_trans B.out hb
      clear hb g11
      go_wp2_with fail
      refine (g12.out _).mono ?_
      rintro e w9 ⟨rfl, hb⟩
      replace K0 : Hid (Has w9 (w.heap.size) (.int .i64 n0) (.int .i64 d0)) := K0.out.below hb
      replace KX : Hid (Has w9 (w5.heap.size) (.int .i64 n0) (.int .i64 d0)) := KX.out.below hb
      replace KF : Hid (Has w9 (w7.heap.size) (.int .i64 0) (.int .i64 0)) := KF.out.below hb
      replace B : Hid (Below w.heap.size w w9) := below_trans B.out hb
      clear hb 
      go_wp2_with fail
      refine (g21.out _).mono ?_
      rintro e w10 ⟨rfl, hb⟩
      replace K0 : Hid (Has w10 (w.heap.size) (.int .i64 n0) (.int .i64 d0)) := K0.out.below hb
      replace KX : Hid (Has w10 (w5.heap.size) (.int .i64 n0) (.int .i64 d0)) := KX.out.below hb
      replace KF : Hid (Has w10 (w7.heap.size) (.int .i64 0) (.int .i64 0)) := KF.out.below hb
      replace B : Hid (Below w.heap.size w w10) := below_trans B.out hb
      clear hb g21
      go_wp2_with fail
      refine (g12.out _).mono ?_
      rintro e w11 ⟨rfl, hb⟩
      replace K0 : Hid (Has w11 (w.heap.size) (.int .i64 n0) (.int .i64 d0)) := K0.out.below hb
      replace KX : Hid (Has w11 (w5.heap.size) (.int .i64 n0) (.int .i64 d0)) := KX.out.below hb
      replace KF : Hid (Has w11 (w7.heap.size) (.int .i64 0) (.int .i64 0)) := KF.out.below hb
      replace B : Hid (Below w.heap.size w w11) := below_trans B.out hb
      clear hb 
      go_wp2_with fail
      have KXqa := cell_regrown KX.out.1
      have KXqb := cell_regrown KX.out.2.1
      have K0qa := cell_regrown K0.out.1
      have K0qb := cell_regrown K0.out.2.1
      refine wp_region_quiet_below (by kernel_rfl) (by kernel_rfl) ?_
      repeat (go_big_quiet_step (first
        | (go_at_call 15; first | with_reducible exact Calls.regrown_of (of_any n0 d0 _))
        | (go_at_call 12; first | with_reducible exact Calls.regrown_of (g12.out _))))
      refine wpQuiet_nil ?_
      intro _ hw'
      obtain ⟨⟨dq, osq⟩, hw''⟩ := hw'
      subst hw''
      clear KXqa KXqb K0qa K0qb 
      have hb := below_regrown w11 dq osq
      replace K0 : Hid (Has (Sort.grow (redrawn w11 dq) osq) (w.heap.size) (.int .i64 n0) (.int .i64 d0)) := K0.out.below hb
      replace KX : Hid (Has (Sort.grow (redrawn w11 dq) osq) (w5.heap.size) (.int .i64 n0) (.int .i64 d0)) := KX.out.below hb
      replace KF : Hid (Has (Sort.grow (redrawn w11 dq) osq) (w7.heap.size) (.int .i64 0) (.int .i64 0)) := KF.out.below hb
      replace B : Hid (Below w.heap.size w (Sort.grow (redrawn w11 dq) osq)) := below_trans B.out hb
      clear hb
      generalize Sort.grow (redrawn w11 dq) osq = w12 at *
      go_wp2
      go_ret
      exact ⟨rfl, B.out⟩
  rw [q] at g12 g21
  have tr := fun k => like_trans (c := a3) q k
  cases s : likeB a2 a3
  · rw [s] at g23
    clear g13
    rcases cv_like r q with k2 | ⟨N, D, k2⟩
    · have c2 : Hid (∀ w, Calls Try.prog 14 #[rv n0 d0, .string a1, .string a2] w fun e w' => e = .returned (.tuple #[rv 0 0, .int .i64 2]) ∧ Below w.heap.size w w') := fun w => conv3 hn0 hd0 k2 w
      clear k1 k2 p q s tr r hn0 hd0
      have K0 : Hid (Has (w.alloc (.cells #[.int .i64 n0, .int .i64 d0] 30)) (w.heap.size) (.int .i64 n0) (.int .i64 d0)) := has_new w _ _ _
      have B : Hid (Below w.heap.size w (w.alloc (.cells #[.int .i64 n0, .int .i64 d0] 30))) := by unfold Hid; go_grown
      go_enter Try.func7, Try.ntmps7
      go_wp2_with fail
      refine (awake3_any _).mono ?_
      rintro e w1 ⟨rfl, hb⟩
      replace K0 : Hid (Has w1 (w.heap.size) (.int .i64 n0) (.int .i64 d0)) := K0.out.below hb
      replace B : Hid (Below w.heap.size w w1) := below_trans B.out hb
      clear hb 
      obtain ⟨K0a, K0b, K0c, K0d, K0e⟩ := K0.out
      go_wp2_with fail
      refine (fr.out _).mono ?_
      rintro e w2 ⟨rfl, hb⟩
      clear K0a K0b K0c K0d K0e
      replace K0 : Hid (Has w2 (w.heap.size) (.int .i64 n0) (.int .i64 d0)) := K0.out.below hb
      replace B : Hid (Below w.heap.size w w2) := below_trans B.out hb
      clear hb fr
      go_wp2_with fail
      refine (ff.out _).mono ?_
      rintro e w3 ⟨rfl, hb⟩
      replace K0 : Hid (Has w3 (w.heap.size) (.int .i64 n0) (.int .i64 d0)) := K0.out.below hb
      replace B : Hid (Below w.heap.size w w3) := below_trans B.out hb
      clear hb ff
      replace K0 : Hid (Has (w3.alloc (.cells #[.string u.nm, .int .i64 u.m, .int .i64 u.l, .int .i64 u.t, .int .i64 u.k, .int .i64 u.fn, .int .i64 u.fd, .int .i64 u.on, .int .i64 u.od, .int .i64 u.code] 27)) (w.heap.size) (.int .i64 n0) (.int .i64 d0)) := K0.out.alloc _
      replace B : Hid (Below w.heap.size w (w3.alloc (.cells #[.string u.nm, .int .i64 u.m, .int .i64 u.l, .int .i64 u.t, .int .i64 u.k, .int .i64 u.fn, .int .i64 u.fd, .int .i64 u.on, .int .i64 u.od, .int .i64 u.code] 27))) := B.out.alloc B.out.size _
      have KU : Hid (HasU (w3.alloc (.cells #[.string u.nm, .int .i64 u.m, .int .i64 u.l, .int .i64 u.t, .int .i64 u.k, .int .i64 u.fn, .int .i64 u.fd, .int .i64 u.on, .int .i64 u.od, .int .i64 u.code] 27)) (w3.heap.size) 27 u) := hasU_new w3 _ u
      obtain ⟨K0a, K0b, K0c, K0d, K0e⟩ := K0.out
      go_wp2_with fail
      refine (of_any n0 d0 _).mono ?_
      rintro e w4 ⟨rfl, hb⟩
      clear K0a K0b K0c K0d K0e
      replace K0 : Hid (Has w4 (w.heap.size) (.int .i64 n0) (.int .i64 d0)) := K0.out.below hb
      replace KU : Hid (HasU w4 (w3.heap.size) 27 u) := KU.out.below hb
      replace B : Hid (Below w.heap.size w w4) := below_trans B.out hb
      clear hb 
      go_wp2_with fail
      refine (c1.out _).mono ?_
      rintro e w5 ⟨rfl, hb⟩
      replace K0 : Hid (Has w5 (w.heap.size) (.int .i64 n0) (.int .i64 d0)) := K0.out.below hb
      replace KU : Hid (HasU w5 (w3.heap.size) 27 u) := KU.out.below hb
      replace B : Hid (Below w.heap.size w w5) := below_trans B.out hb
      clear hb c1
      replace K0 : Hid (Has (w5.alloc (.cells #[.int .i64 n0, .int .i64 d0] 25)) (w.heap.size) (.int .i64 n0) (.int .i64 d0)) := K0.out.alloc _
      replace KU : Hid (HasU (w5.alloc (.cells #[.int .i64 n0, .int .i64 d0] 25)) (w3.heap.size) 27 u) := KU.out.alloc _
      replace B : Hid (Below w.heap.size w (w5.alloc (.cells #[.int .i64 n0, .int .i64 d0] 25))) := B.out.alloc B.out.size _
      have KX : Hid (Has (w5.alloc (.cells #[.int .i64 n0, .int .i64 d0] 25)) (w5.heap.size) (.int .i64 n0) (.int .i64 d0)) := has_new w5 _ _ _
      obtain ⟨K0a, K0b, K0c, K0d, K0e⟩ := K0.out
      go_wp2_with fail
      refine (of_any n0 d0 _).mono ?_
      rintro e w6 ⟨rfl, hb⟩
      clear K0a K0b K0c K0d K0e
      replace K0 : Hid (Has w6 (w.heap.size) (.int .i64 n0) (.int .i64 d0)) := K0.out.below hb
      replace KU : Hid (HasU w6 (w3.heap.size) 27 u) := KU.out.below hb
      replace KX : Hid (Has w6 (w5.heap.size) (.int .i64 n0) (.int .i64 d0)) := KX.out.below hb
      replace B : Hid (Below w.heap.size w w6) := below_trans B.out hb
      clear hb 
      go_wp2_with fail
      refine (c2.out _).mono ?_
      rintro e w7 ⟨rfl, hb⟩
      replace K0 : Hid (Has w7 (w.heap.size) (.int .i64 n0) (.int .i64 d0)) := K0.out.below hb
      replace KU : Hid (HasU w7 (w3.heap.size) 27 u) := KU.out.below hb
      replace KX : Hid (Has w7 (w5.heap.size) (.int .i64 n0) (.int .i64 d0)) := KX.out.below hb
      replace B : Hid (Below w.heap.size w w7) := below_trans B.out hb
      clear hb c2
      replace K0 : Hid (Has (w7.alloc (.cells #[.int .i64 0, .int .i64 0] 25)) (w.heap.size) (.int .i64 n0) (.int .i64 d0)) := K0.out.alloc _
      replace KU : Hid (HasU (w7.alloc (.cells #[.int .i64 0, .int .i64 0] 25)) (w3.heap.size) 27 u) := KU.out.alloc _
      replace KX : Hid (Has (w7.alloc (.cells #[.int .i64 0, .int .i64 0] 25)) (w5.heap.size) (.int .i64 n0) (.int .i64 d0)) := KX.out.alloc _
      replace B : Hid (Below w.heap.size w (w7.alloc (.cells #[.int .i64 0, .int .i64 0] 25))) := B.out.alloc B.out.size _
      have KF : Hid (Has (w7.alloc (.cells #[.int .i64 0, .int .i64 0] 25)) (w7.heap.size) (.int .i64 0) (.int .i64 0)) := has_new w7 _ _ _
      clear KU
      go_wp2_with fail
      refine (g11.out _).mono ?_
      rintro e w8 ⟨rfl, hb⟩
      replace K0 : Hid (Has w8 (w.heap.size) (.int .i64 n0) (.int .i64 d0)) := K0.out.below hb
      replace KX : Hid (Has w8 (w5.heap.size) (.int .i64 n0) (.int .i64 d0)) := KX.out.below hb
      replace KF : Hid (Has w8 (w7.heap.size) (.int .i64 0) (.int .i64 0)) := KF.out.below hb
      replace B : Hid (Below w.heap.size w w8) := below_trans B.out hb
      clear hb g11
      go_wp2_with fail
      refine (g12.out _).mono ?_
      rintro e w9 ⟨rfl, hb⟩
      replace K0 : Hid (Has w9 (w.heap.size) (.int .i64 n0) (.int .i64 d0)) := K0.out.below hb
      replace KX : Hid (Has w9 (w5.heap.size) (.int .i64 n0) (.int .i64 d0)) := KX.out.below hb
      replace KF : Hid (Has w9 (w7.heap.size) (.int .i64 0) (.int .i64 0)) := KF.out.below hb
      replace B : Hid (Below w.heap.size w w9) := below_trans B.out hb
      clear hb 
      go_wp2_with fail
      refine (g21.out _).mono ?_
      rintro e w10 ⟨rfl, hb⟩
      replace K0 : Hid (Has w10 (w.heap.size) (.int .i64 n0) (.int .i64 d0)) := K0.out.below hb
      replace KX : Hid (Has w10 (w5.heap.size) (.int .i64 n0) (.int .i64 d0)) := KX.out.below hb
      replace KF : Hid (Has w10 (w7.heap.size) (.int .i64 0) (.int .i64 0)) := KF.out.below hb
      replace B : Hid (Below w.heap.size w w10) := below_trans B.out hb
      clear hb g21
      go_wp2_with fail
      refine (g12.out _).mono ?_
      rintro e w11 ⟨rfl, hb⟩
      replace K0 : Hid (Has w11 (w.heap.size) (.int .i64 n0) (.int .i64 d0)) := K0.out.below hb
      replace KX : Hid (Has w11 (w5.heap.size) (.int .i64 n0) (.int .i64 d0)) := KX.out.below hb
      replace KF : Hid (Has w11 (w7.heap.size) (.int .i64 0) (.int .i64 0)) := KF.out.below hb
      replace B : Hid (Below w.heap.size w w11) := below_trans B.out hb
      clear hb 
      go_wp2_with fail
      refine (g23.out _).mono ?_
      rintro e w12 ⟨rfl, hb⟩
      replace K0 : Hid (Has w12 (w.heap.size) (.int .i64 n0) (.int .i64 d0)) := K0.out.below hb
      replace KX : Hid (Has w12 (w5.heap.size) (.int .i64 n0) (.int .i64 d0)) := KX.out.below hb
      replace KF : Hid (Has w12 (w7.heap.size) (.int .i64 0) (.int .i64 0)) := KF.out.below hb
      replace B : Hid (Below w.heap.size w w12) := below_trans B.out hb
      clear hb g23
      go_wp2_with fail
      have KXqa := cell_regrown KX.out.1
      have KXqb := cell_regrown KX.out.2.1
      have K0qa := cell_regrown K0.out.1
      have K0qb := cell_regrown K0.out.2.1
      refine wp_region_quiet_below (by kernel_rfl) (by kernel_rfl) ?_
      repeat (go_big_quiet_step (first
        | (go_at_call 15; first | with_reducible exact Calls.regrown_of (of_any n0 d0 _))
        | (go_at_call 12; first | with_reducible exact Calls.regrown_of (g12.out _))))
      refine wpQuiet_nil ?_
      intro _ hw'
      obtain ⟨⟨dq, osq⟩, hw''⟩ := hw'
      subst hw''
      clear KXqa KXqb K0qa K0qb 
      have hb := below_regrown w12 dq osq
      replace K0 : Hid (Has (Sort.grow (redrawn w12 dq) osq) (w.heap.size) (.int .i64 n0) (.int .i64 d0)) := K0.out.below hb
      replace KX : Hid (Has (Sort.grow (redrawn w12 dq) osq) (w5.heap.size) (.int .i64 n0) (.int .i64 d0)) := KX.out.below hb
      replace KF : Hid (Has (Sort.grow (redrawn w12 dq) osq) (w7.heap.size) (.int .i64 0) (.int .i64 0)) := KF.out.below hb
      replace B : Hid (Below w.heap.size w (Sort.grow (redrawn w12 dq) osq)) := below_trans B.out hb
      clear hb
      generalize Sort.grow (redrawn w12 dq) osq = w13 at *
      go_wp2
      go_ret
      exact ⟨rfl, B.out⟩
    · have c2 : Hid (∀ w, Calls Try.prog 14 #[rv n0 d0, .string a1, .string a2] w fun e w' => e = .returned (.tuple #[rv N D, .int .i64 0]) ∧ Below w.heap.size w w') := fun w => conv3 hn0 hd0 k2 w
      clear k1 k2 p q s tr r hn0 hd0
      have K0 : Hid (Has (w.alloc (.cells #[.int .i64 n0, .int .i64 d0] 30)) (w.heap.size) (.int .i64 n0) (.int .i64 d0)) := has_new w _ _ _
      have B : Hid (Below w.heap.size w (w.alloc (.cells #[.int .i64 n0, .int .i64 d0] 30))) := by unfold Hid; go_grown
      go_enter Try.func7, Try.ntmps7
      go_wp2_with fail
      refine (awake3_any _).mono ?_
      rintro e w1 ⟨rfl, hb⟩
      replace K0 : Hid (Has w1 (w.heap.size) (.int .i64 n0) (.int .i64 d0)) := K0.out.below hb
      replace B : Hid (Below w.heap.size w w1) := below_trans B.out hb
      clear hb 
      obtain ⟨K0a, K0b, K0c, K0d, K0e⟩ := K0.out
      go_wp2_with fail
      refine (fr.out _).mono ?_
      rintro e w2 ⟨rfl, hb⟩
      clear K0a K0b K0c K0d K0e
      replace K0 : Hid (Has w2 (w.heap.size) (.int .i64 n0) (.int .i64 d0)) := K0.out.below hb
      replace B : Hid (Below w.heap.size w w2) := below_trans B.out hb
      clear hb fr
      go_wp2_with fail
      refine (ff.out _).mono ?_
      rintro e w3 ⟨rfl, hb⟩
      replace K0 : Hid (Has w3 (w.heap.size) (.int .i64 n0) (.int .i64 d0)) := K0.out.below hb
      replace B : Hid (Below w.heap.size w w3) := below_trans B.out hb
      clear hb ff
      replace K0 : Hid (Has (w3.alloc (.cells #[.string u.nm, .int .i64 u.m, .int .i64 u.l, .int .i64 u.t, .int .i64 u.k, .int .i64 u.fn, .int .i64 u.fd, .int .i64 u.on, .int .i64 u.od, .int .i64 u.code] 27)) (w.heap.size) (.int .i64 n0) (.int .i64 d0)) := K0.out.alloc _
      replace B : Hid (Below w.heap.size w (w3.alloc (.cells #[.string u.nm, .int .i64 u.m, .int .i64 u.l, .int .i64 u.t, .int .i64 u.k, .int .i64 u.fn, .int .i64 u.fd, .int .i64 u.on, .int .i64 u.od, .int .i64 u.code] 27))) := B.out.alloc B.out.size _
      have KU : Hid (HasU (w3.alloc (.cells #[.string u.nm, .int .i64 u.m, .int .i64 u.l, .int .i64 u.t, .int .i64 u.k, .int .i64 u.fn, .int .i64 u.fd, .int .i64 u.on, .int .i64 u.od, .int .i64 u.code] 27)) (w3.heap.size) 27 u) := hasU_new w3 _ u
      obtain ⟨K0a, K0b, K0c, K0d, K0e⟩ := K0.out
      go_wp2_with fail
      refine (of_any n0 d0 _).mono ?_
      rintro e w4 ⟨rfl, hb⟩
      clear K0a K0b K0c K0d K0e
      replace K0 : Hid (Has w4 (w.heap.size) (.int .i64 n0) (.int .i64 d0)) := K0.out.below hb
      replace KU : Hid (HasU w4 (w3.heap.size) 27 u) := KU.out.below hb
      replace B : Hid (Below w.heap.size w w4) := below_trans B.out hb
      clear hb 
      go_wp2_with fail
      refine (c1.out _).mono ?_
      rintro e w5 ⟨rfl, hb⟩
      replace K0 : Hid (Has w5 (w.heap.size) (.int .i64 n0) (.int .i64 d0)) := K0.out.below hb
      replace KU : Hid (HasU w5 (w3.heap.size) 27 u) := KU.out.below hb
      replace B : Hid (Below w.heap.size w w5) := below_trans B.out hb
      clear hb c1
      replace K0 : Hid (Has (w5.alloc (.cells #[.int .i64 n0, .int .i64 d0] 25)) (w.heap.size) (.int .i64 n0) (.int .i64 d0)) := K0.out.alloc _
      replace KU : Hid (HasU (w5.alloc (.cells #[.int .i64 n0, .int .i64 d0] 25)) (w3.heap.size) 27 u) := KU.out.alloc _
      replace B : Hid (Below w.heap.size w (w5.alloc (.cells #[.int .i64 n0, .int .i64 d0] 25))) := B.out.alloc B.out.size _
      have KX : Hid (Has (w5.alloc (.cells #[.int .i64 n0, .int .i64 d0] 25)) (w5.heap.size) (.int .i64 n0) (.int .i64 d0)) := has_new w5 _ _ _
      obtain ⟨K0a, K0b, K0c, K0d, K0e⟩ := K0.out
      go_wp2_with fail
      refine (of_any n0 d0 _).mono ?_
      rintro e w6 ⟨rfl, hb⟩
      clear K0a K0b K0c K0d K0e
      replace K0 : Hid (Has w6 (w.heap.size) (.int .i64 n0) (.int .i64 d0)) := K0.out.below hb
      replace KU : Hid (HasU w6 (w3.heap.size) 27 u) := KU.out.below hb
      replace KX : Hid (Has w6 (w5.heap.size) (.int .i64 n0) (.int .i64 d0)) := KX.out.below hb
      replace B : Hid (Below w.heap.size w w6) := below_trans B.out hb
      clear hb 
      go_wp2_with fail
      refine (c2.out _).mono ?_
      rintro e w7 ⟨rfl, hb⟩
      replace K0 : Hid (Has w7 (w.heap.size) (.int .i64 n0) (.int .i64 d0)) := K0.out.below hb
      replace KU : Hid (HasU w7 (w3.heap.size) 27 u) := KU.out.below hb
      replace KX : Hid (Has w7 (w5.heap.size) (.int .i64 n0) (.int .i64 d0)) := KX.out.below hb
      replace B : Hid (Below w.heap.size w w7) := below_trans B.out hb
      clear hb c2
      replace K0 : Hid (Has (w7.alloc (.cells #[.int .i64 N, .int .i64 D] 25)) (w.heap.size) (.int .i64 n0) (.int .i64 d0)) := K0.out.alloc _
      replace KU : Hid (HasU (w7.alloc (.cells #[.int .i64 N, .int .i64 D] 25)) (w3.heap.size) 27 u) := KU.out.alloc _
      replace KX : Hid (Has (w7.alloc (.cells #[.int .i64 N, .int .i64 D] 25)) (w5.heap.size) (.int .i64 n0) (.int .i64 d0)) := KX.out.alloc _
      replace B : Hid (Below w.heap.size w (w7.alloc (.cells #[.int .i64 N, .int .i64 D] 25))) := B.out.alloc B.out.size _
      have KF : Hid (Has (w7.alloc (.cells #[.int .i64 N, .int .i64 D] 25)) (w7.heap.size) (.int .i64 N) (.int .i64 D)) := has_new w7 _ _ _
      clear KU
      go_wp2_with fail
      refine (g11.out _).mono ?_
      rintro e w8 ⟨rfl, hb⟩
      replace K0 : Hid (Has w8 (w.heap.size) (.int .i64 n0) (.int .i64 d0)) := K0.out.below hb
      replace KX : Hid (Has w8 (w5.heap.size) (.int .i64 n0) (.int .i64 d0)) := KX.out.below hb
      replace KF : Hid (Has w8 (w7.heap.size) (.int .i64 N) (.int .i64 D)) := KF.out.below hb
      replace B : Hid (Below w.heap.size w w8) := below_trans B.out hb
      clear hb g11
      go_wp2_with fail
      refine (g12.out _).mono ?_
      rintro e w9 ⟨rfl, hb⟩
      replace K0 : Hid (Has w9 (w.heap.size) (.int .i64 n0) (.int .i64 d0)) := K0.out.below hb
      replace KX : Hid (Has w9 (w5.heap.size) (.int .i64 n0) (.int .i64 d0)) := KX.out.below hb
      replace KF : Hid (Has w9 (w7.heap.size) (.int .i64 N) (.int .i64 D)) := KF.out.below hb
      replace B : Hid (Below w.heap.size w w9) := below_trans B.out hb
      clear hb 
      go_wp2_with fail
      refine (g21.out _).mono ?_
      rintro e w10 ⟨rfl, hb⟩
      replace K0 : Hid (Has w10 (w.heap.size) (.int .i64 n0) (.int .i64 d0)) := K0.out.below hb
      replace KX : Hid (Has w10 (w5.heap.size) (.int .i64 n0) (.int .i64 d0)) := KX.out.below hb
      replace KF : Hid (Has w10 (w7.heap.size) (.int .i64 N) (.int .i64 D)) := KF.out.below hb
      replace B : Hid (Below w.heap.size w w10) := below_trans B.out hb
      clear hb g21
      go_wp2_with fail
      refine (g12.out _).mono ?_
      rintro e w11 ⟨rfl, hb⟩
      replace K0 : Hid (Has w11 (w.heap.size) (.int .i64 n0) (.int .i64 d0)) := K0.out.below hb
      replace KX : Hid (Has w11 (w5.heap.size) (.int .i64 n0) (.int .i64 d0)) := KX.out.below hb
      replace KF : Hid (Has w11 (w7.heap.size) (.int .i64 N) (.int .i64 D)) := KF.out.below hb
      replace B : Hid (Below w.heap.size w w11) := below_trans B.out hb
      clear hb 
      go_wp2_with fail
      refine (g23.out _).mono ?_
      rintro e w12 ⟨rfl, hb⟩
      replace K0 : Hid (Has w12 (w.heap.size) (.int .i64 n0) (.int .i64 d0)) := K0.out.below hb
      replace KX : Hid (Has w12 (w5.heap.size) (.int .i64 n0) (.int .i64 d0)) := KX.out.below hb
      replace KF : Hid (Has w12 (w7.heap.size) (.int .i64 N) (.int .i64 D)) := KF.out.below hb
      replace B : Hid (Below w.heap.size w w12) := below_trans B.out hb
      clear hb g23
      go_wp2_with fail
      have KXqa := cell_regrown KX.out.1
      have KXqb := cell_regrown KX.out.2.1
      have K0qa := cell_regrown K0.out.1
      have K0qb := cell_regrown K0.out.2.1
      refine wp_region_quiet_below (by kernel_rfl) (by kernel_rfl) ?_
      repeat (go_big_quiet_step (first
        | (go_at_call 15; first | with_reducible exact Calls.regrown_of (of_any n0 d0 _))
        | (go_at_call 12; first | with_reducible exact Calls.regrown_of (g12.out _))))
      refine wpQuiet_nil ?_
      intro _ hw'
      obtain ⟨⟨dq, osq⟩, hw''⟩ := hw'
      subst hw''
      clear KXqa KXqb K0qa K0qb 
      have hb := below_regrown w12 dq osq
      replace K0 : Hid (Has (Sort.grow (redrawn w12 dq) osq) (w.heap.size) (.int .i64 n0) (.int .i64 d0)) := K0.out.below hb
      replace KX : Hid (Has (Sort.grow (redrawn w12 dq) osq) (w5.heap.size) (.int .i64 n0) (.int .i64 d0)) := KX.out.below hb
      replace KF : Hid (Has (Sort.grow (redrawn w12 dq) osq) (w7.heap.size) (.int .i64 N) (.int .i64 D)) := KF.out.below hb
      replace B : Hid (Below w.heap.size w (Sort.grow (redrawn w12 dq) osq)) := below_trans B.out hb
      clear hb
      generalize Sort.grow (redrawn w12 dq) osq = w13 at *
      go_wp2
      go_ret
      exact ⟨rfl, B.out⟩
  · rw [s] at g23
    rw [tr s] at g13
    rcases cv_like r q with k2 | ⟨N, D, k2⟩
    · have c2 : Hid (∀ w, Calls Try.prog 14 #[rv n0 d0, .string a1, .string a2] w fun e w' => e = .returned (.tuple #[rv 0 0, .int .i64 2]) ∧ Below w.heap.size w w') := fun w => conv3 hn0 hd0 k2 w
      clear k1 k2 p q s tr r hn0 hd0
      have K0 : Hid (Has (w.alloc (.cells #[.int .i64 n0, .int .i64 d0] 30)) (w.heap.size) (.int .i64 n0) (.int .i64 d0)) := has_new w _ _ _
      have B : Hid (Below w.heap.size w (w.alloc (.cells #[.int .i64 n0, .int .i64 d0] 30))) := by unfold Hid; go_grown
      go_enter Try.func7, Try.ntmps7
      go_wp2_with fail
      refine (awake3_any _).mono ?_
      rintro e w1 ⟨rfl, hb⟩
      replace K0 : Hid (Has w1 (w.heap.size) (.int .i64 n0) (.int .i64 d0)) := K0.out.below hb
      replace B : Hid (Below w.heap.size w w1) := below_trans B.out hb
      clear hb 
      obtain ⟨K0a, K0b, K0c, K0d, K0e⟩ := K0.out
      go_wp2_with fail
      refine (fr.out _).mono ?_
      rintro e w2 ⟨rfl, hb⟩
      clear K0a K0b K0c K0d K0e
      replace K0 : Hid (Has w2 (w.heap.size) (.int .i64 n0) (.int .i64 d0)) := K0.out.below hb
      replace B : Hid (Below w.heap.size w w2) := below_trans B.out hb
      clear hb fr
      go_wp2_with fail
      refine (ff.out _).mono ?_
      rintro e w3 ⟨rfl, hb⟩
      replace K0 : Hid (Has w3 (w.heap.size) (.int .i64 n0) (.int .i64 d0)) := K0.out.below hb
      replace B : Hid (Below w.heap.size w w3) := below_trans B.out hb
      clear hb ff
      replace K0 : Hid (Has (w3.alloc (.cells #[.string u.nm, .int .i64 u.m, .int .i64 u.l, .int .i64 u.t, .int .i64 u.k, .int .i64 u.fn, .int .i64 u.fd, .int .i64 u.on, .int .i64 u.od, .int .i64 u.code] 27)) (w.heap.size) (.int .i64 n0) (.int .i64 d0)) := K0.out.alloc _
      replace B : Hid (Below w.heap.size w (w3.alloc (.cells #[.string u.nm, .int .i64 u.m, .int .i64 u.l, .int .i64 u.t, .int .i64 u.k, .int .i64 u.fn, .int .i64 u.fd, .int .i64 u.on, .int .i64 u.od, .int .i64 u.code] 27))) := B.out.alloc B.out.size _
      have KU : Hid (HasU (w3.alloc (.cells #[.string u.nm, .int .i64 u.m, .int .i64 u.l, .int .i64 u.t, .int .i64 u.k, .int .i64 u.fn, .int .i64 u.fd, .int .i64 u.on, .int .i64 u.od, .int .i64 u.code] 27)) (w3.heap.size) 27 u) := hasU_new w3 _ u
      obtain ⟨K0a, K0b, K0c, K0d, K0e⟩ := K0.out
      go_wp2_with fail
      refine (of_any n0 d0 _).mono ?_
      rintro e w4 ⟨rfl, hb⟩
      clear K0a K0b K0c K0d K0e
      replace K0 : Hid (Has w4 (w.heap.size) (.int .i64 n0) (.int .i64 d0)) := K0.out.below hb
      replace KU : Hid (HasU w4 (w3.heap.size) 27 u) := KU.out.below hb
      replace B : Hid (Below w.heap.size w w4) := below_trans B.out hb
      clear hb 
      go_wp2_with fail
      refine (c1.out _).mono ?_
      rintro e w5 ⟨rfl, hb⟩
      replace K0 : Hid (Has w5 (w.heap.size) (.int .i64 n0) (.int .i64 d0)) := K0.out.below hb
      replace KU : Hid (HasU w5 (w3.heap.size) 27 u) := KU.out.below hb
      replace B : Hid (Below w.heap.size w w5) := below_trans B.out hb
      clear hb c1
      replace K0 : Hid (Has (w5.alloc (.cells #[.int .i64 n0, .int .i64 d0] 25)) (w.heap.size) (.int .i64 n0) (.int .i64 d0)) := K0.out.alloc _
      replace KU : Hid (HasU (w5.alloc (.cells #[.int .i64 n0, .int .i64 d0] 25)) (w3.heap.size) 27 u) := KU.out.alloc _
      replace B : Hid (Below w.heap.size w (w5.alloc (.cells #[.int .i64 n0, .int .i64 d0] 25))) := B.out.alloc B.out.size _
      have KX : Hid (Has (w5.alloc (.cells #[.int .i64 n0, .int .i64 d0] 25)) (w5.heap.size) (.int .i64 n0) (.int .i64 d0)) := has_new w5 _ _ _
      obtain ⟨K0a, K0b, K0c, K0d, K0e⟩ := K0.out
      go_wp2_with fail
      refine (of_any n0 d0 _).mono ?_
      rintro e w6 ⟨rfl, hb⟩
      clear K0a K0b K0c K0d K0e
      replace K0 : Hid (Has w6 (w.heap.size) (.int .i64 n0) (.int .i64 d0)) := K0.out.below hb
      replace KU : Hid (HasU w6 (w3.heap.size) 27 u) := KU.out.below hb
      replace KX : Hid (Has w6 (w5.heap.size) (.int .i64 n0) (.int .i64 d0)) := KX.out.below hb
      replace B : Hid (Below w.heap.size w w6) := below_trans B.out hb
      clear hb 
      go_wp2_with fail
      refine (c2.out _).mono ?_
      rintro e w7 ⟨rfl, hb⟩
      replace K0 : Hid (Has w7 (w.heap.size) (.int .i64 n0) (.int .i64 d0)) := K0.out.below hb
      replace KU : Hid (HasU w7 (w3.heap.size) 27 u) := KU.out.below hb
      replace KX : Hid (Has w7 (w5.heap.size) (.int .i64 n0) (.int .i64 d0)) := KX.out.below hb
      replace B : Hid (Below w.heap.size w w7) := below_trans B.out hb
      clear hb c2
      replace K0 : Hid (Has (w7.alloc (.cells #[.int .i64 0, .int .i64 0] 25)) (w.heap.size) (.int .i64 n0) (.int .i64 d0)) := K0.out.alloc _
      replace KU : Hid (HasU (w7.alloc (.cells #[.int .i64 0, .int .i64 0] 25)) (w3.heap.size) 27 u) := KU.out.alloc _
      replace KX : Hid (Has (w7.alloc (.cells #[.int .i64 0, .int .i64 0] 25)) (w5.heap.size) (.int .i64 n0) (.int .i64 d0)) := KX.out.alloc _
      replace B : Hid (Below w.heap.size w (w7.alloc (.cells #[.int .i64 0, .int .i64 0] 25))) := B.out.alloc B.out.size _
      have KF : Hid (Has (w7.alloc (.cells #[.int .i64 0, .int .i64 0] 25)) (w7.heap.size) (.int .i64 0) (.int .i64 0)) := has_new w7 _ _ _
      clear KU
      go_wp2_with fail
      refine (g11.out _).mono ?_
      rintro e w8 ⟨rfl, hb⟩
      replace K0 : Hid (Has w8 (w.heap.size) (.int .i64 n0) (.int .i64 d0)) := K0.out.below hb
      replace KX : Hid (Has w8 (w5.heap.size) (.int .i64 n0) (.int .i64 d0)) := KX.out.below hb
      replace KF : Hid (Has w8 (w7.heap.size) (.int .i64 0) (.int .i64 0)) := KF.out.below hb
      replace B : Hid (Below w.heap.size w w8) := below_trans B.out hb
      clear hb g11
      go_wp2_with fail
      refine (g12.out _).mono ?_
      rintro e w9 ⟨rfl, hb⟩
      replace K0 : Hid (Has w9 (w.heap.size) (.int .i64 n0) (.int .i64 d0)) := K0.out.below hb
      replace KX : Hid (Has w9 (w5.heap.size) (.int .i64 n0) (.int .i64 d0)) := KX.out.below hb
      replace KF : Hid (Has w9 (w7.heap.size) (.int .i64 0) (.int .i64 0)) := KF.out.below hb
      replace B : Hid (Below w.heap.size w w9) := below_trans B.out hb
      clear hb 
      go_wp2_with fail
      refine (g21.out _).mono ?_
      rintro e w10 ⟨rfl, hb⟩
      replace K0 : Hid (Has w10 (w.heap.size) (.int .i64 n0) (.int .i64 d0)) := K0.out.below hb
      replace KX : Hid (Has w10 (w5.heap.size) (.int .i64 n0) (.int .i64 d0)) := KX.out.below hb
      replace KF : Hid (Has w10 (w7.heap.size) (.int .i64 0) (.int .i64 0)) := KF.out.below hb
      replace B : Hid (Below w.heap.size w w10) := below_trans B.out hb
      clear hb g21
      go_wp2_with fail
      refine (g12.out _).mono ?_
      rintro e w11 ⟨rfl, hb⟩
      replace K0 : Hid (Has w11 (w.heap.size) (.int .i64 n0) (.int .i64 d0)) := K0.out.below hb
      replace KX : Hid (Has w11 (w5.heap.size) (.int .i64 n0) (.int .i64 d0)) := KX.out.below hb
      replace KF : Hid (Has w11 (w7.heap.size) (.int .i64 0) (.int .i64 0)) := KF.out.below hb
      replace B : Hid (Below w.heap.size w w11) := below_trans B.out hb
      clear hb 
      go_wp2_with fail
      refine (g23.out _).mono ?_
      rintro e w12 ⟨rfl, hb⟩
      replace K0 : Hid (Has w12 (w.heap.size) (.int .i64 n0) (.int .i64 d0)) := K0.out.below hb
      replace KX : Hid (Has w12 (w5.heap.size) (.int .i64 n0) (.int .i64 d0)) := KX.out.below hb
      replace KF : Hid (Has w12 (w7.heap.size) (.int .i64 0) (.int .i64 0)) := KF.out.below hb
      replace B : Hid (Below w.heap.size w w12) := below_trans B.out hb
      clear hb g23
      go_wp2_with fail
      refine (g13.out _).mono ?_
      rintro e w13 ⟨rfl, hb⟩
      replace K0 : Hid (Has w13 (w.heap.size) (.int .i64 n0) (.int .i64 d0)) := K0.out.below hb
      replace KX : Hid (Has w13 (w5.heap.size) (.int .i64 n0) (.int .i64 d0)) := KX.out.below hb
      replace KF : Hid (Has w13 (w7.heap.size) (.int .i64 0) (.int .i64 0)) := KF.out.below hb
      replace B : Hid (Below w.heap.size w w13) := below_trans B.out hb
      clear hb g13
      go_wp2_with fail
      have KXqa := cell_regrown KX.out.1
      have KXqb := cell_regrown KX.out.2.1
      have K0qa := cell_regrown K0.out.1
      have K0qb := cell_regrown K0.out.2.1
      refine wp_region_quiet_below (by kernel_rfl) (by kernel_rfl) ?_
      repeat (go_big_quiet_step (first
        | (go_at_call 15; first | with_reducible exact Calls.regrown_of (of_any n0 d0 _))
        | (go_at_call 12; first | with_reducible exact Calls.regrown_of (g12.out _))))
      refine wpQuiet_nil ?_
      intro _ hw'
      obtain ⟨⟨dq, osq⟩, hw''⟩ := hw'
      subst hw''
      clear KXqa KXqb K0qa K0qb 
      have hb := below_regrown w13 dq osq
      replace K0 : Hid (Has (Sort.grow (redrawn w13 dq) osq) (w.heap.size) (.int .i64 n0) (.int .i64 d0)) := K0.out.below hb
      replace KX : Hid (Has (Sort.grow (redrawn w13 dq) osq) (w5.heap.size) (.int .i64 n0) (.int .i64 d0)) := KX.out.below hb
      replace KF : Hid (Has (Sort.grow (redrawn w13 dq) osq) (w7.heap.size) (.int .i64 0) (.int .i64 0)) := KF.out.below hb
      replace B : Hid (Below w.heap.size w (Sort.grow (redrawn w13 dq) osq)) := below_trans B.out hb
      clear hb
      generalize Sort.grow (redrawn w13 dq) osq = w14 at *
      go_wp2
      go_ret
      exact ⟨rfl, B.out⟩
    · have c2 : Hid (∀ w, Calls Try.prog 14 #[rv n0 d0, .string a1, .string a2] w fun e w' => e = .returned (.tuple #[rv N D, .int .i64 0]) ∧ Below w.heap.size w w') := fun w => conv3 hn0 hd0 k2 w
      clear k1 k2 p q s tr r hn0 hd0
      have K0 : Hid (Has (w.alloc (.cells #[.int .i64 n0, .int .i64 d0] 30)) (w.heap.size) (.int .i64 n0) (.int .i64 d0)) := has_new w _ _ _
      have B : Hid (Below w.heap.size w (w.alloc (.cells #[.int .i64 n0, .int .i64 d0] 30))) := by unfold Hid; go_grown
      go_enter Try.func7, Try.ntmps7
      go_wp2_with fail
      refine (awake3_any _).mono ?_
      rintro e w1 ⟨rfl, hb⟩
      replace K0 : Hid (Has w1 (w.heap.size) (.int .i64 n0) (.int .i64 d0)) := K0.out.below hb
      replace B : Hid (Below w.heap.size w w1) := below_trans B.out hb
      clear hb 
      obtain ⟨K0a, K0b, K0c, K0d, K0e⟩ := K0.out
      go_wp2_with fail
      refine (fr.out _).mono ?_
      rintro e w2 ⟨rfl, hb⟩
      clear K0a K0b K0c K0d K0e
      replace K0 : Hid (Has w2 (w.heap.size) (.int .i64 n0) (.int .i64 d0)) := K0.out.below hb
      replace B : Hid (Below w.heap.size w w2) := below_trans B.out hb
      clear hb fr
      go_wp2_with fail
      refine (ff.out _).mono ?_
      rintro e w3 ⟨rfl, hb⟩
      replace K0 : Hid (Has w3 (w.heap.size) (.int .i64 n0) (.int .i64 d0)) := K0.out.below hb
      replace B : Hid (Below w.heap.size w w3) := below_trans B.out hb
      clear hb ff
      replace K0 : Hid (Has (w3.alloc (.cells #[.string u.nm, .int .i64 u.m, .int .i64 u.l, .int .i64 u.t, .int .i64 u.k, .int .i64 u.fn, .int .i64 u.fd, .int .i64 u.on, .int .i64 u.od, .int .i64 u.code] 27)) (w.heap.size) (.int .i64 n0) (.int .i64 d0)) := K0.out.alloc _
      replace B : Hid (Below w.heap.size w (w3.alloc (.cells #[.string u.nm, .int .i64 u.m, .int .i64 u.l, .int .i64 u.t, .int .i64 u.k, .int .i64 u.fn, .int .i64 u.fd, .int .i64 u.on, .int .i64 u.od, .int .i64 u.code] 27))) := B.out.alloc B.out.size _
      have KU : Hid (HasU (w3.alloc (.cells #[.string u.nm, .int .i64 u.m, .int .i64 u.l, .int .i64 u.t, .int .i64 u.k, .int .i64 u.fn, .int .i64 u.fd, .int .i64 u.on, .int .i64 u.od, .int .i64 u.code] 27)) (w3.heap.size) 27 u) := hasU_new w3 _ u
      obtain ⟨K0a, K0b, K0c, K0d, K0e⟩ := K0.out
      go_wp2_with fail
      refine (of_any n0 d0 _).mono ?_
      rintro e w4 ⟨rfl, hb⟩
      clear K0a K0b K0c K0d K0e
      replace K0 : Hid (Has w4 (w.heap.size) (.int .i64 n0) (.int .i64 d0)) := K0.out.below hb
      replace KU : Hid (HasU w4 (w3.heap.size) 27 u) := KU.out.below hb
      replace B : Hid (Below w.heap.size w w4) := below_trans B.out hb
      clear hb 
      go_wp2_with fail
      refine (c1.out _).mono ?_
      rintro e w5 ⟨rfl, hb⟩
      replace K0 : Hid (Has w5 (w.heap.size) (.int .i64 n0) (.int .i64 d0)) := K0.out.below hb
      replace KU : Hid (HasU w5 (w3.heap.size) 27 u) := KU.out.below hb
      replace B : Hid (Below w.heap.size w w5) := below_trans B.out hb
      clear hb c1
      replace K0 : Hid (Has (w5.alloc (.cells #[.int .i64 n0, .int .i64 d0] 25)) (w.heap.size) (.int .i64 n0) (.int .i64 d0)) := K0.out.alloc _
      replace KU : Hid (HasU (w5.alloc (.cells #[.int .i64 n0, .int .i64 d0] 25)) (w3.heap.size) 27 u) := KU.out.alloc _
      replace B : Hid (Below w.heap.size w (w5.alloc (.cells #[.int .i64 n0, .int .i64 d0] 25))) := B.out.alloc B.out.size _
      have KX : Hid (Has (w5.alloc (.cells #[.int .i64 n0, .int .i64 d0] 25)) (w5.heap.size) (.int .i64 n0) (.int .i64 d0)) := has_new w5 _ _ _
      obtain ⟨K0a, K0b, K0c, K0d, K0e⟩ := K0.out
      go_wp2_with fail
      refine (of_any n0 d0 _).mono ?_
      rintro e w6 ⟨rfl, hb⟩
      clear K0a K0b K0c K0d K0e
      replace K0 : Hid (Has w6 (w.heap.size) (.int .i64 n0) (.int .i64 d0)) := K0.out.below hb
      replace KU : Hid (HasU w6 (w3.heap.size) 27 u) := KU.out.below hb
      replace KX : Hid (Has w6 (w5.heap.size) (.int .i64 n0) (.int .i64 d0)) := KX.out.below hb
      replace B : Hid (Below w.heap.size w w6) := below_trans B.out hb
      clear hb 
      go_wp2_with fail
      refine (c2.out _).mono ?_
      rintro e w7 ⟨rfl, hb⟩
      replace K0 : Hid (Has w7 (w.heap.size) (.int .i64 n0) (.int .i64 d0)) := K0.out.below hb
      replace KU : Hid (HasU w7 (w3.heap.size) 27 u) := KU.out.below hb
      replace KX : Hid (Has w7 (w5.heap.size) (.int .i64 n0) (.int .i64 d0)) := KX.out.below hb
      replace B : Hid (Below w.heap.size w w7) := below_trans B.out hb
      clear hb c2
      replace K0 : Hid (Has (w7.alloc (.cells #[.int .i64 N, .int .i64 D] 25)) (w.heap.size) (.int .i64 n0) (.int .i64 d0)) := K0.out.alloc _
      replace KU : Hid (HasU (w7.alloc (.cells #[.int .i64 N, .int .i64 D] 25)) (w3.heap.size) 27 u) := KU.out.alloc _
      replace KX : Hid (Has (w7.alloc (.cells #[.int .i64 N, .int .i64 D] 25)) (w5.heap.size) (.int .i64 n0) (.int .i64 d0)) := KX.out.alloc _
      replace B : Hid (Below w.heap.size w (w7.alloc (.cells #[.int .i64 N, .int .i64 D] 25))) := B.out.alloc B.out.size _
      have KF : Hid (Has (w7.alloc (.cells #[.int .i64 N, .int .i64 D] 25)) (w7.heap.size) (.int .i64 N) (.int .i64 D)) := has_new w7 _ _ _
      clear KU
      go_wp2_with fail
      refine (g11.out _).mono ?_
      rintro e w8 ⟨rfl, hb⟩
      replace K0 : Hid (Has w8 (w.heap.size) (.int .i64 n0) (.int .i64 d0)) := K0.out.below hb
      replace KX : Hid (Has w8 (w5.heap.size) (.int .i64 n0) (.int .i64 d0)) := KX.out.below hb
      replace KF : Hid (Has w8 (w7.heap.size) (.int .i64 N) (.int .i64 D)) := KF.out.below hb
      replace B : Hid (Below w.heap.size w w8) := below_trans B.out hb
      clear hb g11
      go_wp2_with fail
      refine (g12.out _).mono ?_
      rintro e w9 ⟨rfl, hb⟩
      replace K0 : Hid (Has w9 (w.heap.size) (.int .i64 n0) (.int .i64 d0)) := K0.out.below hb
      replace KX : Hid (Has w9 (w5.heap.size) (.int .i64 n0) (.int .i64 d0)) := KX.out.below hb
      replace KF : Hid (Has w9 (w7.heap.size) (.int .i64 N) (.int .i64 D)) := KF.out.below hb
      replace B : Hid (Below w.heap.size w w9) := below_trans B.out hb
      clear hb 
      go_wp2_with fail
      refine (g21.out _).mono ?_
      rintro e w10 ⟨rfl, hb⟩
      replace K0 : Hid (Has w10 (w.heap.size) (.int .i64 n0) (.int .i64 d0)) := K0.out.below hb
      replace KX : Hid (Has w10 (w5.heap.size) (.int .i64 n0) (.int .i64 d0)) := KX.out.below hb
      replace KF : Hid (Has w10 (w7.heap.size) (.int .i64 N) (.int .i64 D)) := KF.out.below hb
      replace B : Hid (Below w.heap.size w w10) := below_trans B.out hb
      clear hb g21
      go_wp2_with fail
      refine (g12.out _).mono ?_
      rintro e w11 ⟨rfl, hb⟩
      replace K0 : Hid (Has w11 (w.heap.size) (.int .i64 n0) (.int .i64 d0)) := K0.out.below hb
      replace KX : Hid (Has w11 (w5.heap.size) (.int .i64 n0) (.int .i64 d0)) := KX.out.below hb
      replace KF : Hid (Has w11 (w7.heap.size) (.int .i64 N) (.int .i64 D)) := KF.out.below hb
      replace B : Hid (Below w.heap.size w w11) := below_trans B.out hb
      clear hb 
      go_wp2_with fail
      refine (g23.out _).mono ?_
      rintro e w12 ⟨rfl, hb⟩
      replace K0 : Hid (Has w12 (w.heap.size) (.int .i64 n0) (.int .i64 d0)) := K0.out.below hb
      replace KX : Hid (Has w12 (w5.heap.size) (.int .i64 n0) (.int .i64 d0)) := KX.out.below hb
      replace KF : Hid (Has w12 (w7.heap.size) (.int .i64 N) (.int .i64 D)) := KF.out.below hb
      replace B : Hid (Below w.heap.size w w12) := below_trans B.out hb
      clear hb g23
      go_wp2_with fail
      refine (g13.out _).mono ?_
      rintro e w13 ⟨rfl, hb⟩
      replace K0 : Hid (Has w13 (w.heap.size) (.int .i64 n0) (.int .i64 d0)) := K0.out.below hb
      replace KX : Hid (Has w13 (w5.heap.size) (.int .i64 n0) (.int .i64 d0)) := KX.out.below hb
      replace KF : Hid (Has w13 (w7.heap.size) (.int .i64 N) (.int .i64 D)) := KF.out.below hb
      replace B : Hid (Below w.heap.size w w13) := below_trans B.out hb
      clear hb g13
      go_wp2_with fail
      have KXqa := cell_regrown KX.out.1
      have KXqb := cell_regrown KX.out.2.1
      have K0qa := cell_regrown K0.out.1
      have K0qb := cell_regrown K0.out.2.1
      refine wp_region_quiet_below (by kernel_rfl) (by kernel_rfl) ?_
      repeat (go_big_quiet_step (first
        | (go_at_call 15; first | with_reducible exact Calls.regrown_of (of_any n0 d0 _))
        | (go_at_call 12; first | with_reducible exact Calls.regrown_of (g12.out _))))
      refine wpQuiet_nil ?_
      intro _ hw'
      obtain ⟨⟨dq, osq⟩, hw''⟩ := hw'
      subst hw''
      clear KXqa KXqb K0qa K0qb 
      have hb := below_regrown w13 dq osq
      replace K0 : Hid (Has (Sort.grow (redrawn w13 dq) osq) (w.heap.size) (.int .i64 n0) (.int .i64 d0)) := K0.out.below hb
      replace KX : Hid (Has (Sort.grow (redrawn w13 dq) osq) (w5.heap.size) (.int .i64 n0) (.int .i64 d0)) := KX.out.below hb
      replace KF : Hid (Has (Sort.grow (redrawn w13 dq) osq) (w7.heap.size) (.int .i64 N) (.int .i64 D)) := KF.out.below hb
      replace B : Hid (Below w.heap.size w (Sort.grow (redrawn w13 dq) osq)) := below_trans B.out hb
      clear hb
      generalize Sort.grow (redrawn w13 dq) osq = w14 at *
      go_wp2
      go_ret
      exact ⟨rfl, B.out⟩

set_option maxRecDepth 100000 in
theorem lifted (os : Os) (started : os.Started) (H : Type) (enc : TypeId × Value → H) :
    ReturnsInHanded {} Try.checked os 7 .any (Rows.unitLikesSpec.pre6 enc Try.prog Try.f7 Rows.unitLikesRow.domain false) (Rows.unitLikesSpec.post enc Try.prog Try.f7 false true false false) := by
  refine returnsInHanded_of_change (C := Try.checked) own started (by kernel_rfl) Try.func7
    (ChangeSpec.witness6 (enc := enc) (C := Try.checked) false ⟨#[], #[.agg #[.int .i64 0, .int .i64 0], .string ByteArray.empty, .string ByteArray.empty, .string ByteArray.empty], []⟩ 8 (by kernel_rfl) (by kernel_rfl) (by kernel_rfl) (by kernel_rfl)) ?_
  intro W base args ds gs before hval0 hW hcnd _
  have hval : ∀ (j : Nat) t v, Try.f7.params[j]? = some t → args[j]? = some v → Value.okWide Try.prog W .any base t v := hval0
  have hW' := hW
  obtain ⟨p, q, hA0, hV, rfl, hfz, hnd⟩ := hW
  have hA : DataW.TrodAll enc Try.prog W 0 (fun _ => true) true Try.f7.params.toList args.toList ds p := hA0
  rw [Try.params7] at hA hval
  obtain ⟨v0, vs0, dd0, ds0, p0, q0, hargs, rfl, rfl, hh0, r0⟩ := trodAll_cons hA
  obtain ⟨v1, vs1, dd1, ds1, p1, q1, rfl, rfl, rfl, hh1, r1⟩ := trodAll_cons r0
  obtain ⟨v2, vs2, dd2, ds2, p2, q2, rfl, rfl, rfl, hh2, r2⟩ := trodAll_cons r1
  obtain ⟨v3, vs3, dd3, ds3, p3, q3, rfl, rfl, rfl, hh3, r3⟩ := trodAll_cons r2
  obtain ⟨rfl, rfl, rfl⟩ := trodAll_nil r3
  obtain rfl : args = #[v0, v1, v2, v3] := by cases args; simp_all
  obtain ⟨rfl, rfl⟩ := trodVars_none hV
  obtain ⟨c0, e0, y0, z0, m0, rfl, rfl, rfl, hy0, hz0⟩ := open_agg2 Try.underlying30 (by kernel_rfl) cells30 (hval 0 30 v0 rfl rfl) hh0
  obtain ⟨n0, k0, rfl, w0⟩ := DataW.trod_int Try.underlying2 hy0
  obtain ⟨d0, l0, rfl, x0⟩ := DataW.trod_int Try.underlying2 hz0
  simp at k0 l0
  subst k0 l0
  obtain ⟨a1, rfl, rfl, rfl, w1⟩ := open_string Try.underlying9 (hval 1 9 v1 rfl rfl) hh1
  obtain ⟨a2, rfl, rfl, rfl, w2⟩ := open_string Try.underlying9 (hval 2 9 v2 rfl rfl) hh2
  obtain ⟨a3, rfl, rfl, rfl, w3⟩ := open_string Try.underlying9 (hval 3 9 v3 rfl rfl) hh3
  clear hA0 hval0
  have sr0 : ∀ (W' : World) (sp : Nat → Bool), DataW.Trod enc Try.prog W' 0 sp true 30 (.agg #[.int .i64 n0, .int .i64 d0]) (.agg [.lit (.int .i64 n0), .lit (.int .i64 d0)]) [] := fun W' sp =>
    shut_agg2 (y0 := (.lit (.int .i64 n0), [])) (y1 := (.lit (.int .i64 d0), [])) Try.underlying30 (by kernel_rfl) cells30 ⟨1, by simp [DataW.trod, Try.underlying2, w0]⟩ ⟨1, by simp [DataW.trod, Try.underlying2, x0]⟩
  refine (walk n0 d0 (bounds_i64 w0) (bounds_i64 x0) a1 w1 a2 w2 a3 w3 W).mono fun e W' ⟨he, bel⟩ => ?_
  subst he
  exact ⟨_, rfl, _, _, _, [], _, [], hW', trodAll_mk1 (shut_bool Try.underlying4 _), (trodAll_cons_mk (sr0 _ _) (trodAll_cons_mk (shut_string Try.underlying9 w1) (trodAll_cons_mk (shut_string Try.underlying9 w2) (trodAll_cons_mk (shut_string Try.underlying9 w3) trodAll_mk0)))), rfl, bel.frame _, fun h => by cases h⟩

theorem over : Rows.unitLikesRow.holds Try.pinned (OpenSpec.ofChange Rows.unitLikesSpec) :=
  OpenClaim.holds_of_wide 7 Try.f7 rfl rfl rfl rfl rfl rfl rfl ⟨rfl, rfl, rfl, rfl, rfl⟩ rfl rfl rfl rfl rfl (by kernel_rfl) Try.func7 (by kernel_rfl)
    (of_decide_eq_true (by kernel_rfl)) (by unfold Func.isWrapper; first | (rw [if_pos (by decide +kernel)]; kernel_rfl) | (rw [if_neg (by decide +kernel)]; exact ⟨rfl, rfl⟩))
    (fun os started H enc _ => lifted os started H enc)

/-- THE STATEMENT -/
theorem proved : Rows.UnitLikesSaid :=
  over
#print axioms proved
end Go.Proofs.Ytbojdlagacanoaa.unitLikes
