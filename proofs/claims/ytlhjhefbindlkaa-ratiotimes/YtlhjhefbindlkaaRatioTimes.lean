/-
  What is proved: for any three fractions of numbers of 64 bits the statement RatioTimes (products are turned about, by 1 are the fraction, and are spread over sums, as long as all lies within) returns true. Conditions: none.
-/
import Derived.Test.YtlhjhefbindlkaaRows
import Derived.Test.YtlhjhefbindlkaaLawKit
import Derived.Test.YtlhjhefbindlkaaRatD
import Derived.Deep.CutRange
import Derived.WalkKit
import Derived.ProofKit
import Derived.OpenShut
import Derived.ShutString
import Derived.ChangeOld
import Derived.Below
import Derived.Lib.SmallJoins
namespace Go.Proofs.Ytlhjhefbindlkaa.ratioTimes
open Go.ChangeShapes Go.WideShapes Go.ChangeAt Go.RowKit Go.Joins
open Go.ChangeMaps (open_string shut_string)
set_option linter.unusedVariables false

theorem own : ownKnob Try.prog.godebug = none := by kernel_rfl
theorem cells28 : Try.prog.cellsOf 28 = 2 := by kernel_rfl

/-- products are turned about -/
theorem mul_comm_all (an ad bn bd : Int) : mulN bn bd an ad = mulN an ad bn bd ∧ mulD bn bd an ad = mulD an ad bn bd ∧ mulE bn bd an ad = mulE an ad bn bd := by
  have r : mulR bn bd an ad = mulR an ad bn bd := by unfold mulR; exact Bool.and_comm _ _
  have x : mulX bn bd an ad = mulX an ad bn bd := by unfold mulX; exact Int.mul_comm _ _
  have y : mulY bn bd an ad = mulY an ad bn bd := by unfold mulY; exact Int.mul_comm _ _
  have o : mulOk bn bd an ad = mulOk an ad bn bd := by unfold mulOk; rw [r, x, y]
  unfold mulN mulD mulE
  rw [r, x, y, o]
  exact ⟨rfl, rfl, rfl⟩
/-- by 1 -/
theorem mul_by_one {n d : Int} (hn : I64 n) (hd : I64 d) (h : rightB n d = true) : mulN n d 1 1 = n ∧ mulD n d 1 1 = d ∧ mulE n d 1 1 = 0 := by
  have r1 : rightB 1 1 = true := by decide +kernel
  have g1 : gcdN n 1 = 1 := by unfold gcdN; simp
  have g2 : gcdN 1 d = 1 := by unfold gcdN; simp
  have x : mulX n d 1 1 = n := by unfold mulX; rw [g1, g2]; simp
  have y : mulY n d 1 1 = d := by unfold mulY; rw [g1, g2]; simp
  have r : mulR n d 1 1 = true := by unfold mulR; rw [h, r1]; rfl
  have o : mulOk n d 1 1 = true := by unfold mulOk; rw [r, x, y, (fitB_iff _).2 hn, (fitB_iff _).2 hd]; rfl
  unfold mulN mulD mulE
  rw [r, o, x, y]
  exact ⟨rfl, rfl, rfl⟩

/-- what is multiplied behind adding is what is added behind multiplying -/
theorem spread {n0 d0 n1 d1 n2 d2 : Int} (r0 : rightB n0 d0 = true) (r1 : rightB n1 d1 = true) (r2 : rightB n2 d2 = true)
    {sN sD xN xD uN uD vN vD yN yD : Int} (hs : addE n0 d0 n1 d1 = 0) (es : addN n0 d0 n1 d1 = sN ∧ addD n0 d0 n1 d1 = sD) (hx : mulE sN sD n2 d2 = 0) (ex : mulN sN sD n2 d2 = xN ∧ mulD sN sD n2 d2 = xD)
    (hu : mulE n0 d0 n2 d2 = 0) (eu : mulN n0 d0 n2 d2 = uN ∧ mulD n0 d0 n2 d2 = uD) (hv : mulE n1 d1 n2 d2 = 0) (ev : mulN n1 d1 n2 d2 = vN ∧ mulD n1 d1 n2 d2 = vD)
    (hy : addE uN uD vN vD = 0) (ey : addN uN uD vN vD = yN ∧ addD uN uD vN vD = yD) : xN = yN ∧ xD = yD := by
  have p0 := ((right_iff _ _).1 r0).1
  have p1 := ((right_iff _ _).1 r1).1
  have p2 := ((right_iff _ _).1 r2).1
  rcases addE_cases n0 d0 n1 d1 with ⟨h, _⟩ | ⟨h, _⟩ | ⟨_, _, a1, a2⟩
  · omega
  · omega
  rcases mulE_ways sN sD n2 d2 with ⟨h, _⟩ | ⟨h, _⟩ | ⟨_, _, b1, b2⟩
  · omega
  · omega
  rcases mulE_ways n0 d0 n2 d2 with ⟨h, _⟩ | ⟨h, _⟩ | ⟨_, _, c1, c2⟩
  · omega
  · omega
  rcases mulE_ways n1 d1 n2 d2 with ⟨h, _⟩ | ⟨h, _⟩ | ⟨_, _, e1, e2⟩
  · omega
  · omega
  rcases addE_cases uN uD vN vD with ⟨h, _⟩ | ⟨h, _⟩ | ⟨_, _, f1, f2⟩
  · omega
  · omega
  rw [es.1, es.2] at a1 a2
  rw [ex.1, ex.2] at b1 b2
  rw [eu.1, eu.2] at c1 c2
  rw [ev.1, ev.2] at e1 e2
  rw [ey.1, ey.2] at f1 f2
  have q1 := ((right_iff _ _).1 a1).1
  have q2 := ((right_iff _ _).1 b1).1
  have q3 := ((right_iff _ _).1 c1).1
  have q4 := ((right_iff _ _).1 e1).1
  have q5 := ((right_iff _ _).1 f1).1
  refine right_one b1 f1 ?_
  have pos : 0 < sD * d2 * (d0 * d1) * (uD * vD) * d2 := Int.mul_pos (Int.mul_pos (Int.mul_pos (Int.mul_pos q1 p2) (Int.mul_pos p0 p1)) (Int.mul_pos q3 q4)) p2
  refine Int.eq_of_mul_eq_mul_right (a := sD * d2 * (d0 * d1) * (uD * vD) * d2) (by omega) ?_
  grind


set_option maxHeartbeats 2000000 in
theorem walk (n0 d0 : Int) (hn0 : I64 n0) (hd0 : I64 d0) (n1 d1 : Int) (hn1 : I64 n1) (hd1 : I64 d1) (n2 d2 : Int) (hn2 : I64 n2) (hd2 : I64 d2) (w : World) :
    Calls Try.prog 7 #[rv n0 d0, rv n1 d1, rv n2 d2] w fun e w' => e = .returned (.bool true) ∧ Below w.heap.size w w' := by
  have f0 : Hid (∀ w, Calls Try.prog 14 #[rv n0 d0] w fun e w' => e = .returned (.bool (rightB n0 d0)) ∧ Below w.heap.size w w') := fun w => rright_any n0 d0 w hn0 hd0
  have f1 : Hid (∀ w, Calls Try.prog 14 #[rv n1 d1] w fun e w' => e = .returned (.bool (rightB n1 d1)) ∧ Below w.heap.size w w') := fun w => rright_any n1 d1 w hn1 hd1
  have f2 : Hid (∀ w, Calls Try.prog 14 #[rv n2 d2] w fun e w' => e = .returned (.bool (rightB n2 d2)) ∧ Below w.heap.size w w') := fun w => rright_any n2 d2 w hn2 hd2
  have N3 : Hid (∀ w : World, Three w n0 d0 n1 d1 n2 d2 (((w.alloc (.cells #[.int .i64 n0, .int .i64 d0] 28)).alloc (.cells #[.int .i64 n1, .int .i64 d1] 28)).alloc (.cells #[.int .i64 n2, .int .i64 d2] 28))) := fun w => three_new w _ _ _ _ _ _ _ _ _
  cases r0 : rightB n0 d0
  · rw [r0] at f0
    clear f1 f2 r0 hn0 hd0 hn1 hd1 hn2 hd2
    go_enter Try.func7, Try.ntmps7
    go_wp2_with fail
    refine (awake2_any _).mono ?_
    rintro e w1 ⟨rfl, hb⟩
    have K : Hid (Three w n0 d0 n1 d1 n2 d2 w1) := Three.below (N3.out _) hb
    clear hb N3
    obtain ⟨⟨c0a, c0b, c0c, c0d, c0e⟩, -, -, -⟩ := K.out
    go_wp2_with fail
    refine (f0.out _).mono ?_
    rintro e w2 ⟨rfl, hb⟩
    replace K : Hid (Three w n0 d0 n1 d1 n2 d2 w2) := Three.below K.out hb
    clear hb f0 c0a c0b c0c c0d c0e
    go_wp2_with fail
    refine (awake2_any _).mono ?_
    rintro e w3 ⟨rfl, hb⟩
    replace K : Hid (Three w n0 d0 n1 d1 n2 d2 w3) := Three.below K.out hb
    clear hb  
    go_wp2
    go_ret
    exact ⟨rfl, K.out.2.2.2⟩
  cases r1 : rightB n1 d1
  · rw [r0] at f0
    rw [r1] at f1
    clear f2 r0 r1 hn0 hd0 hn1 hd1 hn2 hd2
    go_enter Try.func7, Try.ntmps7
    go_wp2_with fail
    refine (awake2_any _).mono ?_
    rintro e w1 ⟨rfl, hb⟩
    have K : Hid (Three w n0 d0 n1 d1 n2 d2 w1) := Three.below (N3.out _) hb
    clear hb N3
    obtain ⟨⟨c0a, c0b, c0c, c0d, c0e⟩, -, -, -⟩ := K.out
    go_wp2_with fail
    refine (f0.out _).mono ?_
    rintro e w2 ⟨rfl, hb⟩
    replace K : Hid (Three w n0 d0 n1 d1 n2 d2 w2) := Three.below K.out hb
    clear hb f0 c0a c0b c0c c0d c0e
    obtain ⟨-, ⟨c1a, c1b, c1c, c1d, c1e⟩, -, -⟩ := K.out
    go_wp2_with fail
    refine (f1.out _).mono ?_
    rintro e w3 ⟨rfl, hb⟩
    replace K : Hid (Three w n0 d0 n1 d1 n2 d2 w3) := Three.below K.out hb
    clear hb f1 c1a c1b c1c c1d c1e
    go_wp2_with fail
    refine (awake2_any _).mono ?_
    rintro e w4 ⟨rfl, hb⟩
    replace K : Hid (Three w n0 d0 n1 d1 n2 d2 w4) := Three.below K.out hb
    clear hb  
    go_wp2
    go_ret
    exact ⟨rfl, K.out.2.2.2⟩
  cases r2 : rightB n2 d2
  · rw [r0] at f0
    rw [r1] at f1
    rw [r2] at f2
    clear r0 r1 r2 hn0 hd0 hn1 hd1 hn2 hd2
    go_enter Try.func7, Try.ntmps7
    go_wp2_with fail
    refine (awake2_any _).mono ?_
    rintro e w1 ⟨rfl, hb⟩
    have K : Hid (Three w n0 d0 n1 d1 n2 d2 w1) := Three.below (N3.out _) hb
    clear hb N3
    obtain ⟨⟨c0a, c0b, c0c, c0d, c0e⟩, -, -, -⟩ := K.out
    go_wp2_with fail
    refine (f0.out _).mono ?_
    rintro e w2 ⟨rfl, hb⟩
    replace K : Hid (Three w n0 d0 n1 d1 n2 d2 w2) := Three.below K.out hb
    clear hb f0 c0a c0b c0c c0d c0e
    obtain ⟨-, ⟨c1a, c1b, c1c, c1d, c1e⟩, -, -⟩ := K.out
    go_wp2_with fail
    refine (f1.out _).mono ?_
    rintro e w3 ⟨rfl, hb⟩
    replace K : Hid (Three w n0 d0 n1 d1 n2 d2 w3) := Three.below K.out hb
    clear hb f1 c1a c1b c1c c1d c1e
    obtain ⟨-, -, ⟨c2a, c2b, c2c, c2d, c2e⟩, -⟩ := K.out
    go_wp2_with fail
    refine (f2.out _).mono ?_
    rintro e w4 ⟨rfl, hb⟩
    replace K : Hid (Three w n0 d0 n1 d1 n2 d2 w4) := Three.below K.out hb
    clear hb f2 c2a c2b c2c c2d c2e
    go_wp2_with fail
    refine (awake2_any _).mono ?_
    rintro e w5 ⟨rfl, hb⟩
    replace K : Hid (Three w n0 d0 n1 d1 n2 d2 w5) := Three.below K.out hb
    clear hb  
    go_wp2
    go_ret
    exact ⟨rfl, K.out.2.2.2⟩
  rw [r0] at f0
  rw [r1] at f1
  rw [r2] at f2
  have g1 : Hid (∀ w, Calls Try.prog 18 #[rv n0 d0, rv n1 d1] w fun e w' => e = .returned (.tuple #[rv (mulN n0 d0 n1 d1) (mulD n0 d0 n1 d1), .int .i64 (mulE n0 d0 n1 d1)]) ∧ Below w.heap.size w w') := fun w => fmul_any _ _ _ _ w hn0 hd0 hn1 hd1
  have g2 : Hid (∀ w, Calls Try.prog 18 #[rv n1 d1, rv n0 d0] w fun e w' => e = .returned (.tuple #[rv (mulN n0 d0 n1 d1) (mulD n0 d0 n1 d1), .int .i64 (mulE n0 d0 n1 d1)]) ∧ Below w.heap.size w w') := fun w => by
    have := fmul_any n1 d1 n0 d0 w hn1 hd1 hn0 hd0
    rwa [(mul_comm_all n0 d0 n1 d1).1, (mul_comm_all n0 d0 n1 d1).2.1, (mul_comm_all n0 d0 n1 d1).2.2] at this
  have g3 : Hid (∀ w, Calls Try.prog 18 #[rv n0 d0, rv 1 1] w fun e w' => e = .returned (.tuple #[rv n0 d0, .int .i64 0]) ∧ Below w.heap.size w w') := fun w => by
    have := fmul_any n0 d0 1 1 w hn0 hd0 ⟨by decide, by decide⟩ ⟨by decide, by decide⟩
    have o := mul_by_one hn0 hd0 r0
    rwa [o.1, o.2.1, o.2.2] at this
  have SP := @spread n0 d0 n1 d1 n2 d2 r0 r1 r2
  have g4 : Hid (∀ w, Calls Try.prog 16 #[rv n0 d0, rv n1 d1] w fun e w' => e = .returned (.tuple #[rv (addN n0 d0 n1 d1) (addD n0 d0 n1 d1), .int .i64 (addE n0 d0 n1 d1)]) ∧ Below w.heap.size w w') := fun w => fadd_any _ _ _ _ w hn0 hd0 hn1 hd1
  have bs := add_bd n0 d0 n1 d1
  have g5 : Hid (∀ w, Calls Try.prog 18 #[rv (addN n0 d0 n1 d1) (addD n0 d0 n1 d1), rv n2 d2] w fun e w' => e = .returned (.tuple #[rv (mulN (addN n0 d0 n1 d1) (addD n0 d0 n1 d1) n2 d2) (mulD (addN n0 d0 n1 d1) (addD n0 d0 n1 d1) n2 d2), .int .i64 (mulE (addN n0 d0 n1 d1) (addD n0 d0 n1 d1) n2 d2)]) ∧ Below w.heap.size w w') := fun w => fmul_any _ _ _ _ w bs.1 bs.2 hn2 hd2
  have g6 : Hid (∀ w, Calls Try.prog 18 #[rv n0 d0, rv n2 d2] w fun e w' => e = .returned (.tuple #[rv (mulN n0 d0 n2 d2) (mulD n0 d0 n2 d2), .int .i64 (mulE n0 d0 n2 d2)]) ∧ Below w.heap.size w w') := fun w => fmul_any _ _ _ _ w hn0 hd0 hn2 hd2
  have g7 : Hid (∀ w, Calls Try.prog 18 #[rv n1 d1, rv n2 d2] w fun e w' => e = .returned (.tuple #[rv (mulN n1 d1 n2 d2) (mulD n1 d1 n2 d2), .int .i64 (mulE n1 d1 n2 d2)]) ∧ Below w.heap.size w w') := fun w => fmul_any _ _ _ _ w hn1 hd1 hn2 hd2
  have bu := mul_bd n0 d0 n2 d2
  have bv := mul_bd n1 d1 n2 d2
  have g8 : Hid (∀ w, Calls Try.prog 16 #[rv (mulN n0 d0 n2 d2) (mulD n0 d0 n2 d2), rv (mulN n1 d1 n2 d2) (mulD n1 d1 n2 d2)] w fun e w' => e = .returned (.tuple #[rv (addN (mulN n0 d0 n2 d2) (mulD n0 d0 n2 d2) (mulN n1 d1 n2 d2) (mulD n1 d1 n2 d2)) (addD (mulN n0 d0 n2 d2) (mulD n0 d0 n2 d2) (mulN n1 d1 n2 d2) (mulD n1 d1 n2 d2)), .int .i64 (addE (mulN n0 d0 n2 d2) (mulD n0 d0 n2 d2) (mulN n1 d1 n2 d2) (mulD n1 d1 n2 d2))]) ∧ Below w.heap.size w w') := fun w => fadd_any _ _ _ _ w bu.1 bu.2 bv.1 bv.2
  have FIN : addE n0 d0 n1 d1 = 0 → mulE (addN n0 d0 n1 d1) (addD n0 d0 n1 d1) n2 d2 = 0 → mulE n0 d0 n2 d2 = 0 → mulE n1 d1 n2 d2 = 0 → addE (mulN n0 d0 n2 d2) (mulD n0 d0 n2 d2) (mulN n1 d1 n2 d2) (mulD n1 d1 n2 d2) = 0 →
      mulN (addN n0 d0 n1 d1) (addD n0 d0 n1 d1) n2 d2 = addN (mulN n0 d0 n2 d2) (mulD n0 d0 n2 d2) (mulN n1 d1 n2 d2) (mulD n1 d1 n2 d2) ∧ mulD (addN n0 d0 n1 d1) (addD n0 d0 n1 d1) n2 d2 = addD (mulN n0 d0 n2 d2) (mulD n0 d0 n2 d2) (mulN n1 d1 n2 d2) (mulD n1 d1 n2 d2) :=
    fun a b c d e => SP a ⟨rfl, rfl⟩ b ⟨rfl, rfl⟩ c ⟨rfl, rfl⟩ d ⟨rfl, rfl⟩ e ⟨rfl, rfl⟩
  clear SP bs bu bv
  generalize addN (mulN n0 d0 n2 d2) (mulD n0 d0 n2 d2) (mulN n1 d1 n2 d2) (mulD n1 d1 n2 d2) = yN at *
  generalize addD (mulN n0 d0 n2 d2) (mulD n0 d0 n2 d2) (mulN n1 d1 n2 d2) (mulD n1 d1 n2 d2) = yD at *
  generalize addE (mulN n0 d0 n2 d2) (mulD n0 d0 n2 d2) (mulN n1 d1 n2 d2) (mulD n1 d1 n2 d2) = yE at *
  generalize mulN (addN n0 d0 n1 d1) (addD n0 d0 n1 d1) n2 d2 = xN at *
  generalize mulD (addN n0 d0 n1 d1) (addD n0 d0 n1 d1) n2 d2 = xD at *
  generalize mulE (addN n0 d0 n1 d1) (addD n0 d0 n1 d1) n2 d2 = xE at *
  generalize mulN n0 d0 n2 d2 = uN at *
  generalize mulD n0 d0 n2 d2 = uD at *
  generalize mulE n0 d0 n2 d2 = uE at *
  generalize mulN n1 d1 n2 d2 = vN at *
  generalize mulD n1 d1 n2 d2 = vD at *
  generalize mulE n1 d1 n2 d2 = vE at *
  generalize addN n0 d0 n1 d1 = sN at *
  generalize addD n0 d0 n1 d1 = sD at *
  generalize addE n0 d0 n1 d1 = sE at *
  generalize mulN n0 d0 n1 d1 = pN at *
  generalize mulD n0 d0 n1 d1 = pD at *
  generalize mulE n0 d0 n1 d1 = pE at *
  have WAYS : Hid ((¬ sE = 0 ∧ (sE == 0) = false) ∨ (sE = 0 ∧ ¬ xE = 0 ∧ (xE == 0) = false) ∨ (sE = 0 ∧ xE = 0 ∧ ¬ uE = 0 ∧ (uE == 0) = false) ∨ (sE = 0 ∧ xE = 0 ∧ uE = 0 ∧ ¬ vE = 0 ∧ (vE == 0) = false) ∨ (sE = 0 ∧ xE = 0 ∧ uE = 0 ∧ vE = 0 ∧ ¬ yE = 0 ∧ (yE == 0) = false) ∨ (sE = 0 ∧ xE = 0 ∧ uE = 0 ∧ vE = 0 ∧ yE = 0 ∧ xN = yN ∧ xD = yD)) := by
    show _ ∨ _
    by_cases q1 : sE = 0 <;> by_cases q2 : xE = 0 <;> by_cases q3 : uE = 0 <;> by_cases q4 : vE = 0 <;> by_cases q5 : yE = 0 <;> simp [q1, q2, q3, q4, q5]
    exact FIN q1 q2 q3 q4 q5
  clear FIN r0 r1 r2 hn0 hd0 hn1 hd1 hn2 hd2
  go_enter Try.func7, Try.ntmps7
  go_wp2_with fail
  refine (awake2_any _).mono ?_
  rintro e w1 ⟨rfl, hb⟩
  have K : Hid (Three w n0 d0 n1 d1 n2 d2 w1) := Three.below (N3.out _) hb
  clear hb N3
  obtain ⟨⟨c0a, c0b, c0c, c0d, c0e⟩, -, -, -⟩ := K.out
  go_wp2_with fail
  refine (f0.out _).mono ?_
  rintro e w2 ⟨rfl, hb⟩
  replace K : Hid (Three w n0 d0 n1 d1 n2 d2 w2) := Three.below K.out hb
  clear hb f0 c0a c0b c0c c0d c0e
  obtain ⟨-, ⟨c1a, c1b, c1c, c1d, c1e⟩, -, -⟩ := K.out
  go_wp2_with fail
  refine (f1.out _).mono ?_
  rintro e w3 ⟨rfl, hb⟩
  replace K : Hid (Three w n0 d0 n1 d1 n2 d2 w3) := Three.below K.out hb
  clear hb f1 c1a c1b c1c c1d c1e
  obtain ⟨-, -, ⟨c2a, c2b, c2c, c2d, c2e⟩, -⟩ := K.out
  go_wp2_with fail
  refine (f2.out _).mono ?_
  rintro e w4 ⟨rfl, hb⟩
  replace K : Hid (Three w n0 d0 n1 d1 n2 d2 w4) := Three.below K.out hb
  clear hb f2 c2a c2b c2c c2d c2e
  go_upto_region 3 with fail
  go_cut [7, 8] from 41 to 48 (fun sp se wx => ∃ b : Nat, sp = .pointer (some ⟨b, 0, none⟩) ∧ se = .int .i64 pE ∧ Has wx b (.int .i64 pN) (.int .i64 pD) ∧ Below w4.heap.size w4 wx)
  case first =>
    go_region_held3 (fun x => (x.cell? ⟨w.heap.size, 0, none⟩ = some (.int .i64 n0) ∧ x.cell? ⟨w.heap.size, 1, none⟩ = some (.int .i64 d0) ∧ x.frozen? ⟨w.heap.size, 0, none⟩ = false ∧ x.frozen? ⟨w.heap.size, 1, none⟩ = false ∧ w.heap.size < x.heap.size) ∧
        (x.cell? ⟨w.heap.size + 1, 0, none⟩ = some (.int .i64 n1) ∧ x.cell? ⟨w.heap.size + 1, 1, none⟩ = some (.int .i64 d1) ∧ x.frozen? ⟨w.heap.size + 1, 0, none⟩ = false ∧ x.frozen? ⟨w.heap.size + 1, 1, none⟩ = false ∧ w.heap.size + 1 < x.heap.size) ∧
        (x.cell? ⟨w.heap.size + 1 + 1, 0, none⟩ = some (.int .i64 n2) ∧ x.cell? ⟨w.heap.size + 1 + 1, 1, none⟩ = some (.int .i64 d2) ∧ x.frozen? ⟨w.heap.size + 1 + 1, 0, none⟩ = false ∧ x.frozen? ⟨w.heap.size + 1 + 1, 1, none⟩ = false ∧ w.heap.size + 1 + 1 < x.heap.size) ∧ Below w.heap.size w x)
      ((show Three w n0 d0 n1 d1 n2 d2 _; refine Three.below K.out ?_; (repeat (first | with_reducible exact BB.out | with_reducible exact Below.refl _ _ | with_reducible refine Below.drew ?_ | with_reducible refine Below.alloc ?_ ?_ _ | with_reducible refine Below.setCell ?_ ?_ _ | omega | (simp <;> omega)))))
      (first
        | (go_at_call 17; first | with_reducible refine (of_any n0 d0 _).mono ?_ | with_reducible refine (of_any n1 d1 _).mono ?_ | with_reducible refine (of_any n2 d2 _).mono ?_
           rintro e x ⟨rfl, hb⟩
           have BB : Hid (Below w4.heap.size w4 x) := by
             refine below_trans (a := w4) ?_ hb
             (repeat (first | with_reducible exact BB.out | with_reducible exact Below.refl _ _ | with_reducible refine Below.drew ?_ | with_reducible refine Below.alloc ?_ ?_ _ | with_reducible refine Below.setCell ?_ ?_ _ | omega | (simp <;> omega)))
           have LL : w4.heap.size ≤ x.heap.size := BB.out.size
           first
             | (with_reducible have NN := Has.below (has_newd _ _ _ _) hb)
             | (with_reducible have NN := Has.below (has_new _ _ _ _) hb)
             | (with_reducible have NN := Has.below NN hb)
             | skip
           try (have NX := NN; obtain ⟨m0, m1, m2, m3, m4⟩ := NX)
           clear hb)
        | (go_at_call 18; first | with_reducible refine (g1.out _).mono ?_
           rintro e x ⟨rfl, hb⟩
           have BB : Hid (Below w4.heap.size w4 x) := by
             refine below_trans (a := w4) ?_ hb
             (repeat (first | with_reducible exact BB.out | with_reducible exact Below.refl _ _ | with_reducible refine Below.drew ?_ | with_reducible refine Below.alloc ?_ ?_ _ | with_reducible refine Below.setCell ?_ ?_ _ | omega | (simp <;> omega)))
           have LL : w4.heap.size ≤ x.heap.size := BB.out.size
           first
             | (with_reducible have NN := Has.below (has_newd _ _ _ _) hb)
             | (with_reducible have NN := Has.below (has_new _ _ _ _) hb)
             | (with_reducible have NN := Has.below NN hb)
             | skip
           try (have NX := NN; obtain ⟨m0, m1, m2, m3, m4⟩ := NX)
           clear hb))
    all_goals
      go_wp2_with fail
      go_meet
      refine ⟨_, rfl, rfl, ?_, ?_⟩
      · first
          | ((with_reducible refine has_lit _ _ _ ?_); first | rfl | simp)
          | (with_reducible refine Has.setOwn (a := .int .i64 0) (b := .int .i64 0) ?_; exact NN)
      · (repeat (first | with_reducible exact BB.out | with_reducible exact Below.refl _ _ | with_reducible refine Below.drew ?_ | with_reducible refine Below.alloc ?_ ?_ _ | with_reducible refine Below.setCell ?_ ?_ _ | omega | (simp <;> omega)))
  obtain ⟨bp, rfl, rfl, hH, hB⟩ := hcut
  have Hbp : Hid (Has wc bp (.int .i64 pN) (.int .i64 pD)) := hH
  replace K : Hid (Three w n0 d0 n1 d1 n2 d2 wc) := Three.below K.out hB
  clear hH hB g1
  go_upto_region 4 with fail
  go_cut [9, 10] from 49 to 56 (fun sp se wx => ∃ b : Nat, sp = .pointer (some ⟨b, 0, none⟩) ∧ se = .int .i64 pE ∧ Has wx b (.int .i64 pN) (.int .i64 pD) ∧ Below wc.heap.size wc wx)
  case first =>
    go_region_held3 (fun x => (x.cell? ⟨w.heap.size, 0, none⟩ = some (.int .i64 n0) ∧ x.cell? ⟨w.heap.size, 1, none⟩ = some (.int .i64 d0) ∧ x.frozen? ⟨w.heap.size, 0, none⟩ = false ∧ x.frozen? ⟨w.heap.size, 1, none⟩ = false ∧ w.heap.size < x.heap.size) ∧
        (x.cell? ⟨w.heap.size + 1, 0, none⟩ = some (.int .i64 n1) ∧ x.cell? ⟨w.heap.size + 1, 1, none⟩ = some (.int .i64 d1) ∧ x.frozen? ⟨w.heap.size + 1, 0, none⟩ = false ∧ x.frozen? ⟨w.heap.size + 1, 1, none⟩ = false ∧ w.heap.size + 1 < x.heap.size) ∧
        (x.cell? ⟨w.heap.size + 1 + 1, 0, none⟩ = some (.int .i64 n2) ∧ x.cell? ⟨w.heap.size + 1 + 1, 1, none⟩ = some (.int .i64 d2) ∧ x.frozen? ⟨w.heap.size + 1 + 1, 0, none⟩ = false ∧ x.frozen? ⟨w.heap.size + 1 + 1, 1, none⟩ = false ∧ w.heap.size + 1 + 1 < x.heap.size) ∧ Below w.heap.size w x)
      ((show Three w n0 d0 n1 d1 n2 d2 _; refine Three.below K.out ?_; (repeat (first | with_reducible exact BB.out | with_reducible exact Below.refl _ _ | with_reducible refine Below.drew ?_ | with_reducible refine Below.alloc ?_ ?_ _ | with_reducible refine Below.setCell ?_ ?_ _ | omega | (simp <;> omega)))))
      (first
        | (go_at_call 17; first | with_reducible refine (of_any n0 d0 _).mono ?_ | with_reducible refine (of_any n1 d1 _).mono ?_ | with_reducible refine (of_any n2 d2 _).mono ?_
           rintro e x ⟨rfl, hb⟩
           have BB : Hid (Below wc.heap.size wc x) := by
             refine below_trans (a := wc) ?_ hb
             (repeat (first | with_reducible exact BB.out | with_reducible exact Below.refl _ _ | with_reducible refine Below.drew ?_ | with_reducible refine Below.alloc ?_ ?_ _ | with_reducible refine Below.setCell ?_ ?_ _ | omega | (simp <;> omega)))
           have LL : wc.heap.size ≤ x.heap.size := BB.out.size
           first
             | (with_reducible have NN := Has.below (has_newd _ _ _ _) hb)
             | (with_reducible have NN := Has.below (has_new _ _ _ _) hb)
             | (with_reducible have NN := Has.below NN hb)
             | skip
           try (have NX := NN; obtain ⟨m0, m1, m2, m3, m4⟩ := NX)
           clear hb)
        | (go_at_call 18; first | with_reducible refine (g2.out _).mono ?_
           rintro e x ⟨rfl, hb⟩
           have BB : Hid (Below wc.heap.size wc x) := by
             refine below_trans (a := wc) ?_ hb
             (repeat (first | with_reducible exact BB.out | with_reducible exact Below.refl _ _ | with_reducible refine Below.drew ?_ | with_reducible refine Below.alloc ?_ ?_ _ | with_reducible refine Below.setCell ?_ ?_ _ | omega | (simp <;> omega)))
           have LL : wc.heap.size ≤ x.heap.size := BB.out.size
           first
             | (with_reducible have NN := Has.below (has_newd _ _ _ _) hb)
             | (with_reducible have NN := Has.below (has_new _ _ _ _) hb)
             | (with_reducible have NN := Has.below NN hb)
             | skip
           try (have NX := NN; obtain ⟨m0, m1, m2, m3, m4⟩ := NX)
           clear hb))
    all_goals
      go_wp2_with fail
      go_meet
      refine ⟨_, rfl, rfl, ?_, ?_⟩
      · first
          | ((with_reducible refine has_lit _ _ _ ?_); first | rfl | simp)
          | (with_reducible refine Has.setOwn (a := .int .i64 0) (b := .int .i64 0) ?_; exact NN)
      · (repeat (first | with_reducible exact BB.out | with_reducible exact Below.refl _ _ | with_reducible refine Below.drew ?_ | with_reducible refine Below.alloc ?_ ?_ _ | with_reducible refine Below.setCell ?_ ?_ _ | omega | (simp <;> omega)))
  obtain ⟨bq, rfl, rfl, hH, hB⟩ := hcut
  have Hbq : Hid (Has wc bq (.int .i64 pN) (.int .i64 pD)) := hH
  replace K : Hid (Three w n0 d0 n1 d1 n2 d2 wc) := Three.below K.out hB
  replace Hbp : Hid (Has wc bp (.int .i64 pN) (.int .i64 pD)) := Has.below Hbp.out hB
  clear hH hB g2
  obtain ⟨⟨c0a, c0b, c0c, c0d, c0e⟩, -, -, -⟩ := K.out
  go_wp2_with fail
  refine (of_any n0 d0 _).mono ?_
  rintro e w5 ⟨rfl, hb⟩
  replace K : Hid (Three w n0 d0 n1 d1 n2 d2 w5) := Three.below K.out hb
  replace Hbp : Hid (Has w5 bp (.int .i64 pN) (.int .i64 pD)) := Has.below Hbp.out hb
  replace Hbq : Hid (Has w5 bq (.int .i64 pN) (.int .i64 pD)) := Has.below Hbq.out hb
  clear hb  c0a c0b c0c c0d c0e
  go_wp2_with fail
  refine (g3.out _).mono ?_
  rintro e w6 ⟨rfl, hb⟩
  replace K : Hid (Three w n0 d0 n1 d1 n2 d2 w6) := Three.below K.out hb
  replace Hbp : Hid (Has w6 bp (.int .i64 pN) (.int .i64 pD)) := Has.below Hbp.out hb
  replace Hbq : Hid (Has w6 bq (.int .i64 pN) (.int .i64 pD)) := Has.below Hbq.out hb
  clear hb g3 
  go_wp2_with fail
  have Ho : Hid (Has (w6.alloc (.cells #[.int .i64 n0, .int .i64 d0] 24)) w6.heap.size (.int .i64 n0) (.int .i64 d0)) := has_new _ _ _ _
  replace K : Hid (Three w n0 d0 n1 d1 n2 d2 (w6.alloc (.cells #[.int .i64 n0, .int .i64 d0] 24))) := Three.alloc K.out _
  replace Hbp : Hid (Has (w6.alloc (.cells #[.int .i64 n0, .int .i64 d0] 24)) bp (.int .i64 pN) (.int .i64 pD)) := Has.alloc Hbp.out _
  replace Hbq : Hid (Has (w6.alloc (.cells #[.int .i64 n0, .int .i64 d0] 24)) bq (.int .i64 pN) (.int .i64 pD)) := Has.alloc Hbq.out _
  generalize w6.alloc (.cells #[.int .i64 n0, .int .i64 d0] 24) = w7 at *
  go_wp2_with fail
  obtain ⟨⟨c0a, c0b, c0c, c0d, c0e⟩, -, -, -⟩ := K.out
  have kc0a := cell_regrown c0a
  have kc0b := cell_regrown c0b
  clear c0a c0b c0c c0d c0e
  have ke0a := cell_regrown Hbp.out.1
  have ke0b := cell_regrown Hbp.out.2.1
  have ke1a := cell_regrown Hbq.out.1
  have ke1b := cell_regrown Hbq.out.2.1
  have ke2a := cell_regrown Ho.out.1
  have ke2b := cell_regrown Ho.out.2.1
  refine wp_region_quiet_below (by kernel_rfl) (by kernel_rfl) ?_
  repeat (go_big_quiet_step (first
    | (go_at_call 17; first | with_reducible exact Calls.regrown_of (of_any n0 d0 _))))
  refine wpQuiet_nil ?_
  intro _ hw'
  obtain ⟨⟨dq, osq⟩, hw''⟩ := hw'
  subst hw''
  clear kc0a kc0b ke0a ke0b ke1a ke1b ke2a ke2b Hbp Hbq Ho
  have hb := below_regrown w7 dq osq
  replace K : Hid (Three w n0 d0 n1 d1 n2 d2 (Sort.grow (redrawn w7 dq) osq)) := Three.below K.out hb
  clear hb
  generalize Sort.grow (redrawn w7 dq) osq = w8 at *
  go_upto_region 8 with fail
  go_cut [13, 14] from 82 to 89 (fun sp se wx => ∃ b : Nat, sp = .pointer (some ⟨b, 0, none⟩) ∧ se = .int .i64 sE ∧ Has wx b (.int .i64 sN) (.int .i64 sD) ∧ Below w8.heap.size w8 wx)
  case first =>
    go_region_held3 (fun x => (x.cell? ⟨w.heap.size, 0, none⟩ = some (.int .i64 n0) ∧ x.cell? ⟨w.heap.size, 1, none⟩ = some (.int .i64 d0) ∧ x.frozen? ⟨w.heap.size, 0, none⟩ = false ∧ x.frozen? ⟨w.heap.size, 1, none⟩ = false ∧ w.heap.size < x.heap.size) ∧
        (x.cell? ⟨w.heap.size + 1, 0, none⟩ = some (.int .i64 n1) ∧ x.cell? ⟨w.heap.size + 1, 1, none⟩ = some (.int .i64 d1) ∧ x.frozen? ⟨w.heap.size + 1, 0, none⟩ = false ∧ x.frozen? ⟨w.heap.size + 1, 1, none⟩ = false ∧ w.heap.size + 1 < x.heap.size) ∧
        (x.cell? ⟨w.heap.size + 1 + 1, 0, none⟩ = some (.int .i64 n2) ∧ x.cell? ⟨w.heap.size + 1 + 1, 1, none⟩ = some (.int .i64 d2) ∧ x.frozen? ⟨w.heap.size + 1 + 1, 0, none⟩ = false ∧ x.frozen? ⟨w.heap.size + 1 + 1, 1, none⟩ = false ∧ w.heap.size + 1 + 1 < x.heap.size) ∧ Below w.heap.size w x)
      ((show Three w n0 d0 n1 d1 n2 d2 _; refine Three.below K.out ?_; (repeat (first | with_reducible exact BB.out | with_reducible exact Below.refl _ _ | with_reducible refine Below.drew ?_ | with_reducible refine Below.alloc ?_ ?_ _ | with_reducible refine Below.setCell ?_ ?_ _ | omega | (simp <;> omega)))))
      (first
        | (go_at_call 17; first | with_reducible refine (of_any n0 d0 _).mono ?_ | with_reducible refine (of_any n1 d1 _).mono ?_ | with_reducible refine (of_any n2 d2 _).mono ?_
           rintro e x ⟨rfl, hb⟩
           have BB : Hid (Below w8.heap.size w8 x) := by
             refine below_trans (a := w8) ?_ hb
             (repeat (first | with_reducible exact BB.out | with_reducible exact Below.refl _ _ | with_reducible refine Below.drew ?_ | with_reducible refine Below.alloc ?_ ?_ _ | with_reducible refine Below.setCell ?_ ?_ _ | omega | (simp <;> omega)))
           have LL : w8.heap.size ≤ x.heap.size := BB.out.size
           first
             | (with_reducible have NN := Has.below (has_newd _ _ _ _) hb)
             | (with_reducible have NN := Has.below (has_new _ _ _ _) hb)
             | (with_reducible have NN := Has.below NN hb)
             | skip
           try (have NX := NN; obtain ⟨m0, m1, m2, m3, m4⟩ := NX)
           clear hb)
        | (go_at_call 16; first | with_reducible refine (g4.out _).mono ?_
           rintro e x ⟨rfl, hb⟩
           have BB : Hid (Below w8.heap.size w8 x) := by
             refine below_trans (a := w8) ?_ hb
             (repeat (first | with_reducible exact BB.out | with_reducible exact Below.refl _ _ | with_reducible refine Below.drew ?_ | with_reducible refine Below.alloc ?_ ?_ _ | with_reducible refine Below.setCell ?_ ?_ _ | omega | (simp <;> omega)))
           have LL : w8.heap.size ≤ x.heap.size := BB.out.size
           first
             | (with_reducible have NN := Has.below (has_newd _ _ _ _) hb)
             | (with_reducible have NN := Has.below (has_new _ _ _ _) hb)
             | (with_reducible have NN := Has.below NN hb)
             | skip
           try (have NX := NN; obtain ⟨m0, m1, m2, m3, m4⟩ := NX)
           clear hb))
    all_goals
      go_wp2_with fail
      go_meet
      refine ⟨_, rfl, rfl, ?_, ?_⟩
      · first
          | ((with_reducible refine has_lit _ _ _ ?_); first | rfl | simp)
          | (with_reducible refine Has.setOwn (a := .int .i64 0) (b := .int .i64 0) ?_; exact NN)
      · (repeat (first | with_reducible exact BB.out | with_reducible exact Below.refl _ _ | with_reducible refine Below.drew ?_ | with_reducible refine Below.alloc ?_ ?_ _ | with_reducible refine Below.setCell ?_ ?_ _ | omega | (simp <;> omega)))
  obtain ⟨bs, rfl, rfl, hH, hB⟩ := hcut
  have Hbs : Hid (Has wc bs (.int .i64 sN) (.int .i64 sD)) := hH
  replace K : Hid (Three w n0 d0 n1 d1 n2 d2 wc) := Three.below K.out hB
  clear hH hB g4
  go_upto_region 9 with fail
  go_cut [15, 16] from 90 to 96 (fun sp se wx => ∃ b : Nat, sp = .pointer (some ⟨b, 0, none⟩) ∧ se = .int .i64 xE ∧ Has wx b (.int .i64 xN) (.int .i64 xD) ∧ Below wc.heap.size wc wx)
  case first =>
    go_region_held3 (fun x => (x.cell? ⟨bs, 0, none⟩ = some (.int .i64 sN) ∧ x.cell? ⟨bs, 1, none⟩ = some (.int .i64 sD) ∧ x.frozen? ⟨bs, 0, none⟩ = false ∧ x.frozen? ⟨bs, 1, none⟩ = false ∧ bs < x.heap.size) ∧ (x.cell? ⟨w.heap.size, 0, none⟩ = some (.int .i64 n0) ∧ x.cell? ⟨w.heap.size, 1, none⟩ = some (.int .i64 d0) ∧ x.frozen? ⟨w.heap.size, 0, none⟩ = false ∧ x.frozen? ⟨w.heap.size, 1, none⟩ = false ∧ w.heap.size < x.heap.size) ∧
        (x.cell? ⟨w.heap.size + 1, 0, none⟩ = some (.int .i64 n1) ∧ x.cell? ⟨w.heap.size + 1, 1, none⟩ = some (.int .i64 d1) ∧ x.frozen? ⟨w.heap.size + 1, 0, none⟩ = false ∧ x.frozen? ⟨w.heap.size + 1, 1, none⟩ = false ∧ w.heap.size + 1 < x.heap.size) ∧
        (x.cell? ⟨w.heap.size + 1 + 1, 0, none⟩ = some (.int .i64 n2) ∧ x.cell? ⟨w.heap.size + 1 + 1, 1, none⟩ = some (.int .i64 d2) ∧ x.frozen? ⟨w.heap.size + 1 + 1, 0, none⟩ = false ∧ x.frozen? ⟨w.heap.size + 1 + 1, 1, none⟩ = false ∧ w.heap.size + 1 + 1 < x.heap.size) ∧ Below w.heap.size w x)
      ((refine ⟨(?_ : Has _ bs (.int .i64 sN) (.int .i64 sD)), (?_ : Three w n0 d0 n1 d1 n2 d2 _)⟩; (refine Has.below Hbs.out ?_; (repeat (first | with_reducible exact BB.out | with_reducible exact Below.refl _ _ | with_reducible refine Below.drew ?_ | with_reducible refine Below.alloc ?_ ?_ _ | with_reducible refine Below.setCell ?_ ?_ _ | omega | (simp <;> omega)))); (refine Three.below K.out ?_; (repeat (first | with_reducible exact BB.out | with_reducible exact Below.refl _ _ | with_reducible refine Below.drew ?_ | with_reducible refine Below.alloc ?_ ?_ _ | with_reducible refine Below.setCell ?_ ?_ _ | omega | (simp <;> omega))))))
      (first
        | (go_at_call 17; first | with_reducible refine (of_any n0 d0 _).mono ?_ | with_reducible refine (of_any n1 d1 _).mono ?_ | with_reducible refine (of_any n2 d2 _).mono ?_
           rintro e x ⟨rfl, hb⟩
           have BB : Hid (Below wc.heap.size wc x) := by
             refine below_trans (a := wc) ?_ hb
             (repeat (first | with_reducible exact BB.out | with_reducible exact Below.refl _ _ | with_reducible refine Below.drew ?_ | with_reducible refine Below.alloc ?_ ?_ _ | with_reducible refine Below.setCell ?_ ?_ _ | omega | (simp <;> omega)))
           have LL : wc.heap.size ≤ x.heap.size := BB.out.size
           first
             | (with_reducible have NN := Has.below (has_newd _ _ _ _) hb)
             | (with_reducible have NN := Has.below (has_new _ _ _ _) hb)
             | (with_reducible have NN := Has.below NN hb)
             | skip
           try (have NX := NN; obtain ⟨m0, m1, m2, m3, m4⟩ := NX)
           clear hb)
        | (go_at_call 18; first | with_reducible refine (g5.out _).mono ?_
           rintro e x ⟨rfl, hb⟩
           have BB : Hid (Below wc.heap.size wc x) := by
             refine below_trans (a := wc) ?_ hb
             (repeat (first | with_reducible exact BB.out | with_reducible exact Below.refl _ _ | with_reducible refine Below.drew ?_ | with_reducible refine Below.alloc ?_ ?_ _ | with_reducible refine Below.setCell ?_ ?_ _ | omega | (simp <;> omega)))
           have LL : wc.heap.size ≤ x.heap.size := BB.out.size
           first
             | (with_reducible have NN := Has.below (has_newd _ _ _ _) hb)
             | (with_reducible have NN := Has.below (has_new _ _ _ _) hb)
             | (with_reducible have NN := Has.below NN hb)
             | skip
           try (have NX := NN; obtain ⟨m0, m1, m2, m3, m4⟩ := NX)
           clear hb))
    all_goals
      go_wp2_with fail
      go_meet
      refine ⟨_, rfl, rfl, ?_, ?_⟩
      · first
          | ((with_reducible refine has_lit _ _ _ ?_); first | rfl | simp)
          | (with_reducible refine Has.setOwn (a := .int .i64 0) (b := .int .i64 0) ?_; exact NN)
      · (repeat (first | with_reducible exact BB.out | with_reducible exact Below.refl _ _ | with_reducible refine Below.drew ?_ | with_reducible refine Below.alloc ?_ ?_ _ | with_reducible refine Below.setCell ?_ ?_ _ | omega | (simp <;> omega)))
  obtain ⟨bx, rfl, rfl, hH, hB⟩ := hcut
  have Hbx : Hid (Has wc bx (.int .i64 xN) (.int .i64 xD)) := hH
  replace K : Hid (Three w n0 d0 n1 d1 n2 d2 wc) := Three.below K.out hB
  replace Hbs : Hid (Has wc bs (.int .i64 sN) (.int .i64 sD)) := Has.below Hbs.out hB
  clear hH hB g5
  clear Hbs
  go_upto_region 10 with fail
  go_cut [17, 18] from 97 to 104 (fun sp se wx => ∃ b : Nat, sp = .pointer (some ⟨b, 0, none⟩) ∧ se = .int .i64 uE ∧ Has wx b (.int .i64 uN) (.int .i64 uD) ∧ Below wc.heap.size wc wx)
  case first =>
    go_region_held3 (fun x => (x.cell? ⟨w.heap.size, 0, none⟩ = some (.int .i64 n0) ∧ x.cell? ⟨w.heap.size, 1, none⟩ = some (.int .i64 d0) ∧ x.frozen? ⟨w.heap.size, 0, none⟩ = false ∧ x.frozen? ⟨w.heap.size, 1, none⟩ = false ∧ w.heap.size < x.heap.size) ∧
        (x.cell? ⟨w.heap.size + 1, 0, none⟩ = some (.int .i64 n1) ∧ x.cell? ⟨w.heap.size + 1, 1, none⟩ = some (.int .i64 d1) ∧ x.frozen? ⟨w.heap.size + 1, 0, none⟩ = false ∧ x.frozen? ⟨w.heap.size + 1, 1, none⟩ = false ∧ w.heap.size + 1 < x.heap.size) ∧
        (x.cell? ⟨w.heap.size + 1 + 1, 0, none⟩ = some (.int .i64 n2) ∧ x.cell? ⟨w.heap.size + 1 + 1, 1, none⟩ = some (.int .i64 d2) ∧ x.frozen? ⟨w.heap.size + 1 + 1, 0, none⟩ = false ∧ x.frozen? ⟨w.heap.size + 1 + 1, 1, none⟩ = false ∧ w.heap.size + 1 + 1 < x.heap.size) ∧ Below w.heap.size w x)
      ((show Three w n0 d0 n1 d1 n2 d2 _; refine Three.below K.out ?_; (repeat (first | with_reducible exact BB.out | with_reducible exact Below.refl _ _ | with_reducible refine Below.drew ?_ | with_reducible refine Below.alloc ?_ ?_ _ | with_reducible refine Below.setCell ?_ ?_ _ | omega | (simp <;> omega)))))
      (first
        | (go_at_call 17; first | with_reducible refine (of_any n0 d0 _).mono ?_ | with_reducible refine (of_any n1 d1 _).mono ?_ | with_reducible refine (of_any n2 d2 _).mono ?_
           rintro e x ⟨rfl, hb⟩
           have BB : Hid (Below wc.heap.size wc x) := by
             refine below_trans (a := wc) ?_ hb
             (repeat (first | with_reducible exact BB.out | with_reducible exact Below.refl _ _ | with_reducible refine Below.drew ?_ | with_reducible refine Below.alloc ?_ ?_ _ | with_reducible refine Below.setCell ?_ ?_ _ | omega | (simp <;> omega)))
           have LL : wc.heap.size ≤ x.heap.size := BB.out.size
           first
             | (with_reducible have NN := Has.below (has_newd _ _ _ _) hb)
             | (with_reducible have NN := Has.below (has_new _ _ _ _) hb)
             | (with_reducible have NN := Has.below NN hb)
             | skip
           try (have NX := NN; obtain ⟨m0, m1, m2, m3, m4⟩ := NX)
           clear hb)
        | (go_at_call 18; first | with_reducible refine (g6.out _).mono ?_
           rintro e x ⟨rfl, hb⟩
           have BB : Hid (Below wc.heap.size wc x) := by
             refine below_trans (a := wc) ?_ hb
             (repeat (first | with_reducible exact BB.out | with_reducible exact Below.refl _ _ | with_reducible refine Below.drew ?_ | with_reducible refine Below.alloc ?_ ?_ _ | with_reducible refine Below.setCell ?_ ?_ _ | omega | (simp <;> omega)))
           have LL : wc.heap.size ≤ x.heap.size := BB.out.size
           first
             | (with_reducible have NN := Has.below (has_newd _ _ _ _) hb)
             | (with_reducible have NN := Has.below (has_new _ _ _ _) hb)
             | (with_reducible have NN := Has.below NN hb)
             | skip
           try (have NX := NN; obtain ⟨m0, m1, m2, m3, m4⟩ := NX)
           clear hb))
    all_goals
      go_wp2_with fail
      go_meet
      refine ⟨_, rfl, rfl, ?_, ?_⟩
      · first
          | ((with_reducible refine has_lit _ _ _ ?_); first | rfl | simp)
          | (with_reducible refine Has.setOwn (a := .int .i64 0) (b := .int .i64 0) ?_; exact NN)
      · (repeat (first | with_reducible exact BB.out | with_reducible exact Below.refl _ _ | with_reducible refine Below.drew ?_ | with_reducible refine Below.alloc ?_ ?_ _ | with_reducible refine Below.setCell ?_ ?_ _ | omega | (simp <;> omega)))
  obtain ⟨bu, rfl, rfl, hH, hB⟩ := hcut
  have Hbu : Hid (Has wc bu (.int .i64 uN) (.int .i64 uD)) := hH
  replace K : Hid (Three w n0 d0 n1 d1 n2 d2 wc) := Three.below K.out hB
  replace Hbx : Hid (Has wc bx (.int .i64 xN) (.int .i64 xD)) := Has.below Hbx.out hB
  clear hH hB g6
  go_upto_region 11 with fail
  go_cut [19, 20] from 105 to 112 (fun sp se wx => ∃ b : Nat, sp = .pointer (some ⟨b, 0, none⟩) ∧ se = .int .i64 vE ∧ Has wx b (.int .i64 vN) (.int .i64 vD) ∧ Below wc.heap.size wc wx)
  case first =>
    go_region_held3 (fun x => (x.cell? ⟨w.heap.size, 0, none⟩ = some (.int .i64 n0) ∧ x.cell? ⟨w.heap.size, 1, none⟩ = some (.int .i64 d0) ∧ x.frozen? ⟨w.heap.size, 0, none⟩ = false ∧ x.frozen? ⟨w.heap.size, 1, none⟩ = false ∧ w.heap.size < x.heap.size) ∧
        (x.cell? ⟨w.heap.size + 1, 0, none⟩ = some (.int .i64 n1) ∧ x.cell? ⟨w.heap.size + 1, 1, none⟩ = some (.int .i64 d1) ∧ x.frozen? ⟨w.heap.size + 1, 0, none⟩ = false ∧ x.frozen? ⟨w.heap.size + 1, 1, none⟩ = false ∧ w.heap.size + 1 < x.heap.size) ∧
        (x.cell? ⟨w.heap.size + 1 + 1, 0, none⟩ = some (.int .i64 n2) ∧ x.cell? ⟨w.heap.size + 1 + 1, 1, none⟩ = some (.int .i64 d2) ∧ x.frozen? ⟨w.heap.size + 1 + 1, 0, none⟩ = false ∧ x.frozen? ⟨w.heap.size + 1 + 1, 1, none⟩ = false ∧ w.heap.size + 1 + 1 < x.heap.size) ∧ Below w.heap.size w x)
      ((show Three w n0 d0 n1 d1 n2 d2 _; refine Three.below K.out ?_; (repeat (first | with_reducible exact BB.out | with_reducible exact Below.refl _ _ | with_reducible refine Below.drew ?_ | with_reducible refine Below.alloc ?_ ?_ _ | with_reducible refine Below.setCell ?_ ?_ _ | omega | (simp <;> omega)))))
      (first
        | (go_at_call 17; first | with_reducible refine (of_any n0 d0 _).mono ?_ | with_reducible refine (of_any n1 d1 _).mono ?_ | with_reducible refine (of_any n2 d2 _).mono ?_
           rintro e x ⟨rfl, hb⟩
           have BB : Hid (Below wc.heap.size wc x) := by
             refine below_trans (a := wc) ?_ hb
             (repeat (first | with_reducible exact BB.out | with_reducible exact Below.refl _ _ | with_reducible refine Below.drew ?_ | with_reducible refine Below.alloc ?_ ?_ _ | with_reducible refine Below.setCell ?_ ?_ _ | omega | (simp <;> omega)))
           have LL : wc.heap.size ≤ x.heap.size := BB.out.size
           first
             | (with_reducible have NN := Has.below (has_newd _ _ _ _) hb)
             | (with_reducible have NN := Has.below (has_new _ _ _ _) hb)
             | (with_reducible have NN := Has.below NN hb)
             | skip
           try (have NX := NN; obtain ⟨m0, m1, m2, m3, m4⟩ := NX)
           clear hb)
        | (go_at_call 18; first | with_reducible refine (g7.out _).mono ?_
           rintro e x ⟨rfl, hb⟩
           have BB : Hid (Below wc.heap.size wc x) := by
             refine below_trans (a := wc) ?_ hb
             (repeat (first | with_reducible exact BB.out | with_reducible exact Below.refl _ _ | with_reducible refine Below.drew ?_ | with_reducible refine Below.alloc ?_ ?_ _ | with_reducible refine Below.setCell ?_ ?_ _ | omega | (simp <;> omega)))
           have LL : wc.heap.size ≤ x.heap.size := BB.out.size
           first
             | (with_reducible have NN := Has.below (has_newd _ _ _ _) hb)
             | (with_reducible have NN := Has.below (has_new _ _ _ _) hb)
             | (with_reducible have NN := Has.below NN hb)
             | skip
           try (have NX := NN; obtain ⟨m0, m1, m2, m3, m4⟩ := NX)
           clear hb))
    all_goals
      go_wp2_with fail
      go_meet
      refine ⟨_, rfl, rfl, ?_, ?_⟩
      · first
          | ((with_reducible refine has_lit _ _ _ ?_); first | rfl | simp)
          | (with_reducible refine Has.setOwn (a := .int .i64 0) (b := .int .i64 0) ?_; exact NN)
      · (repeat (first | with_reducible exact BB.out | with_reducible exact Below.refl _ _ | with_reducible refine Below.drew ?_ | with_reducible refine Below.alloc ?_ ?_ _ | with_reducible refine Below.setCell ?_ ?_ _ | omega | (simp <;> omega)))
  obtain ⟨bv, rfl, rfl, hH, hB⟩ := hcut
  have Hbv : Hid (Has wc bv (.int .i64 vN) (.int .i64 vD)) := hH
  replace K : Hid (Three w n0 d0 n1 d1 n2 d2 wc) := Three.below K.out hB
  replace Hbx : Hid (Has wc bx (.int .i64 xN) (.int .i64 xD)) := Has.below Hbx.out hB
  replace Hbu : Hid (Has wc bu (.int .i64 uN) (.int .i64 uD)) := Has.below Hbu.out hB
  clear hH hB g7
  obtain ⟨p0, p1, p2, p3, p4⟩ := Hbu.out
  obtain ⟨q0, q1, q2, q3, q4⟩ := Hbv.out
  go_wp2_with fail
  refine (g8.out _).mono ?_
  rintro e w9 ⟨rfl, hb⟩
  replace K : Hid (Three w n0 d0 n1 d1 n2 d2 w9) := Three.below K.out hb
  replace Hbx : Hid (Has w9 bx (.int .i64 xN) (.int .i64 xD)) := Has.below Hbx.out hb
  clear hb g8 p0 p1 p2 p3 p4 q0 q1 q2 q3 q4 Hbu Hbv 
  obtain ⟨p0, p1, p2, p3, p4⟩ := Hbx.out
  have WW : Hid (Below w.heap.size w w9) := K.out.2.2.2
  clear K Hbx
  rcases WAYS.out with ⟨q1, q2⟩ | ⟨rfl, q1, q2⟩ | ⟨rfl, rfl, q1, q2⟩ | ⟨rfl, rfl, rfl, q1, q2⟩ | ⟨rfl, rfl, rfl, rfl, q1, q2⟩ | ⟨rfl, rfl, rfl, rfl, rfl, rfl, rfl⟩
  all_goals
    clear WAYS
    go_wp2
    all_goals
      go_ret
      exact ⟨rfl, WW.out.alloc WW.out.size _⟩

set_option maxRecDepth 100000 in
theorem lifted (os : Os) (started : os.Started) (H : Type) (enc : TypeId × Value → H) :
    ReturnsInHanded {} Try.checked os 7 .any (Rows.ratioTimesSpec.pre6 enc Try.prog Try.f7 Rows.ratioTimesRow.domain false) (Rows.ratioTimesSpec.post enc Try.prog Try.f7 false true false false) := by
  refine returnsInHanded_of_change (C := Try.checked) own started (by kernel_rfl) Try.func7
    (ChangeSpec.witness6 (enc := enc) (C := Try.checked) false ⟨#[], #[.agg #[.int .i64 0, .int .i64 0], .agg #[.int .i64 0, .int .i64 0], .agg #[.int .i64 0, .int .i64 0]], []⟩ 8 (by kernel_rfl) (by kernel_rfl) (by kernel_rfl) (by kernel_rfl)) ?_
  intro W base args ds gs before hval0 hW hcnd _
  have hval : ∀ (j : Nat) t v, Try.f7.params[j]? = some t → args[j]? = some v → Value.okWide Try.prog W .any base t v := hval0
  have hW' := hW
  obtain ⟨p, q, hA0, hV, rfl, hfz, hnd⟩ := hW
  have hA : DataW.TrodAll enc Try.prog W 0 (fun _ => true) true Try.f7.params.toList args.toList ds p := hA0
  rw [Try.params7] at hA hval
  obtain ⟨v0, vs0, dd0, ds0, p0, q0, hargs, rfl, rfl, hh0, r0⟩ := trodAll_cons hA
  obtain ⟨v1, vs1, dd1, ds1, p1, q1, rfl, rfl, rfl, hh1, r1⟩ := trodAll_cons r0
  obtain ⟨v2, vs2, dd2, ds2, p2, q2, rfl, rfl, rfl, hh2, r2⟩ := trodAll_cons r1
  obtain ⟨rfl, rfl, rfl⟩ := trodAll_nil r2
  obtain rfl : args = #[v0, v1, v2] := by cases args; simp_all
  obtain ⟨rfl, rfl⟩ := trodVars_none hV
  obtain ⟨c0, e0, y0, z0, m0, rfl, rfl, rfl, hy0, hz0⟩ := open_agg2 Try.underlying28 (by kernel_rfl) cells28 (hval 0 28 v0 rfl rfl) hh0
  obtain ⟨n0, k0, rfl, w0⟩ := DataW.trod_int Try.underlying2 hy0
  obtain ⟨d0, l0, rfl, x0⟩ := DataW.trod_int Try.underlying2 hz0
  simp at k0 l0
  subst k0 l0
  obtain ⟨c1, e1, y1, z1, m1, rfl, rfl, rfl, hy1, hz1⟩ := open_agg2 Try.underlying28 (by kernel_rfl) cells28 (hval 1 28 v1 rfl rfl) hh1
  obtain ⟨n1, k1, rfl, w1⟩ := DataW.trod_int Try.underlying2 hy1
  obtain ⟨d1, l1, rfl, x1⟩ := DataW.trod_int Try.underlying2 hz1
  simp at k1 l1
  subst k1 l1
  obtain ⟨c2, e2, y2, z2, m2, rfl, rfl, rfl, hy2, hz2⟩ := open_agg2 Try.underlying28 (by kernel_rfl) cells28 (hval 2 28 v2 rfl rfl) hh2
  obtain ⟨n2, k2, rfl, w2⟩ := DataW.trod_int Try.underlying2 hy2
  obtain ⟨d2, l2, rfl, x2⟩ := DataW.trod_int Try.underlying2 hz2
  simp at k2 l2
  subst k2 l2
  clear hA0 hval0
  have sr0 : ∀ (W' : World) (sp : Nat → Bool), DataW.Trod enc Try.prog W' 0 sp true 28 (.agg #[.int .i64 n0, .int .i64 d0]) (.agg [.lit (.int .i64 n0), .lit (.int .i64 d0)]) [] := fun W' sp =>
    shut_agg2 (y0 := (.lit (.int .i64 n0), [])) (y1 := (.lit (.int .i64 d0), [])) Try.underlying28 (by kernel_rfl) cells28 ⟨1, by simp [DataW.trod, Try.underlying2, w0]⟩ ⟨1, by simp [DataW.trod, Try.underlying2, x0]⟩
  have sr1 : ∀ (W' : World) (sp : Nat → Bool), DataW.Trod enc Try.prog W' 0 sp true 28 (.agg #[.int .i64 n1, .int .i64 d1]) (.agg [.lit (.int .i64 n1), .lit (.int .i64 d1)]) [] := fun W' sp =>
    shut_agg2 (y0 := (.lit (.int .i64 n1), [])) (y1 := (.lit (.int .i64 d1), [])) Try.underlying28 (by kernel_rfl) cells28 ⟨1, by simp [DataW.trod, Try.underlying2, w1]⟩ ⟨1, by simp [DataW.trod, Try.underlying2, x1]⟩
  have sr2 : ∀ (W' : World) (sp : Nat → Bool), DataW.Trod enc Try.prog W' 0 sp true 28 (.agg #[.int .i64 n2, .int .i64 d2]) (.agg [.lit (.int .i64 n2), .lit (.int .i64 d2)]) [] := fun W' sp =>
    shut_agg2 (y0 := (.lit (.int .i64 n2), [])) (y1 := (.lit (.int .i64 d2), [])) Try.underlying28 (by kernel_rfl) cells28 ⟨1, by simp [DataW.trod, Try.underlying2, w2]⟩ ⟨1, by simp [DataW.trod, Try.underlying2, x2]⟩
  refine (walk n0 d0 (bounds_i64 w0) (bounds_i64 x0) n1 d1 (bounds_i64 w1) (bounds_i64 x1) n2 d2 (bounds_i64 w2) (bounds_i64 x2) W).mono fun e W' ⟨he, bel⟩ => ?_
  subst he
  exact ⟨_, rfl, _, _, _, [], _, [], hW', trodAll_mk1 (shut_bool Try.underlying4 _), (trodAll_cons_mk (sr0 _ _) (trodAll_cons_mk (sr1 _ _) (trodAll_cons_mk (sr2 _ _) trodAll_mk0))), rfl, bel.frame _, fun h => by cases h⟩

theorem over : Rows.ratioTimesRow.holds Try.pinned (OpenSpec.ofChange Rows.ratioTimesSpec) :=
  OpenClaim.holds_of_wide 7 Try.f7 rfl rfl rfl rfl rfl rfl rfl ⟨rfl, rfl, rfl, rfl, rfl⟩ rfl rfl rfl rfl rfl (by kernel_rfl) Try.func7 (by kernel_rfl)
    (of_decide_eq_true (by kernel_rfl)) (by unfold Func.isWrapper; first | (rw [if_pos (by decide +kernel)]; kernel_rfl) | (rw [if_neg (by decide +kernel)]; exact ⟨rfl, rfl⟩))
    (fun os started H enc _ => lifted os started H enc)

/-- THE STATEMENT -/
theorem proved : Rows.RatioTimesSaid :=
  over
#print axioms proved
end Go.Proofs.Ytlhjhefbindlkaa.ratioTimes
