/-
  What is proved: for any three fractions of numbers of 64 bits the statement RatioBack (what is added is taken away again, and order is kept, as long as all lies within) returns true. Conditions: none.
-/
import Derived.Test.YtlhjhefbindlkaaRows
import Derived.Test.YtlhjhefbindlkaaLawKit
import Derived.Test.YtlhjhefbindlkaaRatD
import Derived.Test.YtlhjhefbindlkaaRatE
import Derived.Deep.CutRange
import Derived.WalkKit
import Derived.ProofKit
import Derived.OpenShut
import Derived.ShutString
import Derived.ChangeOld
import Derived.Below
import Derived.Lib.SmallJoins
namespace Go.Proofs.Ytlhjhefbindlkaa.ratioBack
open Go.ChangeShapes Go.WideShapes Go.ChangeAt Go.RowKit Go.Joins
open Go.ChangeMaps (open_string shut_string)
set_option linter.unusedVariables false

theorem own : ownKnob Try.prog.godebug = none := by kernel_rfl
theorem cells28 : Try.prog.cellsOf 28 = 2 := by kernel_rfl

/-- the fraction with its sign turned is right, too -/
theorem neg_right {n d : Int} (h : rightB n d = true) : rightB (-n) d = true := by
  obtain ⟨a, b⟩ := (right_iff _ _).1 h
  refine (right_iff _ _).2 ⟨a, ?_⟩
  unfold gcdN at *
  rw [Int.natAbs_neg]; exact b

/-- what is added is taken away again -/
theorem back_again {n0 d0 n1 d1 : Int} (r0 : rightB n0 d0 = true) (r1 : rightB n1 d1 = true)
    (hs : addE n0 d0 n1 d1 = 0) (hd : addE (addN n0 d0 n1 d1) (addD n0 d0 n1 d1) (-n1) d1 = 0) :
    addN (addN n0 d0 n1 d1) (addD n0 d0 n1 d1) (-n1) d1 = n0 ∧ addD (addN n0 d0 n1 d1) (addD n0 d0 n1 d1) (-n1) d1 = d0 := by
  have p0 := ((right_iff _ _).1 r0).1
  have p1 := ((right_iff _ _).1 r1).1
  rcases addE_cases n0 d0 n1 d1 with ⟨h, _⟩ | ⟨h, _⟩ | ⟨_, _, a1, a2⟩
  · omega
  · omega
  rcases addE_cases (addN n0 d0 n1 d1) (addD n0 d0 n1 d1) (-n1) d1 with ⟨h, _⟩ | ⟨h, _⟩ | ⟨_, _, b1, b2⟩
  · omega
  · omega
  generalize addN n0 d0 n1 d1 = sN at *
  generalize addD n0 d0 n1 d1 = sD at *
  generalize addN sN sD (-n1) d1 = dN at *
  generalize addD sN sD (-n1) d1 = dD at *
  have q1 := ((right_iff _ _).1 a1).1
  refine right_one b1 r0 ?_
  refine Int.eq_of_mul_eq_mul_right (a := sD * d1 * d1) (by have := Int.mul_pos (Int.mul_pos q1 p1) p1; omega) ?_
  grind

/-- order is kept -/
theorem order_kept {n0 d0 n1 d1 n2 d2 : Int} (r0 : rightB n0 d0 = true) (r1 : rightB n1 d1 = true) (r2 : rightB n2 d2 = true)
    (hs : addE n0 d0 n1 d1 = 0) (ht : addE n2 d2 n1 d1 = 0) :
    lessB (addN n0 d0 n1 d1) (addD n0 d0 n1 d1) (addN n2 d2 n1 d1) (addD n2 d2 n1 d1) = lessB n0 d0 n2 d2 := by
  have p0 := ((right_iff _ _).1 r0).1
  have p1 := ((right_iff _ _).1 r1).1
  have p2 := ((right_iff _ _).1 r2).1
  rcases addE_cases n0 d0 n1 d1 with ⟨h, _⟩ | ⟨h, _⟩ | ⟨_, _, a1, a2⟩
  · omega
  · omega
  rcases addE_cases n2 d2 n1 d1 with ⟨h, _⟩ | ⟨h, _⟩ | ⟨_, _, b1, b2⟩
  · omega
  · omega
  generalize addN n0 d0 n1 d1 = sN at *
  generalize addD n0 d0 n1 d1 = sD at *
  generalize addN n2 d2 n1 d1 = tN at *
  generalize addD n2 d2 n1 d1 = tD at *
  have q1 := ((right_iff _ _).1 a1).1
  have q2 := ((right_iff _ _).1 b1).1
  unfold lessB mulR
  rw [r0, r2, a1, b1]
  simp only [Bool.and_self, Bool.true_and, decide_eq_decide]
  have P : 0 < d0 * d2 * d1 * d1 := Int.mul_pos (Int.mul_pos (Int.mul_pos p0 p2) p1) p1
  have Q : 0 < sD * tD * d1 * d1 := Int.mul_pos (Int.mul_pos (Int.mul_pos q1 q2) p1) p1
  have key : (tN * sD - sN * tD) * (d0 * d2 * d1 * d1) = (n2 * d0 - n0 * d2) * (sD * tD * d1 * d1) := by grind
  constructor
  · intro h
    have : 0 < (tN * sD - sN * tD) * (d0 * d2 * d1 * d1) := Int.mul_pos (by omega) P
    rw [key] at this
    rcases Int.lt_or_le 0 (n2 * d0 - n0 * d2) with k | k
    · omega
    · have := Int.mul_nonpos_of_nonpos_of_nonneg k (Int.le_of_lt Q); omega
  · intro h
    have : 0 < (n2 * d0 - n0 * d2) * (sD * tD * d1 * d1) := Int.mul_pos (by omega) Q
    rw [← key] at this
    rcases Int.lt_or_le 0 (tN * sD - sN * tD) with k | k
    · omega
    · have := Int.mul_nonpos_of_nonpos_of_nonneg k (Int.le_of_lt P); omega

/-- one of three -/
theorem three_ways {n0 d0 n2 d2 : Int} (r0 : rightB n0 d0 = true) (r2 : rightB n2 d2 = true) :
    (lessB n0 d0 n2 d2 = false ∧ lessB n2 d2 n0 d0 = false ∧ n2 = n0 ∧ d2 = d0)
    ∨ (((lessB n0 d0 n2 d2 = true ∧ lessB n2 d2 n0 d0 = false) ∨ (lessB n0 d0 n2 d2 = false ∧ lessB n2 d2 n0 d0 = true)) ∧ ((n0 == n2) = false ∨ ((n0 == n2) = true ∧ (d0 == d2) = false))) := by
  have lx : lessB n0 d0 n2 d2 = decide (n0 * d2 < n2 * d0) := by unfold lessB mulR; rw [r0, r2]; rfl
  have ly : lessB n2 d2 n0 d0 = decide (n2 * d0 < n0 * d2) := by unfold lessB mulR; rw [r0, r2]; rfl
  have ne : n0 * d2 ≠ n2 * d0 → ((n0 == n2) = false ∨ ((n0 == n2) = true ∧ (d0 == d2) = false)) := by
    intro h
    by_cases h1 : n0 = n2
    · right
      refine ⟨by simp [h1], ?_⟩
      have : ¬ d0 = d2 := fun e => h (by rw [h1, e])
      simp [this]
    · left; simp [h1]
  rw [lx, ly]
  rcases Int.lt_trichotomy (n0 * d2) (n2 * d0) with h | h | h
  · exact .inr ⟨.inl ⟨by simpa using h, by simp; omega⟩, ne (by omega)⟩
  · obtain ⟨e1, e2⟩ := right_one r0 r2 h
    exact .inl ⟨by simp; omega, by simp; omega, e1.symm, e2.symm⟩
  · exact .inr ⟨.inr ⟨by simp; omega, by simpa using h⟩, ne (by omega)⟩


set_option maxHeartbeats 2000000 in
theorem walk (n0 d0 : Int) (hn0 : I64 n0) (hd0 : I64 d0) (n1 d1 : Int) (hn1 : I64 n1) (hd1 : I64 d1) (n2 d2 : Int) (hn2 : I64 n2) (hd2 : I64 d2) (w : World) :
    Calls Try.prog 6 #[rv n0 d0, rv n1 d1, rv n2 d2] w fun e w' => e = .returned (.bool true) ∧ Below w.heap.size w w' := by
  have f0 : Hid (∀ w, Calls Try.prog 14 #[rv n0 d0] w fun e w' => e = .returned (.bool (rightB n0 d0)) ∧ Below w.heap.size w w') := fun w => rright_any n0 d0 w hn0 hd0
  have f1 : Hid (∀ w, Calls Try.prog 14 #[rv n1 d1] w fun e w' => e = .returned (.bool (rightB n1 d1)) ∧ Below w.heap.size w w') := fun w => rright_any n1 d1 w hn1 hd1
  have f2 : Hid (∀ w, Calls Try.prog 14 #[rv n2 d2] w fun e w' => e = .returned (.bool (rightB n2 d2)) ∧ Below w.heap.size w w') := fun w => rright_any n2 d2 w hn2 hd2
  have N3 : Hid (∀ w : World, Three w n0 d0 n1 d1 n2 d2 (((w.alloc (.cells #[.int .i64 n0, .int .i64 d0] 28)).alloc (.cells #[.int .i64 n1, .int .i64 d1] 28)).alloc (.cells #[.int .i64 n2, .int .i64 d2] 28))) := fun w => three_new w _ _ _ _ _ _ _ _ _
  cases r0 : rightB n0 d0
  · rw [r0] at f0
    clear f1 f2 r0 hn0 hd0 hn1 hd1 hn2 hd2
    go_enter Try.func6, Try.ntmps6
    go_wp2_with fail
    refine (awake2_any _).mono ?_
    rintro e w1 ⟨rfl, hb⟩
    have K : Hid (Three w n0 d0 n1 d1 n2 d2 w1) := Three.below (N3.out _) hb
    clear hb N3
    obtain ⟨⟨c0a, c0b, c0c, c0d, c0e⟩, -, -, -⟩ := K.out
    go_wp2_with fail
    refine (f0.out _).mono ?_
    rintro e w2 ⟨rfl, hb⟩
    replace K : Hid (Three w n0 d0 n1 d1 n2 d2 w2) := Three.below K.out hb
    clear hb f0 c0a c0b c0c c0d c0e
    go_wp2_with fail
    refine (awake2_any _).mono ?_
    rintro e w3 ⟨rfl, hb⟩
    replace K : Hid (Three w n0 d0 n1 d1 n2 d2 w3) := Three.below K.out hb
    clear hb  
    go_wp2
    go_ret
    exact ⟨rfl, K.out.2.2.2⟩
  cases r1 : rightB n1 d1
  · rw [r0] at f0
    rw [r1] at f1
    clear f2 r0 r1 hn0 hd0 hn1 hd1 hn2 hd2
    go_enter Try.func6, Try.ntmps6
    go_wp2_with fail
    refine (awake2_any _).mono ?_
    rintro e w1 ⟨rfl, hb⟩
    have K : Hid (Three w n0 d0 n1 d1 n2 d2 w1) := Three.below (N3.out _) hb
    clear hb N3
    obtain ⟨⟨c0a, c0b, c0c, c0d, c0e⟩, -, -, -⟩ := K.out
    go_wp2_with fail
    refine (f0.out _).mono ?_
    rintro e w2 ⟨rfl, hb⟩
    replace K : Hid (Three w n0 d0 n1 d1 n2 d2 w2) := Three.below K.out hb
    clear hb f0 c0a c0b c0c c0d c0e
    obtain ⟨-, ⟨c1a, c1b, c1c, c1d, c1e⟩, -, -⟩ := K.out
    go_wp2_with fail
    refine (f1.out _).mono ?_
    rintro e w3 ⟨rfl, hb⟩
    replace K : Hid (Three w n0 d0 n1 d1 n2 d2 w3) := Three.below K.out hb
    clear hb f1 c1a c1b c1c c1d c1e
    go_wp2_with fail
    refine (awake2_any _).mono ?_
    rintro e w4 ⟨rfl, hb⟩
    replace K : Hid (Three w n0 d0 n1 d1 n2 d2 w4) := Three.below K.out hb
    clear hb  
    go_wp2
    go_ret
    exact ⟨rfl, K.out.2.2.2⟩
  cases r2 : rightB n2 d2
  · rw [r0] at f0
    rw [r1] at f1
    rw [r2] at f2
    clear r0 r1 r2 hn0 hd0 hn1 hd1 hn2 hd2
    go_enter Try.func6, Try.ntmps6
    go_wp2_with fail
    refine (awake2_any _).mono ?_
    rintro e w1 ⟨rfl, hb⟩
    have K : Hid (Three w n0 d0 n1 d1 n2 d2 w1) := Three.below (N3.out _) hb
    clear hb N3
    obtain ⟨⟨c0a, c0b, c0c, c0d, c0e⟩, -, -, -⟩ := K.out
    go_wp2_with fail
    refine (f0.out _).mono ?_
    rintro e w2 ⟨rfl, hb⟩
    replace K : Hid (Three w n0 d0 n1 d1 n2 d2 w2) := Three.below K.out hb
    clear hb f0 c0a c0b c0c c0d c0e
    obtain ⟨-, ⟨c1a, c1b, c1c, c1d, c1e⟩, -, -⟩ := K.out
    go_wp2_with fail
    refine (f1.out _).mono ?_
    rintro e w3 ⟨rfl, hb⟩
    replace K : Hid (Three w n0 d0 n1 d1 n2 d2 w3) := Three.below K.out hb
    clear hb f1 c1a c1b c1c c1d c1e
    obtain ⟨-, -, ⟨c2a, c2b, c2c, c2d, c2e⟩, -⟩ := K.out
    go_wp2_with fail
    refine (f2.out _).mono ?_
    rintro e w4 ⟨rfl, hb⟩
    replace K : Hid (Three w n0 d0 n1 d1 n2 d2 w4) := Three.below K.out hb
    clear hb f2 c2a c2b c2c c2d c2e
    go_wp2_with fail
    refine (awake2_any _).mono ?_
    rintro e w5 ⟨rfl, hb⟩
    replace K : Hid (Three w n0 d0 n1 d1 n2 d2 w5) := Three.below K.out hb
    clear hb  
    go_wp2
    go_ret
    exact ⟨rfl, K.out.2.2.2⟩
  rw [r0] at f0
  rw [r1] at f1
  rw [r2] at f2
  cases lo : (n1 == -9223372036854775808)
  case' true =>
    clear r0 r1 r2 hn0 hd0 hn1 hd1 hn2 hd2
    go_enter Try.func6, Try.ntmps6
    go_wp2_with fail
    refine (awake2_any _).mono ?_
    rintro e w1 ⟨rfl, hb⟩
    have K : Hid (Three w n0 d0 n1 d1 n2 d2 w1) := Three.below (N3.out _) hb
    clear hb N3
    obtain ⟨⟨c0a, c0b, c0c, c0d, c0e⟩, -, -, -⟩ := K.out
    go_wp2_with fail
    refine (f0.out _).mono ?_
    rintro e w2 ⟨rfl, hb⟩
    replace K : Hid (Three w n0 d0 n1 d1 n2 d2 w2) := Three.below K.out hb
    clear hb f0 c0a c0b c0c c0d c0e
    obtain ⟨-, ⟨c1a, c1b, c1c, c1d, c1e⟩, -, -⟩ := K.out
    go_wp2_with fail
    refine (f1.out _).mono ?_
    rintro e w3 ⟨rfl, hb⟩
    replace K : Hid (Three w n0 d0 n1 d1 n2 d2 w3) := Three.below K.out hb
    clear hb f1 c1a c1b c1c c1d c1e
    obtain ⟨-, -, ⟨c2a, c2b, c2c, c2d, c2e⟩, -⟩ := K.out
    go_wp2_with fail
    refine (f2.out _).mono ?_
    rintro e w4 ⟨rfl, hb⟩
    replace K : Hid (Three w n0 d0 n1 d1 n2 d2 w4) := Three.below K.out hb
    clear hb f2 c2a c2b c2c c2d c2e
    obtain ⟨-, ⟨c1a, c1b, c1c, c1d, c1e⟩, -, -⟩ := K.out
    go_wp2_with fail
    refine (awake2_any _).mono ?_
    rintro e w5 ⟨rfl, hb⟩
    replace K : Hid (Three w n0 d0 n1 d1 n2 d2 w5) := Three.below K.out hb
    clear hb c1a c1b c1c c1d c1e 
    go_wp2
    go_ret
    exact ⟨rfl, K.out.2.2.2⟩
  have lo2 : -9223372036854775807 ≤ n1 ∧ n1 ≤ 9223372036854775807 := by
    have h := hn1
    unfold I64 at h
    simp at lo
    omega
  have hm1 : I64 (-n1) := by unfold I64; omega
  have bs := add_bd n0 d0 n1 d1
  have bt := add_bd n2 d2 n1 d1
  have g1 : Hid (∀ w, Calls Try.prog 16 #[rv n0 d0, rv n1 d1] w fun e w' => e = .returned (.tuple #[rv (addN n0 d0 n1 d1) (addD n0 d0 n1 d1), .int .i64 (addE n0 d0 n1 d1)]) ∧ Below w.heap.size w w') := fun w => fadd_any _ _ _ _ w hn0 hd0 hn1 hd1
  have g2 : Hid (∀ w, Calls Try.prog 16 #[rv (addN n0 d0 n1 d1) (addD n0 d0 n1 d1), rv (-n1) d1] w fun e w' => e = .returned (.tuple #[rv (addN (addN n0 d0 n1 d1) (addD n0 d0 n1 d1) (-n1) d1) (addD (addN n0 d0 n1 d1) (addD n0 d0 n1 d1) (-n1) d1), .int .i64 (addE (addN n0 d0 n1 d1) (addD n0 d0 n1 d1) (-n1) d1)]) ∧ Below w.heap.size w w') := fun w => fadd_any _ _ _ _ w bs.1 bs.2 hm1 hd1
  have g3 : Hid (∀ w, Calls Try.prog 16 #[rv n2 d2, rv n1 d1] w fun e w' => e = .returned (.tuple #[rv (addN n2 d2 n1 d1) (addD n2 d2 n1 d1), .int .i64 (addE n2 d2 n1 d1)]) ∧ Below w.heap.size w w') := fun w => fadd_any _ _ _ _ w hn2 hd2 hn1 hd1
  have l02 : Hid (∀ w, Calls Try.prog 19 #[rv n0 d0, rv n2 d2] w fun e w' => e = .returned (.bool (lessB n0 d0 n2 d2)) ∧ Below w.heap.size w w') := fun w => less_any _ _ _ _ w hn0 hd0 hn2 hd2
  have l20 : Hid (∀ w, Calls Try.prog 19 #[rv n2 d2, rv n0 d0] w fun e w' => e = .returned (.bool (lessB n2 d2 n0 d0)) ∧ Below w.heap.size w w') := fun w => less_any _ _ _ _ w hn2 hd2 hn0 hd0
  have lst : Hid (∀ w, Calls Try.prog 19 #[rv (addN n0 d0 n1 d1) (addD n0 d0 n1 d1), rv (addN n2 d2 n1 d1) (addD n2 d2 n1 d1)] w fun e w' => e = .returned (.bool (lessB (addN n0 d0 n1 d1) (addD n0 d0 n1 d1) (addN n2 d2 n1 d1) (addD n2 d2 n1 d1))) ∧ Below w.heap.size w w') := fun w => less_any _ _ _ _ w bs.1 bs.2 bt.1 bt.2
  have F1 := @back_again n0 d0 n1 d1 r0 r1
  have F2 := @order_kept n0 d0 n1 d1 n2 d2 r0 r1 r2
  have F3 := three_ways r0 r2
  clear bs bt r0 r1 r2 hn0 hd0 hn1 hd1 hn2 hd2 hm1
  generalize addN (addN n0 d0 n1 d1) (addD n0 d0 n1 d1) (-n1) d1 = dN at *
  generalize addD (addN n0 d0 n1 d1) (addD n0 d0 n1 d1) (-n1) d1 = dD at *
  generalize addE (addN n0 d0 n1 d1) (addD n0 d0 n1 d1) (-n1) d1 = dE at *
  generalize lessB (addN n0 d0 n1 d1) (addD n0 d0 n1 d1) (addN n2 d2 n1 d1) (addD n2 d2 n1 d1) = bst at *
  generalize addN n0 d0 n1 d1 = sN at *
  generalize addD n0 d0 n1 d1 = sD at *
  generalize addE n0 d0 n1 d1 = sE at *
  generalize addN n2 d2 n1 d1 = tN at *
  generalize addD n2 d2 n1 d1 = tD at *
  generalize addE n2 d2 n1 d1 = tE at *
  have WAYS : Hid ((¬ sE = 0 ∧ (sE == 0) = false) ∨ (sE = 0 ∧ (¬ dE = 0 ∧ (dE == 0) = false) ∧ (¬ tE = 0 ∧ (tE == 0) = false)) ∨ (sE = 0 ∧ (¬ dE = 0 ∧ (dE == 0) = false) ∧ (tE = 0 ∧ lessB n0 d0 n2 d2 = bst))
      ∨ (sE = 0 ∧ (dE = 0 ∧ n0 = dN ∧ d0 = dD) ∧ (¬ tE = 0 ∧ (tE == 0) = false)) ∨ (sE = 0 ∧ (dE = 0 ∧ n0 = dN ∧ d0 = dD) ∧ (tE = 0 ∧ lessB n0 d0 n2 d2 = bst))) := by
    show _ ∨ _
    by_cases q1 : sE = 0 <;> by_cases q2 : dE = 0 <;> by_cases q3 : tE = 0 <;> simp [q1, q2, q3]
    · exact ⟨⟨(F1 q1 q2).1.symm, (F1 q1 q2).2.symm⟩, (F2 q1 q3).symm⟩
    · exact ⟨(F1 q1 q2).1.symm, (F1 q1 q2).2.symm⟩
    · exact (F2 q1 q3).symm
  clear F1 F2
  have TRI : Hid _ := F3
  clear F3
  generalize lessB n0 d0 n2 d2 = bx at *
  generalize lessB n2 d2 n0 d0 = by0 at *
  go_enter Try.func6, Try.ntmps6
  go_wp2_with fail
  refine (awake2_any _).mono ?_
  rintro e w1 ⟨rfl, hb⟩
  have K : Hid (Three w n0 d0 n1 d1 n2 d2 w1) := Three.below (N3.out _) hb
  clear hb N3
  obtain ⟨⟨c0a, c0b, c0c, c0d, c0e⟩, -, -, -⟩ := K.out
  go_wp2_with fail
  refine (f0.out _).mono ?_
  rintro e w2 ⟨rfl, hb⟩
  replace K : Hid (Three w n0 d0 n1 d1 n2 d2 w2) := Three.below K.out hb
  clear hb f0 c0a c0b c0c c0d c0e
  obtain ⟨-, ⟨c1a, c1b, c1c, c1d, c1e⟩, -, -⟩ := K.out
  go_wp2_with fail
  refine (f1.out _).mono ?_
  rintro e w3 ⟨rfl, hb⟩
  replace K : Hid (Three w n0 d0 n1 d1 n2 d2 w3) := Three.below K.out hb
  clear hb f1 c1a c1b c1c c1d c1e
  obtain ⟨-, -, ⟨c2a, c2b, c2c, c2d, c2e⟩, -⟩ := K.out
  go_wp2_with fail
  refine (f2.out _).mono ?_
  rintro e w4 ⟨rfl, hb⟩
  replace K : Hid (Three w n0 d0 n1 d1 n2 d2 w4) := Three.below K.out hb
  clear hb f2 c2a c2b c2c c2d c2e
  obtain ⟨-, ⟨c1a, c1b, c1c, c1d, c1e⟩, -, -⟩ := K.out
  go_upto_region 3 with fail
  go_cut [7, 8] from 38 to 45 (fun sp se wx => ∃ b : Nat, sp = .pointer (some ⟨b, 0, none⟩) ∧ se = .int .i64 sE ∧ Has wx b (.int .i64 sN) (.int .i64 sD) ∧ Below w4.heap.size w4 wx)
  case first =>
    go_region_held3 (fun x => (x.cell? ⟨w.heap.size, 0, none⟩ = some (.int .i64 n0) ∧ x.cell? ⟨w.heap.size, 1, none⟩ = some (.int .i64 d0) ∧ x.frozen? ⟨w.heap.size, 0, none⟩ = false ∧ x.frozen? ⟨w.heap.size, 1, none⟩ = false ∧ w.heap.size < x.heap.size) ∧
        (x.cell? ⟨w.heap.size + 1, 0, none⟩ = some (.int .i64 n1) ∧ x.cell? ⟨w.heap.size + 1, 1, none⟩ = some (.int .i64 d1) ∧ x.frozen? ⟨w.heap.size + 1, 0, none⟩ = false ∧ x.frozen? ⟨w.heap.size + 1, 1, none⟩ = false ∧ w.heap.size + 1 < x.heap.size) ∧
        (x.cell? ⟨w.heap.size + 1 + 1, 0, none⟩ = some (.int .i64 n2) ∧ x.cell? ⟨w.heap.size + 1 + 1, 1, none⟩ = some (.int .i64 d2) ∧ x.frozen? ⟨w.heap.size + 1 + 1, 0, none⟩ = false ∧ x.frozen? ⟨w.heap.size + 1 + 1, 1, none⟩ = false ∧ w.heap.size + 1 + 1 < x.heap.size) ∧ Below w.heap.size w x)
      ((show Three w n0 d0 n1 d1 n2 d2 _; refine Three.below K.out ?_; (repeat (first | with_reducible exact BB.out | with_reducible exact Below.refl _ _ | with_reducible refine Below.drew ?_ | with_reducible refine Below.alloc ?_ ?_ _ | with_reducible refine Below.setCell ?_ ?_ _ | omega | (simp <;> omega)))))
      (first
        | (go_at_call 17; first | with_reducible refine (of_any n0 d0 _).mono ?_ | with_reducible refine (of_any n1 d1 _).mono ?_ | with_reducible refine (of_any n2 d2 _).mono ?_
           rintro e x ⟨rfl, hb⟩
           have BB : Hid (Below w4.heap.size w4 x) := by
             refine below_trans (a := w4) ?_ hb
             (repeat (first | with_reducible exact BB.out | with_reducible exact Below.refl _ _ | with_reducible refine Below.drew ?_ | with_reducible refine Below.alloc ?_ ?_ _ | with_reducible refine Below.setCell ?_ ?_ _ | omega | (simp <;> omega)))
           have LL : w4.heap.size ≤ x.heap.size := BB.out.size
           first
             | (with_reducible have NN := Has.below (has_newd _ _ _ _) hb)
             | (with_reducible have NN := Has.below (has_new _ _ _ _) hb)
             | (with_reducible have NN := Has.below NN hb)
             | skip
           try (have NX := NN; obtain ⟨m0, m1, m2, m3, m4⟩ := NX)
           clear hb)
        | (go_at_call 16; first | with_reducible refine (g1.out _).mono ?_
           rintro e x ⟨rfl, hb⟩
           have BB : Hid (Below w4.heap.size w4 x) := by
             refine below_trans (a := w4) ?_ hb
             (repeat (first | with_reducible exact BB.out | with_reducible exact Below.refl _ _ | with_reducible refine Below.drew ?_ | with_reducible refine Below.alloc ?_ ?_ _ | with_reducible refine Below.setCell ?_ ?_ _ | omega | (simp <;> omega)))
           have LL : w4.heap.size ≤ x.heap.size := BB.out.size
           first
             | (with_reducible have NN := Has.below (has_newd _ _ _ _) hb)
             | (with_reducible have NN := Has.below (has_new _ _ _ _) hb)
             | (with_reducible have NN := Has.below NN hb)
             | skip
           try (have NX := NN; obtain ⟨m0, m1, m2, m3, m4⟩ := NX)
           clear hb))
    all_goals
      go_wp2_with fail
      go_meet
      refine ⟨_, rfl, rfl, ?_, ?_⟩
      · first
          | ((with_reducible refine has_lit _ _ _ ?_); first | rfl | simp)
          | (with_reducible refine Has.setOwn (a := .int .i64 0) (b := .int .i64 0) ?_; exact NN)
      · (repeat (first | with_reducible exact BB.out | with_reducible exact Below.refl _ _ | with_reducible refine Below.drew ?_ | with_reducible refine Below.alloc ?_ ?_ _ | with_reducible refine Below.setCell ?_ ?_ _ | omega | (simp <;> omega)))
  obtain ⟨bs, rfl, rfl, hH, hB⟩ := hcut
  have Hbs : Hid (Has wc bs (.int .i64 sN) (.int .i64 sD)) := hH
  replace K : Hid (Three w n0 d0 n1 d1 n2 d2 wc) := Three.below K.out hB
  clear hH hB g1 c1a c1b c1c c1d c1e
  obtain ⟨p0, p1, p2, p3, p4⟩ := Hbs.out
  obtain ⟨-, ⟨c1a, c1b, c1c, c1d, c1e⟩, -, -⟩ := K.out
  go_wp2_with fail
  refine (g2.out _).mono ?_
  rintro e w5 ⟨rfl, hb⟩
  replace K : Hid (Three w n0 d0 n1 d1 n2 d2 w5) := Three.below K.out hb
  replace Hbs : Hid (Has w5 bs (.int .i64 sN) (.int .i64 sD)) := Has.below Hbs.out hb
  clear hb g2 p0 p1 p2 p3 p4 c1a c1b c1c c1d c1e
  go_wp2_with fail
  have Hd : Hid (Has (w5.alloc (.cells #[.int .i64 dN, .int .i64 dD] 24)) w5.heap.size (.int .i64 dN) (.int .i64 dD)) := has_new _ _ _ _
  replace K : Hid (Three w n0 d0 n1 d1 n2 d2 (w5.alloc (.cells #[.int .i64 dN, .int .i64 dD] 24))) := Three.alloc K.out _
  replace Hbs : Hid (Has (w5.alloc (.cells #[.int .i64 dN, .int .i64 dD] 24)) bs (.int .i64 sN) (.int .i64 sD)) := Has.alloc Hbs.out _
  generalize w5.alloc (.cells #[.int .i64 dN, .int .i64 dD] 24) = w6 at *
  go_upto_region 5 with fail
  go_cut [11, 12] from 57 to 64 (fun sp se wx => ∃ b : Nat, sp = .pointer (some ⟨b, 0, none⟩) ∧ se = .int .i64 tE ∧ Has wx b (.int .i64 tN) (.int .i64 tD) ∧ Below w6.heap.size w6 wx)
  case first =>
    go_region_held3 (fun x => (x.cell? ⟨w.heap.size, 0, none⟩ = some (.int .i64 n0) ∧ x.cell? ⟨w.heap.size, 1, none⟩ = some (.int .i64 d0) ∧ x.frozen? ⟨w.heap.size, 0, none⟩ = false ∧ x.frozen? ⟨w.heap.size, 1, none⟩ = false ∧ w.heap.size < x.heap.size) ∧
        (x.cell? ⟨w.heap.size + 1, 0, none⟩ = some (.int .i64 n1) ∧ x.cell? ⟨w.heap.size + 1, 1, none⟩ = some (.int .i64 d1) ∧ x.frozen? ⟨w.heap.size + 1, 0, none⟩ = false ∧ x.frozen? ⟨w.heap.size + 1, 1, none⟩ = false ∧ w.heap.size + 1 < x.heap.size) ∧
        (x.cell? ⟨w.heap.size + 1 + 1, 0, none⟩ = some (.int .i64 n2) ∧ x.cell? ⟨w.heap.size + 1 + 1, 1, none⟩ = some (.int .i64 d2) ∧ x.frozen? ⟨w.heap.size + 1 + 1, 0, none⟩ = false ∧ x.frozen? ⟨w.heap.size + 1 + 1, 1, none⟩ = false ∧ w.heap.size + 1 + 1 < x.heap.size) ∧ Below w.heap.size w x)
      ((show Three w n0 d0 n1 d1 n2 d2 _; refine Three.below K.out ?_; (repeat (first | with_reducible exact BB.out | with_reducible exact Below.refl _ _ | with_reducible refine Below.drew ?_ | with_reducible refine Below.alloc ?_ ?_ _ | with_reducible refine Below.setCell ?_ ?_ _ | omega | (simp <;> omega)))))
      (first
        | (go_at_call 17; first | with_reducible refine (of_any n0 d0 _).mono ?_ | with_reducible refine (of_any n1 d1 _).mono ?_ | with_reducible refine (of_any n2 d2 _).mono ?_
           rintro e x ⟨rfl, hb⟩
           have BB : Hid (Below w6.heap.size w6 x) := by
             refine below_trans (a := w6) ?_ hb
             (repeat (first | with_reducible exact BB.out | with_reducible exact Below.refl _ _ | with_reducible refine Below.drew ?_ | with_reducible refine Below.alloc ?_ ?_ _ | with_reducible refine Below.setCell ?_ ?_ _ | omega | (simp <;> omega)))
           have LL : w6.heap.size ≤ x.heap.size := BB.out.size
           first
             | (with_reducible have NN := Has.below (has_newd _ _ _ _) hb)
             | (with_reducible have NN := Has.below (has_new _ _ _ _) hb)
             | (with_reducible have NN := Has.below NN hb)
             | skip
           try (have NX := NN; obtain ⟨m0, m1, m2, m3, m4⟩ := NX)
           clear hb)
        | (go_at_call 16; first | with_reducible refine (g3.out _).mono ?_
           rintro e x ⟨rfl, hb⟩
           have BB : Hid (Below w6.heap.size w6 x) := by
             refine below_trans (a := w6) ?_ hb
             (repeat (first | with_reducible exact BB.out | with_reducible exact Below.refl _ _ | with_reducible refine Below.drew ?_ | with_reducible refine Below.alloc ?_ ?_ _ | with_reducible refine Below.setCell ?_ ?_ _ | omega | (simp <;> omega)))
           have LL : w6.heap.size ≤ x.heap.size := BB.out.size
           first
             | (with_reducible have NN := Has.below (has_newd _ _ _ _) hb)
             | (with_reducible have NN := Has.below (has_new _ _ _ _) hb)
             | (with_reducible have NN := Has.below NN hb)
             | skip
           try (have NX := NN; obtain ⟨m0, m1, m2, m3, m4⟩ := NX)
           clear hb))
    all_goals
      go_wp2_with fail
      go_meet
      refine ⟨_, rfl, rfl, ?_, ?_⟩
      · first
          | ((with_reducible refine has_lit _ _ _ ?_); first | rfl | simp)
          | (with_reducible refine Has.setOwn (a := .int .i64 0) (b := .int .i64 0) ?_; exact NN)
      · (repeat (first | with_reducible exact BB.out | with_reducible exact Below.refl _ _ | with_reducible refine Below.drew ?_ | with_reducible refine Below.alloc ?_ ?_ _ | with_reducible refine Below.setCell ?_ ?_ _ | omega | (simp <;> omega)))
  obtain ⟨bt, rfl, rfl, hH, hB⟩ := hcut
  have Hbt : Hid (Has wc bt (.int .i64 tN) (.int .i64 tD)) := hH
  replace K : Hid (Three w n0 d0 n1 d1 n2 d2 wc) := Three.below K.out hB
  replace Hbs : Hid (Has wc bs (.int .i64 sN) (.int .i64 sD)) := Has.below Hbs.out hB
  replace Hd : Hid (Has wc w5.heap.size (.int .i64 dN) (.int .i64 dD)) := Has.below Hd.out hB
  clear hH hB g3
  rcases WAYS.out with ⟨q1, q2⟩ | ⟨rfl, ⟨q1, q2⟩, q3, q4⟩ | ⟨rfl, ⟨q1, q2⟩, rfl, rfl⟩ | ⟨rfl, ⟨rfl, rfl, rfl⟩, q3, q4⟩ | ⟨rfl, ⟨rfl, rfl, rfl⟩, rfl, rfl⟩
  all_goals
    clear WAYS
    go_wp2_with fail
    obtain ⟨⟨c0a, c0b, c0c, c0d, c0e⟩, -, -, -⟩ := K.out
    have kc0a := cell_regrown c0a
    have kc0b := cell_regrown c0b
    clear c0a c0b c0c c0d c0e
    have ke0a := cell_regrown Hd.out.1
    have ke0b := cell_regrown Hd.out.2.1
    refine wp_region_quiet_below (by kernel_rfl) (by kernel_rfl) ?_
    repeat (go_big_quiet_step (first
      | (go_at_call 17; first | with_reducible exact Calls.regrown_of (of_any n0 d0 _))))
    refine wpQuiet_nil ?_
    intro _ hw'
    obtain ⟨⟨dq, osq⟩, hw''⟩ := hw'
    subst hw''
    clear kc0a kc0b ke0a ke0b Hd
    have hb := below_regrown wc dq osq
    replace K : Hid (Three w n0 d0 n1 d1 n2 d2 (Sort.grow (redrawn wc dq) osq)) := Three.below K.out hb
    replace Hbs : Hid (Has (Sort.grow (redrawn wc dq) osq) bs (.int .i64 sN) (.int .i64 sD)) := Has.below Hbs.out hb
    replace Hbt : Hid (Has (Sort.grow (redrawn wc dq) osq) bt (.int .i64 tN) (.int .i64 tD)) := Has.below Hbt.out hb
    clear hb
    generalize Sort.grow (redrawn wc dq) osq = w7 at *
    cases bx
    all_goals
      go_wp2_with fail
      obtain ⟨⟨c0a, c0b, c0c, c0d, c0e⟩, -, ⟨c2a, c2b, c2c, c2d, c2e⟩, -⟩ := K.out
      have kc0a := cell_regrown c0a
      have kc0b := cell_regrown c0b
      have kc2a := cell_regrown c2a
      have kc2b := cell_regrown c2b
      clear c0a c0b c0c c0d c0e c2a c2b c2c c2d c2e
      have ke0a := cell_regrown Hbs.out.1
      have ke0b := cell_regrown Hbs.out.2.1
      have ke1a := cell_regrown Hbt.out.1
      have ke1b := cell_regrown Hbt.out.2.1
      refine wp_region_quiet_below (by kernel_rfl) (by kernel_rfl) ?_
      repeat (go_big_quiet_step (first
        | (go_at_call 17; first | with_reducible exact Calls.regrown_of (of_any n0 d0 _) | with_reducible exact Calls.regrown_of (of_any n2 d2 _))
        | (go_at_call 19; first | with_reducible exact Calls.regrown_of (l02.out _) | with_reducible exact Calls.regrown_of (lst.out _))))
      refine wpQuiet_nil ?_
      intro _ hw'
      obtain ⟨⟨dq, osq⟩, hw''⟩ := hw'
      subst hw''
      clear kc0a kc0b kc2a kc2b ke0a ke0b ke1a ke1b Hbs Hbt lst
      have hb := below_regrown w7 dq osq
      replace K : Hid (Three w n0 d0 n1 d1 n2 d2 (Sort.grow (redrawn w7 dq) osq)) := Three.below K.out hb
      clear hb
      generalize Sort.grow (redrawn w7 dq) osq = w8 at *
      go_wp2_with fail
      obtain ⟨⟨c0a, c0b, c0c, c0d, c0e⟩, -, ⟨c2a, c2b, c2c, c2d, c2e⟩, -⟩ := K.out
      have kc0a := cell_regrown c0a
      have kc0b := cell_regrown c0b
      have kc2a := cell_regrown c2a
      have kc2b := cell_regrown c2b
      clear c0a c0b c0c c0d c0e c2a c2b c2c c2d c2e
      refine wp_region_quiet_below (by kernel_rfl) (by kernel_rfl) ?_
      repeat (go_big_quiet_step (first
        | (go_at_call 17; first | with_reducible exact Calls.regrown_of (of_any n0 d0 _) | with_reducible exact Calls.regrown_of (of_any n2 d2 _))
        | (go_at_call 19; first | with_reducible exact Calls.regrown_of (l02.out _) | with_reducible exact Calls.regrown_of (l20.out _))))
      refine wpQuiet_nil ?_
      intro _ hw'
      obtain ⟨⟨dq, osq⟩, hw''⟩ := hw'
      subst hw''
      clear kc0a kc0b kc2a kc2b l02 l20
      have hb := below_regrown w8 dq osq
      replace K : Hid (Three w n0 d0 n1 d1 n2 d2 (Sort.grow (redrawn w8 dq) osq)) := Three.below K.out hb
      clear hb
      generalize Sort.grow (redrawn w8 dq) osq = w9 at *
      obtain ⟨⟨c0a, c0b, c0c, c0d, c0e⟩, -, ⟨c2a, c2b, c2c, c2d, c2e⟩, -⟩ := K.out
      have WW : Hid (Below w.heap.size w w9) := K.out.2.2.2
      clear K
      rcases TRI.out with ⟨t1, rfl, rfl, rfl⟩ | ⟨⟨t1, rfl⟩ | ⟨t1, rfl⟩, t2 | ⟨t2, t3⟩⟩
      all_goals try (cases t1; done)
      all_goals
        clear TRI t1
        go_wp2
        go_ret
        exact ⟨rfl, WW.out⟩

set_option maxRecDepth 100000 in
theorem lifted (os : Os) (started : os.Started) (H : Type) (enc : TypeId × Value → H) :
    ReturnsInHanded {} Try.checked os 6 .any (Rows.ratioBackSpec.pre6 enc Try.prog Try.f6 Rows.ratioBackRow.domain false) (Rows.ratioBackSpec.post enc Try.prog Try.f6 false true false false) := by
  refine returnsInHanded_of_change (C := Try.checked) own started (by kernel_rfl) Try.func6
    (ChangeSpec.witness6 (enc := enc) (C := Try.checked) false ⟨#[], #[.agg #[.int .i64 0, .int .i64 0], .agg #[.int .i64 0, .int .i64 0], .agg #[.int .i64 0, .int .i64 0]], []⟩ 8 (by kernel_rfl) (by kernel_rfl) (by kernel_rfl) (by kernel_rfl)) ?_
  intro W base args ds gs before hval0 hW hcnd _
  have hval : ∀ (j : Nat) t v, Try.f6.params[j]? = some t → args[j]? = some v → Value.okWide Try.prog W .any base t v := hval0
  have hW' := hW
  obtain ⟨p, q, hA0, hV, rfl, hfz, hnd⟩ := hW
  have hA : DataW.TrodAll enc Try.prog W 0 (fun _ => true) true Try.f6.params.toList args.toList ds p := hA0
  rw [Try.params6] at hA hval
  obtain ⟨v0, vs0, dd0, ds0, p0, q0, hargs, rfl, rfl, hh0, r0⟩ := trodAll_cons hA
  obtain ⟨v1, vs1, dd1, ds1, p1, q1, rfl, rfl, rfl, hh1, r1⟩ := trodAll_cons r0
  obtain ⟨v2, vs2, dd2, ds2, p2, q2, rfl, rfl, rfl, hh2, r2⟩ := trodAll_cons r1
  obtain ⟨rfl, rfl, rfl⟩ := trodAll_nil r2
  obtain rfl : args = #[v0, v1, v2] := by cases args; simp_all
  obtain ⟨rfl, rfl⟩ := trodVars_none hV
  obtain ⟨c0, e0, y0, z0, m0, rfl, rfl, rfl, hy0, hz0⟩ := open_agg2 Try.underlying28 (by kernel_rfl) cells28 (hval 0 28 v0 rfl rfl) hh0
  obtain ⟨n0, k0, rfl, w0⟩ := DataW.trod_int Try.underlying2 hy0
  obtain ⟨d0, l0, rfl, x0⟩ := DataW.trod_int Try.underlying2 hz0
  simp at k0 l0
  subst k0 l0
  obtain ⟨c1, e1, y1, z1, m1, rfl, rfl, rfl, hy1, hz1⟩ := open_agg2 Try.underlying28 (by kernel_rfl) cells28 (hval 1 28 v1 rfl rfl) hh1
  obtain ⟨n1, k1, rfl, w1⟩ := DataW.trod_int Try.underlying2 hy1
  obtain ⟨d1, l1, rfl, x1⟩ := DataW.trod_int Try.underlying2 hz1
  simp at k1 l1
  subst k1 l1
  obtain ⟨c2, e2, y2, z2, m2, rfl, rfl, rfl, hy2, hz2⟩ := open_agg2 Try.underlying28 (by kernel_rfl) cells28 (hval 2 28 v2 rfl rfl) hh2
  obtain ⟨n2, k2, rfl, w2⟩ := DataW.trod_int Try.underlying2 hy2
  obtain ⟨d2, l2, rfl, x2⟩ := DataW.trod_int Try.underlying2 hz2
  simp at k2 l2
  subst k2 l2
  clear hA0 hval0
  have sr0 : ∀ (W' : World) (sp : Nat → Bool), DataW.Trod enc Try.prog W' 0 sp true 28 (.agg #[.int .i64 n0, .int .i64 d0]) (.agg [.lit (.int .i64 n0), .lit (.int .i64 d0)]) [] := fun W' sp =>
    shut_agg2 (y0 := (.lit (.int .i64 n0), [])) (y1 := (.lit (.int .i64 d0), [])) Try.underlying28 (by kernel_rfl) cells28 ⟨1, by simp [DataW.trod, Try.underlying2, w0]⟩ ⟨1, by simp [DataW.trod, Try.underlying2, x0]⟩
  have sr1 : ∀ (W' : World) (sp : Nat → Bool), DataW.Trod enc Try.prog W' 0 sp true 28 (.agg #[.int .i64 n1, .int .i64 d1]) (.agg [.lit (.int .i64 n1), .lit (.int .i64 d1)]) [] := fun W' sp =>
    shut_agg2 (y0 := (.lit (.int .i64 n1), [])) (y1 := (.lit (.int .i64 d1), [])) Try.underlying28 (by kernel_rfl) cells28 ⟨1, by simp [DataW.trod, Try.underlying2, w1]⟩ ⟨1, by simp [DataW.trod, Try.underlying2, x1]⟩
  have sr2 : ∀ (W' : World) (sp : Nat → Bool), DataW.Trod enc Try.prog W' 0 sp true 28 (.agg #[.int .i64 n2, .int .i64 d2]) (.agg [.lit (.int .i64 n2), .lit (.int .i64 d2)]) [] := fun W' sp =>
    shut_agg2 (y0 := (.lit (.int .i64 n2), [])) (y1 := (.lit (.int .i64 d2), [])) Try.underlying28 (by kernel_rfl) cells28 ⟨1, by simp [DataW.trod, Try.underlying2, w2]⟩ ⟨1, by simp [DataW.trod, Try.underlying2, x2]⟩
  refine (walk n0 d0 (bounds_i64 w0) (bounds_i64 x0) n1 d1 (bounds_i64 w1) (bounds_i64 x1) n2 d2 (bounds_i64 w2) (bounds_i64 x2) W).mono fun e W' ⟨he, bel⟩ => ?_
  subst he
  exact ⟨_, rfl, _, _, _, [], _, [], hW', trodAll_mk1 (shut_bool Try.underlying4 _), (trodAll_cons_mk (sr0 _ _) (trodAll_cons_mk (sr1 _ _) (trodAll_cons_mk (sr2 _ _) trodAll_mk0))), rfl, bel.frame _, fun h => by cases h⟩

theorem over : Rows.ratioBackRow.holds Try.pinned (OpenSpec.ofChange Rows.ratioBackSpec) :=
  OpenClaim.holds_of_wide 6 Try.f6 rfl rfl rfl rfl rfl rfl rfl ⟨rfl, rfl, rfl, rfl, rfl⟩ rfl rfl rfl rfl rfl (by kernel_rfl) Try.func6 (by kernel_rfl)
    (of_decide_eq_true (by kernel_rfl)) (by unfold Func.isWrapper; first | (rw [if_pos (by decide +kernel)]; kernel_rfl) | (rw [if_neg (by decide +kernel)]; exact ⟨rfl, rfl⟩))
    (fun os started H enc _ => lifted os started H enc)

/-- THE STATEMENT -/
theorem proved : Rows.RatioBackSaid :=
  over
#print axioms proved
end Go.Proofs.Ytlhjhefbindlkaa.ratioBack
