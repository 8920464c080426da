/-
  What a conversion is, plainly: so much times P over Q, and R over Q; there and back, over a third unit, order. No conditions but those that each says.
-/
import Derived.Test.YtbojdlagacanoaaUnConvK
namespace Go.Proofs.Ytbojdlagacanoaa
open Go.RowKit
set_option linter.unusedVariables false

def cP (u v : U) : Int := u.fn * u.od * v.od * v.fd
def cQ (u v : U) : Int := u.fd * u.od * v.od * v.fn
def cR (u v : U) : Int := u.fd * v.fd * (u.on * v.od - v.on * u.od)

theorem cP_pos {u v : U} (ou : OkU u) (ov : OkU v) : 0 < cP u v := Int.mul_pos (Int.mul_pos (Int.mul_pos ou.fn0 ou.od0) ov.od0) ov.fd0
theorem cQ_pos {u v : U} (ou : OkU u) (ov : OkU v) : 0 < cQ u v := Int.mul_pos (Int.mul_pos (Int.mul_pos ou.fd0 ou.od0) ov.od0) ov.fn0

theorem ex_mul {N B A D N' a b D' : Int} (hD : 0 < D) (h : N * B = A * D) (k : N' * (D * b) = N * a * D') : N' * (B * b) = A * a * D' := by
  refine Int.eq_of_mul_eq_mul_right (a := D) (by omega) ?_
  have e1 : N' * (B * b) * D = N' * (D * b) * B := by grind
  have e2 : A * a * D' * D = A * D * (a * D') := by grind
  rw [e1, e2, k, ← h]
  grind
theorem ex_add {N B A D N' a b D' : Int} (hD : 0 < D) (h : N * B = A * D) (k : N' * (D * b) = (N * b + a * D) * D') : N' * (B * b) = (A * b + a * B) * D' := by
  refine Int.eq_of_mul_eq_mul_right (a := D) (by omega) ?_
  have e1 : N' * (B * b) * D = N' * (D * b) * B := by grind
  have e2 : (A * b + a * B) * D' * D = (A * D * b + a * D * B) * D' := by grind
  rw [e1, e2, k, ← h]
  grind

theorem right_pos {n d : Int} (h : rightB n d = true) : 0 < d := ((right_iff _ _).1 h).1
theorem mulR_of {a b c d : Int} (h : rightB a b = true) (k : rightB c d = true) : mulR a b c d = true := by unfold mulR; rw [h, k]; rfl

/-- how a product of right fractions comes out -/
theorem stM_ways {n d a b : Int} (h : rightB n d = true) (k : rightB a b = true) :
    (mulE n d a b = 0 ∧ rightB (mulN n d a b) (mulD n d a b) = true ∧ mulN n d a b * (d * b) = n * a * mulD n d a b) ∨ (mulE n d a b = 2 ∧ mulN n d a b = 0 ∧ mulD n d a b = 0) := by
  have hr := mulR_of h k
  rcases mulE_ways n d a b with ⟨_, h2, _⟩ | ⟨h1, _, h3, h4⟩ | ⟨h1, _, h3, h4⟩
  · rw [hr] at h2; cases h2
  · exact .inr ⟨h1, h3, h4⟩
  · exact .inl ⟨h1, h3, h4⟩
theorem stA_ways {n d a b : Int} (h : rightB n d = true) (k : rightB a b = true) :
    (addE n d a b = 0 ∧ rightB (addN n d a b) (addD n d a b) = true ∧ addN n d a b * (d * b) = (n * b + a * d) * addD n d a b) ∨ (addE n d a b = 2 ∧ addN n d a b = 0 ∧ addD n d a b = 0) := by
  have hr := mulR_of h k
  rcases addE_cases n d a b with ⟨_, h2, _⟩ | ⟨h1, _, h3, h4⟩ | ⟨h1, _, h3, h4⟩
  · rw [hr] at h2; cases h2
  · exact .inr ⟨h1, h3, h4⟩
  · exact .inl ⟨h1, h3, h4⟩

/-- the four steps, of a right fraction, over the table's units -/
theorem chain_ways {n d : Int} {u v : U} (h : rightB n d = true) (ou : OkU u) (ov : OkU v) :
    chainT n d u v = (0, 0, 2) ∨ (∃ N D, chainT n d u v = (N, D, 0) ∧ rightB N D = true ∧ N * (d * cQ u v) = (n * cP u v + d * cR u v) * D) := by
  have hd := right_pos h
  unfold chainT
  simp only [restT, stM_go]
  rcases stM_ways h ou.rf with ⟨e1, r1, x1⟩ | ⟨e1, n1, d1⟩
  · rw [e1]
    simp only [stA_go]
    rcases stA_ways r1 ou.ro with ⟨e2, r2, x2⟩ | ⟨e2, n2, d2⟩
    · rw [e2]
      simp only [stA_go]
      rcases stA_ways r2 ov.rn with ⟨e3, r3, x3⟩ | ⟨e3, n3, d3⟩
      · rw [e3]
        simp only [stM_go]
        rcases stM_ways r3 ov.rb with ⟨e4, r4, x4⟩ | ⟨e4, n4, d4⟩
        · rw [e4]
          refine .inr ⟨_, _, rfl, r4, ?_⟩
          have z1 := right_pos r1
          have z2 := right_pos r2
          have z3 := right_pos r3
          have y2 := ex_add z1 x1 x2
          have y3 := ex_add z2 y2 x3
          have y4 := ex_mul z3 y3 x4
          unfold cQ cP cR
          generalize mulN (addN (addN (mulN n d u.fn u.fd) (mulD n d u.fn u.fd) u.on u.od) (addD (mulN n d u.fn u.fd) (mulD n d u.fn u.fd) u.on u.od) (-v.on) v.od) (addD (addN (mulN n d u.fn u.fd) (mulD n d u.fn u.fd) u.on u.od) (addD (mulN n d u.fn u.fd) (mulD n d u.fn u.fd) u.on u.od) (-v.on) v.od) v.fd v.fn = X at *
          generalize mulD (addN (addN (mulN n d u.fn u.fd) (mulD n d u.fn u.fd) u.on u.od) (addD (mulN n d u.fn u.fd) (mulD n d u.fn u.fd) u.on u.od) (-v.on) v.od) (addD (addN (mulN n d u.fn u.fd) (mulD n d u.fn u.fd) u.on u.od) (addD (mulN n d u.fn u.fd) (mulD n d u.fn u.fd) u.on u.od) (-v.on) v.od) v.fd v.fn = Y at *
          clear x1 x2 x3 x4 y2 y3 z1 z2 z3 e1 e2 e3 e4 r1 r2 r3 r4
          have l : X * (d * (u.fd * u.od * v.od * v.fn)) = X * (d * u.fd * u.od * v.od * v.fn) := by grind
          rw [l, y4]
          grind
        · rw [e4, n4, d4]; exact .inl rfl
      · rw [e3, n3, d3, stM_fail (x := 0) (y := 0) (e := 2) (by decide)]; exact .inl rfl
    · rw [e2, n2, d2, stA_fail (x := 0) (y := 0) (e := 2) (by decide), stM_fail (x := 0) (y := 0) (e := 2) (by decide)]; exact .inl rfl
  · rw [e1, n1, d1, stA_fail (x := 0) (y := 0) (e := 2) (by decide), stA_fail (x := 0) (y := 0) (e := 2) (by decide), stM_fail (x := 0) (y := 0) (e := 2) (by decide)]; exact .inl rfl

/-- what is answered of a right fraction -/
theorem cv_ways {n d : Int} (a b : ByteArray) (h : rightB n d = true) :
    (cvT n d a b = (0, 0, 4) ∧ (isU a && isU b) = false) ∨ (cvT n d a b = (0, 0, 5) ∧ isU a = true ∧ isU b = true ∧ dimB (atU a) (atU b) = false)
    ∨ (isU a = true ∧ isU b = true ∧ dimB (atU a) (atU b) = true ∧ (cvT n d a b = (0, 0, 2) ∨ ∃ N D, cvT n d a b = (N, D, 0) ∧ rightB N D = true ∧ N * (d * cQ (atU a) (atU b)) = (n * cP (atU a) (atU b) + d * cR (atU a) (atU b)) * D)) := by
  unfold cvT
  cases p : isU a
  · exact .inl ⟨rfl, rfl⟩
  cases q : isU b
  · exact .inl ⟨rfl, rfl⟩
  cases dd : dimB (atU a) (atU b)
  · exact .inr (.inl ⟨rfl, rfl, rfl, rfl⟩)
  refine .inr (.inr ⟨rfl, rfl, rfl, ?_⟩)
  rw [if_neg (by simp), if_neg (by simp), if_neg (by simp [h])]
  by_cases e : a = b
  · subst e
    rw [if_pos rfl]
    refine .inr ⟨n, d, rfl, h, ?_⟩
    unfold cQ cP cR
    grind
  · rw [if_neg e]
    exact chain_ways h (OkU.of (okU_at p)) (OkU.of (okU_at q))

/-- there and back -/
theorem back_one {n d X Y N D : Int} {u v : U} (ou : OkU u) (ov : OkU v) (h : rightB n d = true) (k : rightB X Y = true) (l : rightB N D = true)
    (x : X * (d * cQ u v) = (n * cP u v + d * cR u v) * Y) (y : N * (Y * cQ v u) = (X * cP v u + Y * cR v u) * D) : N = n ∧ D = d := by
  have e1 : cQ v u = cP u v := by unfold cQ cP; grind
  have e2 : cP v u = cQ u v := by unfold cQ cP; grind
  have e3 : cR v u = -cR u v := by unfold cR; grind
  rw [e1, e2, e3] at y
  have p := cP_pos ou ov
  have hY := right_pos k
  refine right_one l h ?_
  generalize cP u v = P at *
  generalize cQ u v = Q at *
  generalize cR u v = R at *
  refine Int.eq_of_mul_eq_mul_right (a := Y * P) (by have := Int.mul_pos hY p; omega) ?_
  have s1 : N * d * (Y * P) = N * (Y * P) * d := by grind
  have s2 : n * D * (Y * P) = (X * (d * Q) - Y * R * d) * D := by rw [x]; grind
  rw [s1, s2, y]
  grind

/-- over a third unit -/
theorem third_one {n d X Y N D M E : Int} {u v t : U} (ou : OkU u) (ov : OkU v) (ot : OkU t) (h : rightB n d = true) (k : rightB X Y = true) (l : rightB N D = true) (m : rightB M E = true)
    (x : X * (d * cQ u v) = (n * cP u v + d * cR u v) * Y) (y : N * (Y * cQ v t) = (X * cP v t + Y * cR v t) * D) (z : M * (d * cQ u t) = (n * cP u t + d * cR u t) * E) : N = M ∧ D = E := by
  refine right_one l m ?_
  have hd := right_pos h
  have hY := right_pos k
  have K0 : 0 < v.fn * v.fd * (v.od * v.od) := Int.mul_pos (Int.mul_pos ov.fn0 ov.fd0) (Int.mul_pos ov.od0 ov.od0)
  have q0 := cQ_pos ou ot
  have f1 : cQ u v * cQ v t = cQ u t * (v.fn * v.fd * (v.od * v.od)) := by unfold cQ; grind
  have f2 : cP u v * cP v t = cP u t * (v.fn * v.fd * (v.od * v.od)) := by unfold cP; grind
  have f3 : cR u v * cP v t + cQ u v * cR v t = cR u t * (v.fn * v.fd * (v.od * v.od)) := by unfold cR cP cQ; grind
  generalize v.fn * v.fd * (v.od * v.od) = K at *
  generalize cQ u v = Q1 at *
  generalize cQ v t = Q2 at *
  generalize cQ u t = Q3 at *
  generalize cP u v = P1 at *
  generalize cP v t = P2 at *
  generalize cP u t = P3 at *
  generalize cR u v = R1 at *
  generalize cR v t = R2 at *
  generalize cR u t = R3 at *
  -- the way over the third unit, in one step
  have s : N * (d * Q3) = (n * P3 + d * R3) * D := by
    refine Int.eq_of_mul_eq_mul_right (a := Y * K) (by have := Int.mul_pos hY K0; omega) ?_
    have a1 : N * (d * Q3) * (Y * K) = N * (Y * Q2) * (d * Q1) := by
      have : Q3 * K = Q1 * Q2 := f1.symm
      grind
    have a2 : (X * P2 + Y * R2) * D * (d * Q1) = (X * (d * Q1) * P2 + Y * R2 * (d * Q1)) * D := by grind
    have a3 : (n * P3 + d * R3) * D * (Y * K) = (n * (P3 * K) + d * (R3 * K)) * D * Y := by grind
    rw [a1, y, a2, x, a3, ← f2, ← f3]
    grind
  refine Int.eq_of_mul_eq_mul_right (a := d * Q3) (by have := Int.mul_pos hd q0; omega) ?_
  have b1 : N * E * (d * Q3) = N * (d * Q3) * E := by grind
  have b2 : M * D * (d * Q3) = M * (d * Q3) * D := by grind
  rw [b1, b2, s, z]
  grind

/-- order is kept -/
theorem order_kept {n d m e X Y Z W : Int} {u v : U} (ou : OkU u) (ov : OkU v) (h : rightB n d = true) (k : rightB m e = true) (hX : rightB X Y = true) (hZ : rightB Z W = true)
    (x : X * (d * cQ u v) = (n * cP u v + d * cR u v) * Y) (z : Z * (e * cQ u v) = (m * cP u v + e * cR u v) * W) : lessB n d m e = lessB X Y Z W := by
  unfold lessB
  rw [mulR_of h k, mulR_of hX hZ]
  have hd := right_pos h
  have he := right_pos k
  have hY := right_pos hX
  have hW := right_pos hZ
  have p := cP_pos ou ov
  have q := cQ_pos ou ov
  generalize cP u v = P at *
  generalize cQ u v = Q at *
  generalize cR u v = R at *
  have c : 0 < d * e * Q := Int.mul_pos (Int.mul_pos hd he) q
  have g : 0 < Y * W * P := Int.mul_pos (Int.mul_pos hY hW) p
  have key : (Z * Y - X * W) * (d * e * Q) = (m * d - n * e) * (Y * W * P) := by
    have a1 : (Z * Y - X * W) * (d * e * Q) = Z * (e * Q) * (Y * d) - X * (d * Q) * (W * e) := by grind
    rw [a1, x, z]
    grind
  have i1 : n * e < m * d ↔ X * W < Z * Y := by
    constructor
    · intro l
      have t1 : 0 < (m * d - n * e) * (Y * W * P) := Int.mul_pos (by omega) g
      rw [← key] at t1
      have := Int.pos_of_mul_pos_left t1 c
      omega
    · intro l
      have t1 : 0 < (Z * Y - X * W) * (d * e * Q) := Int.mul_pos (by omega) c
      rw [key] at t1
      have := Int.pos_of_mul_pos_left t1 g
      omega
  simp [i1]

/-- kinds -/
theorem dimB_comm (u v : U) : dimB u v = dimB v u := by
  unfold dimB
  rw [decide_eq_decide]
  constructor <;> rintro ⟨a, b, c, d⟩ <;> exact ⟨a.symm, b.symm, c.symm, d.symm⟩
theorem dimB_self (u : U) : dimB u u = true := by unfold dimB; simp
theorem dimB_trans {u v t : U} (h : dimB u v = true) (k : dimB v t = true) : dimB u t = true := by
  unfold dimB at *
  simp only [decide_eq_true_eq] at *
  exact ⟨h.1.trans k.1, h.2.1.trans k.2.1, h.2.2.1.trans k.2.2.1, h.2.2.2.trans k.2.2.2⟩
end Go.Proofs.Ytbojdlagacanoaa
