/-
  Plain facts on fractions: which are right, what is made of two numbers, products, sums, order; that each is exact, and that right fractions which are as much are one. No program is named here. No conditions.
-/
import Derived.Test.YtbojdlagacanoaaNums
namespace Go.Proofs.Ytbojdlagacanoaa
open Go.RowKit (wrap64)
set_option linter.unusedVariables false

def I64 (n : Int) : Prop := -9223372036854775808 ≤ n ∧ n ≤ 9223372036854775807
def gcdN (n d : Int) : Nat := Nat.gcd n.natAbs d.natAbs
def rightB (n d : Int) : Bool := decide (0 < d) && decide (gcdN n d = 1)

theorem right_iff (n d : Int) : rightB n d = true ↔ 0 < d ∧ gcdN n d = 1 := by
  unfold rightB; simp

/-- the number, the sign turned where d lies below 0, divided -/
def mkX (n d : Int) : Int := if 0 < d then n.tdiv (gcdN n d) else -(n.tdiv (gcdN n d))
def mkY (n d : Int) : Int := if 0 < d then d.tdiv (gcdN n d) else -(d.tdiv (gcdN n d))
def mkOk (n d : Int) : Bool := !decide (d = 0) && (fitB (mkX n d) && fitB (mkY n d))
def mkN (n d : Int) : Int := if mkOk n d = true then mkX n d else 0
def mkD (n d : Int) : Int := if mkOk n d = true then mkY n d else 0
def mkE (n d : Int) : Int := if d = 0 then 3 else if mkOk n d = true then 0 else 2

theorem gcdN_pos {n d : Int} (h : d ≠ 0) : 0 < gcdN n d := Nat.gcd_pos_of_pos_right _ (by omega)
theorem gcdN_le {n d : Int} (h : d ≠ 0) : gcdN n d ≤ d.natAbs := Nat.gcd_le_right _ (by omega)
theorem gcdN_comm (n d : Int) : gcdN n d = gcdN d n := Nat.gcd_comm _ _

theorem td_mul {n : Int} {g : Nat} (h : g ∣ n.natAbs) : n.tdiv g * (g : Int) = n := by
  have : (g : Int) ∣ n := Int.ofNat_dvd_left.2 h
  exact Int.tdiv_mul_cancel this
theorem td_abs (n : Int) (g : Nat) : (n.tdiv g).natAbs = n.natAbs / g := by
  rw [Int.natAbs_tdiv]; rfl
theorem td_left (n d : Int) : n.tdiv (gcdN n d) * (gcdN n d : Int) = n := td_mul (Nat.gcd_dvd_left _ _)
theorem td_right (n d : Int) : d.tdiv (gcdN n d) * (gcdN n d : Int) = d := td_mul (Nat.gcd_dvd_right _ _)
theorem td_bd {n : Int} {g : Nat} (hg : 0 < g) (h : I64 n) : I64 (n.tdiv g) := by
  unfold I64 at *
  exact Go.Proofs.Ytbojdlagacanoaa.tdiv_bd n g (by omega) (by omega) h
theorem td_pos {d : Int} {g : Nat} (hd : 0 < d) (h : g ∣ d.natAbs) : 0 < d.tdiv g := by
  have e := td_mul h
  rcases Int.lt_trichotomy (d.tdiv g) 0 with h1 | h1 | h1
  · exfalso
    have : d.tdiv g * (g : Int) ≤ 0 := Int.mul_nonpos_of_nonpos_of_nonneg (by omega) (by omega)
    omega
  · rw [h1] at e; omega
  · exact h1

theorem mkY_pos {n d : Int} (h : d ≠ 0) : 0 < mkY n d := by
  unfold mkY
  by_cases h1 : 0 < d
  · rw [if_pos h1]; exact td_pos h1 (Nat.gcd_dvd_right _ _)
  · rw [if_neg h1, ← Int.neg_tdiv]
    exact td_pos (by omega) (by rw [Int.natAbs_neg]; exact Nat.gcd_dvd_right _ _)

theorem mk_gcd {n d : Int} (h : d ≠ 0) : gcdN (mkX n d) (mkY n d) = 1 := by
  have hc : gcdN (n.tdiv (gcdN n d)) (d.tdiv (gcdN n d)) = 1 := by
    have := Nat.coprime_div_gcd_div_gcd (m := n.natAbs) (n := d.natAbs) (gcdN_pos h)
    show Nat.gcd _ _ = 1
    rw [td_abs, td_abs]; exact this
  unfold mkX mkY
  by_cases h1 : 0 < d
  · rw [if_pos h1, if_pos h1]; exact hc
  · rw [if_neg h1, if_neg h1]; unfold gcdN at *; rw [Int.natAbs_neg, Int.natAbs_neg]; exact hc

theorem mk_right {n d : Int} (h : d ≠ 0) : rightB (mkX n d) (mkY n d) = true := (right_iff _ _).2 ⟨mkY_pos h, mk_gcd h⟩

/-- exactly so much -/
theorem mk_exact (n d : Int) : mkX n d * d = n * mkY n d := by
  have h1 := td_left n d
  have h2 := td_right n d
  unfold mkX mkY
  generalize (gcdN n d : Int) = g at *
  generalize n.tdiv g = x at *
  generalize d.tdiv g = y at *
  subst h1 h2
  split <;> grind

theorem mkE_cases (n d : Int) : (mkE n d = 3 ∧ d = 0 ∧ mkN n d = 0 ∧ mkD n d = 0) ∨ (mkE n d = 2 ∧ d ≠ 0 ∧ mkN n d = 0 ∧ mkD n d = 0 ∧ (fitB (mkX n d) = false ∨ fitB (mkY n d) = false))
    ∨ (mkE n d = 0 ∧ d ≠ 0 ∧ mkN n d = mkX n d ∧ mkD n d = mkY n d ∧ I64 (mkX n d) ∧ I64 (mkY n d)) := by
  unfold mkE mkN mkD I64
  by_cases h : d = 0
  · left; simp [h, mkOk]
  · right
    by_cases h1 : fitB (mkX n d) = true <;> by_cases h2 : fitB (mkY n d) = true
    · right; simp [h, mkOk, h1, h2, (fitB_iff _).1 h1, (fitB_iff _).1 h2]
    · left; simp [h, mkOk, h1, h2]
    · left; simp [h, mkOk, h1, h2]
    · left; simp [h, mkOk, h1, h2]

theorem mk_bd (n d : Int) : I64 (mkN n d) ∧ I64 (mkD n d) := by
  rcases mkE_cases n d with ⟨_, _, h1, h2⟩ | ⟨_, _, h1, h2, _⟩ | ⟨_, _, h1, h2, h3, h4⟩
  · rw [h1, h2]; exact ⟨⟨by omega, by omega⟩, by omega, by omega⟩
  · rw [h1, h2]; exact ⟨⟨by omega, by omega⟩, by omega, by omega⟩
  · rw [h1, h2]; exact ⟨h3, h4⟩

/-- a right fraction is made of itself -/
theorem mk_self {n d : Int} (h : rightB n d = true) : mkX n d = n ∧ mkY n d = d := by
  obtain ⟨h1, h2⟩ := (right_iff _ _).1 h
  unfold mkX mkY
  rw [if_pos h1, if_pos h1, h2]
  exact ⟨Int.tdiv_one _, Int.tdiv_one _⟩

/-- right fractions that are as much are one -/
theorem right_one {n d m e : Int} (h : rightB n d = true) (k : rightB m e = true) (x : n * e = m * d) : n = m ∧ d = e := by
  obtain ⟨h1, h2⟩ := (right_iff _ _).1 h
  obtain ⟨k1, k2⟩ := (right_iff _ _).1 k
  have hx : n.natAbs * e.natAbs = m.natAbs * d.natAbs := by rw [← Int.natAbs_mul, ← Int.natAbs_mul, x]
  have a1 : d.natAbs ∣ e.natAbs := by
    have c : Nat.Coprime d.natAbs n.natAbs := by show Nat.gcd _ _ = 1; rw [Nat.gcd_comm]; exact h2
    exact c.dvd_of_dvd_mul_left ⟨m.natAbs, by rw [hx, Nat.mul_comm]⟩
  have a2 : e.natAbs ∣ d.natAbs := by
    have c : Nat.Coprime e.natAbs m.natAbs := by show Nat.gcd _ _ = 1; rw [Nat.gcd_comm]; exact k2
    exact c.dvd_of_dvd_mul_left ⟨n.natAbs, by rw [← hx, Nat.mul_comm]⟩
  have e1 : d.natAbs = e.natAbs := Nat.dvd_antisymm a1 a2
  have e2 : d = e := by omega
  subst e2
  exact ⟨Int.eq_of_mul_eq_mul_right (by omega) x, rfl⟩

/-! products -/
def mulX (an ad bn bd : Int) : Int := an.tdiv (gcdN an bd) * bn.tdiv (gcdN bn ad)
def mulY (an ad bn bd : Int) : Int := bd.tdiv (gcdN an bd) * ad.tdiv (gcdN bn ad)
def mulR (an ad bn bd : Int) : Bool := rightB an ad && rightB bn bd
def mulOk (an ad bn bd : Int) : Bool := mulR an ad bn bd && (fitB (mulX an ad bn bd) && fitB (mulY an ad bn bd))
def mulN (an ad bn bd : Int) : Int := if mulOk an ad bn bd = true then mulX an ad bn bd else 0
def mulD (an ad bn bd : Int) : Int := if mulOk an ad bn bd = true then mulY an ad bn bd else 0
def mulE (an ad bn bd : Int) : Int := if mulR an ad bn bd = false then 1 else if mulOk an ad bn bd = true then 0 else 2

theorem mul_exact (an ad bn bd : Int) : mulX an ad bn bd * (ad * bd) = an * bn * mulY an ad bn bd := by
  have h1 := td_left an bd
  have h2 := td_right an bd
  have h3 := td_left bn ad
  have h4 := td_right bn ad
  unfold mulX mulY
  generalize (gcdN an bd : Int) = g at *
  generalize (gcdN bn ad : Int) = k at *
  generalize an.tdiv g = x at *
  generalize bd.tdiv g = y at *
  generalize bn.tdiv k = u at *
  generalize ad.tdiv k = v at *
  subst h1 h2 h3 h4
  grind

theorem mul_right {an ad bn bd : Int} (ha : rightB an ad = true) (hb : rightB bn bd = true) : rightB (mulX an ad bn bd) (mulY an ad bn bd) = true := by
  obtain ⟨a1, a2⟩ := (right_iff _ _).1 ha
  obtain ⟨b1, b2⟩ := (right_iff _ _).1 hb
  refine (right_iff _ _).2 ⟨Int.mul_pos (td_pos b1 (Nat.gcd_dvd_right _ _)) (td_pos a1 (Nat.gcd_dvd_right _ _)), ?_⟩
  unfold mulX mulY
  show Nat.gcd _ _ = 1
  rw [Int.natAbs_mul, Int.natAbs_mul, td_abs, td_abs, td_abs, td_abs]
  have ca : Nat.Coprime an.natAbs ad.natAbs := a2
  have cb : Nat.Coprime bn.natAbs bd.natAbs := b2
  have c1 := Nat.coprime_div_gcd_div_gcd (m := an.natAbs) (n := bd.natAbs) (gcdN_pos (n := an) (d := bd) (by omega))
  have c2 := Nat.coprime_div_gcd_div_gcd (m := bn.natAbs) (n := ad.natAbs) (gcdN_pos (n := bn) (d := ad) (by omega))
  have d1 : an.natAbs / gcdN an bd ∣ an.natAbs := Nat.div_dvd_of_dvd (Nat.gcd_dvd_left _ _)
  have d2 : bd.natAbs / gcdN an bd ∣ bd.natAbs := Nat.div_dvd_of_dvd (Nat.gcd_dvd_right _ _)
  have d3 : bn.natAbs / gcdN bn ad ∣ bn.natAbs := Nat.div_dvd_of_dvd (Nat.gcd_dvd_left _ _)
  have d4 : ad.natAbs / gcdN bn ad ∣ ad.natAbs := Nat.div_dvd_of_dvd (Nat.gcd_dvd_right _ _)
  have e1 : Nat.Coprime (an.natAbs / gcdN an bd) (ad.natAbs / gcdN bn ad) := (ca.coprime_dvd_left d1).coprime_dvd_right d4
  have e2 : Nat.Coprime (bn.natAbs / gcdN bn ad) (bd.natAbs / gcdN an bd) := (cb.coprime_dvd_left d3).coprime_dvd_right d2
  exact Nat.Coprime.mul_left (Nat.Coprime.mul_right c1 e1) (Nat.Coprime.mul_right e2 c2)

theorem mulE_cases (an ad bn bd : Int) : (mulE an ad bn bd = 1 ∧ mulR an ad bn bd = false ∧ mulN an ad bn bd = 0 ∧ mulD an ad bn bd = 0)
    ∨ (mulE an ad bn bd = 2 ∧ mulR an ad bn bd = true ∧ mulN an ad bn bd = 0 ∧ mulD an ad bn bd = 0 ∧ (fitB (mulX an ad bn bd) = false ∨ fitB (mulY an ad bn bd) = false))
    ∨ (mulE an ad bn bd = 0 ∧ mulR an ad bn bd = true ∧ mulN an ad bn bd = mulX an ad bn bd ∧ mulD an ad bn bd = mulY an ad bn bd ∧ I64 (mulX an ad bn bd) ∧ I64 (mulY an ad bn bd)) := by
  unfold mulE mulN mulD I64
  cases h : mulR an ad bn bd
  · left; simp [mulOk, h]
  · right
    by_cases h1 : fitB (mulX an ad bn bd) = true <;> by_cases h2 : fitB (mulY an ad bn bd) = true
    · right; simp [mulOk, h, h1, h2, (fitB_iff _).1 h1, (fitB_iff _).1 h2]
    · left; simp [mulOk, h, h1, h2]
    · left; simp [mulOk, h, h1, h2]
    · left; simp [mulOk, h, h1, h2]

theorem mul_bd (an ad bn bd : Int) : I64 (mulN an ad bn bd) ∧ I64 (mulD an ad bn bd) := by
  rcases mulE_cases an ad bn bd with ⟨_, _, h1, h2⟩ | ⟨_, _, h1, h2, _⟩ | ⟨_, _, h1, h2, h3, h4⟩
  · rw [h1, h2]; exact ⟨⟨by omega, by omega⟩, by omega, by omega⟩
  · rw [h1, h2]; exact ⟨⟨by omega, by omega⟩, by omega, by omega⟩
  · rw [h1, h2]; exact ⟨h3, h4⟩

/-! sums -/
def addA (an ad bn bd : Int) : Int := an * bd.tdiv (gcdN ad bd)
def addB (an ad bn bd : Int) : Int := bn * ad.tdiv (gcdN ad bd)
def addY (an ad bn bd : Int) : Int := ad * bd.tdiv (gcdN ad bd)
def addX (an ad bn bd : Int) : Int := addA an ad bn bd + addB an ad bn bd
def addOk (an ad bn bd : Int) : Bool := mulR an ad bn bd && ((fitB (addA an ad bn bd) && fitB (addB an ad bn bd)) && (fitB (addX an ad bn bd) && fitB (addY an ad bn bd)))
def addN (an ad bn bd : Int) : Int := if addOk an ad bn bd = true then mkN (addX an ad bn bd) (addY an ad bn bd) else 0
def addD (an ad bn bd : Int) : Int := if addOk an ad bn bd = true then mkD (addX an ad bn bd) (addY an ad bn bd) else 0
def addE (an ad bn bd : Int) : Int := if mulR an ad bn bd = false then 1 else if addOk an ad bn bd = true then mkE (addX an ad bn bd) (addY an ad bn bd) else 2

theorem add_exact (an ad bn bd : Int) : addX an ad bn bd * (ad * bd) = (an * bd + bn * ad) * addY an ad bn bd := by
  have h1 := td_left ad bd
  have h2 := td_right ad bd
  unfold addX addY addA addB
  generalize (gcdN ad bd : Int) = g at *
  generalize ad.tdiv g = x at *
  generalize bd.tdiv g = y at *
  subst h1 h2
  grind
theorem addY_pos {an ad bn bd : Int} (h : mulR an ad bn bd = true) : 0 < addY an ad bn bd := by
  unfold mulR at h
  rw [Bool.and_eq_true] at h
  exact Int.mul_pos ((right_iff _ _).1 h.1).1 (td_pos ((right_iff _ _).1 h.2).1 (Nat.gcd_dvd_right _ _))

theorem add_bd (an ad bn bd : Int) : I64 (addN an ad bn bd) ∧ I64 (addD an ad bn bd) := by
  unfold addN addD
  split
  · exact mk_bd _ _
  · exact ⟨⟨by omega, by omega⟩, by omega, by omega⟩

theorem fits_div {x y g : Int} (hx : I64 x) (hy : y * g = x) (hg : 0 < g) : I64 y := by
  unfold I64 at *
  rcases Int.lt_trichotomy y 0 with h | h | h
  · have : y * g ≤ y * 1 := Int.mul_le_mul_of_nonpos_left (by omega) (by omega)
    omega
  · omega
  · have : y * 1 ≤ y * g := Int.mul_le_mul_of_nonneg_left (by omega) (by omega)
    omega

/-- a made fraction of two numbers of 64 bits, the lower one above 0, lies within -/
theorem mk_fits {n d : Int} (hn : I64 n) (hd : I64 d) (h : 0 < d) : mkE n d = 0 ∧ mkN n d = mkX n d ∧ mkD n d = mkY n d := by
  have hg := gcdN_pos (n := n) (d := d) (by omega)
  have h1 : I64 (mkX n d) := by unfold mkX; rw [if_pos h]; exact td_bd hg hn
  have h2 : I64 (mkY n d) := by unfold mkY; rw [if_pos h]; exact td_bd hg hd
  have f1 := (fitB_iff _).2 h1
  have f2 := (fitB_iff _).2 h2
  have h0 : ¬ d = 0 := by omega
  unfold mkE mkN mkD
  simp [mkOk, h0, f1, f2]

/-- what adding answers: not right; beyond; or the right fraction that is as much -/
theorem addE_cases (an ad bn bd : Int) : (addE an ad bn bd = 1 ∧ mulR an ad bn bd = false ∧ addN an ad bn bd = 0 ∧ addD an ad bn bd = 0)
    ∨ (addE an ad bn bd = 2 ∧ mulR an ad bn bd = true ∧ addN an ad bn bd = 0 ∧ addD an ad bn bd = 0)
    ∨ (addE an ad bn bd = 0 ∧ mulR an ad bn bd = true ∧ rightB (addN an ad bn bd) (addD an ad bn bd) = true ∧ addN an ad bn bd * (ad * bd) = (an * bd + bn * ad) * addD an ad bn bd) := by
  unfold addE addN addD
  cases h : mulR an ad bn bd
  · left; simp [addOk, h]
  · right
    cases h1 : addOk an ad bn bd
    · left; simp
    · right
      have hy := addY_pos h
      unfold addOk at h1
      simp only [Bool.and_eq_true, fitB_iff] at h1
      obtain ⟨e1, e2, e3⟩ := mk_fits (n := addX an ad bn bd) (d := addY an ad bn bd) h1.2.2.1 h1.2.2.2 hy
      simp only [e1, e2, e3, if_true, Bool.true_eq_false, if_false]
      refine ⟨trivial, trivial, mk_right (by omega), ?_⟩
      have x1 := mk_exact (addX an ad bn bd) (addY an ad bn bd)
      have x2 := add_exact an ad bn bd
      generalize addX an ad bn bd = X at *
      generalize addY an ad bn bd = Y at *
      generalize mkX X Y = N at *
      generalize mkY X Y = D at *
      refine Int.eq_of_mul_eq_mul_right (a := Y) (by omega) ?_
      grind

/-- what multiplying answers -/
theorem mulE_ways (an ad bn bd : Int) : (mulE an ad bn bd = 1 ∧ mulR an ad bn bd = false ∧ mulN an ad bn bd = 0 ∧ mulD an ad bn bd = 0)
    ∨ (mulE an ad bn bd = 2 ∧ mulR an ad bn bd = true ∧ mulN an ad bn bd = 0 ∧ mulD an ad bn bd = 0)
    ∨ (mulE an ad bn bd = 0 ∧ mulR an ad bn bd = true ∧ rightB (mulN an ad bn bd) (mulD an ad bn bd) = true ∧ mulN an ad bn bd * (ad * bd) = an * bn * mulD an ad bn bd) := by
  rcases mulE_cases an ad bn bd with ⟨h1, h2, h3, h4⟩ | ⟨h1, h2, h3, h4, _⟩ | ⟨h1, h2, h3, h4, _⟩
  · exact .inl ⟨h1, h2, h3, h4⟩
  · exact .inr (.inl ⟨h1, h2, h3, h4⟩)
  · refine .inr (.inr ⟨h1, h2, ?_, ?_⟩)
    · rw [h3, h4]
      unfold mulR at h2
      rw [Bool.and_eq_true] at h2
      exact mul_right h2.1 h2.2
    · rw [h3, h4]; exact mul_exact an ad bn bd

/-! order -/
def lessB (an ad bn bd : Int) : Bool := mulR an ad bn bd && decide (an * bd < bn * ad)

end Go.Proofs.Ytbojdlagacanoaa
