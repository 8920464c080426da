/-
  The document's own Convert, of a right fraction and two of the table's units of unlike names: beyond, or what the four steps come to. Conditions: the fraction is right, of numbers of 64 bits; the units are the table's.
-/
import Derived.Test.YtbojdlagacanoaaUnRefC
import Derived.Test.YtbojdlagacanoaaUnMath
namespace Go.Proofs.Ytbojdlagacanoaa
open Go.RowKit
set_option linter.unusedVariables false

theorem beq_zero_no : ((2 : Int) == 0) = false := rfl
theorem beq_zero_yes : ((0 : Int) == 0) = true := rfl
theorem OkU.bounds {u : U} (o : OkU u) : I64 u.fn ∧ I64 u.fd ∧ I64 u.on ∧ I64 u.od ∧ I64 (-u.on) := by
  obtain ⟨h1, h2, h3, h4, h5, h6, h7, h8, _, _, _, _⟩ := o
  exact ⟨⟨by omega, by omega⟩, ⟨by omega, by omega⟩, ⟨by omega, by omega⟩, ⟨by omega, by omega⟩, ⟨by omega, by omega⟩⟩

theorem rconv_ways (n d : Int) (u v : U) (hn : I64 n) (hd : I64 d) (r : rightB n d = true) (ou : OkU u) (ov : OkU v) (hne : ¬ u.nm = v.nm) :
    (chainT n d u v = (0, 0, 2) ∧ ∀ w, Calls Try.prog 17 #[rv n d, encU u, encU v] w fun e w' => e = .returned (.tuple #[rv 0 0, .bool false]) ∧ Below w.heap.size w w')
    ∨ (∃ N D, chainT n d u v = (N, D, 0) ∧ ∀ w, Calls Try.prog 17 #[rv n d, encU u, encU v] w fun e w' => e = .returned (.tuple #[rv N D, .bool true]) ∧ Below w.heap.size w w') := by
  obtain ⟨u1, u2, u3, u4, u5⟩ := ou.bounds
  obtain ⟨v1, v2, v3, v4, v5⟩ := ov.bounds
  have hs := nm_no hne
  have hv : -9223372036854775807 ≤ v.on ∧ v.on ≤ 9223372036854775807 := by
    have := ov.on0; have := ov.on1
    exact ⟨by omega, by omega⟩
  unfold chainT
  simp only [restT, stM_go]
  have m1 := fun w => rfmul_any n d u.fn u.fd w hn hd u1 u2 (mulR_of r ou.rf)
  obtain ⟨k1, l1⟩ := mul_bd n d u.fn u.fd
  rcases stM_ways r ou.rf with ⟨e1, r1, _⟩ | ⟨e1, n1, d1⟩
  · rw [e1, beq_zero_yes] at m1
    rw [e1]
    simp only [stA_go]
    generalize mulN n d u.fn u.fd = N1 at *
    generalize mulD n d u.fn u.fd = D1 at *
    have m2 := fun w => rfadd_any N1 D1 u.on u.od w k1 l1 u3 u4 (mulR_of r1 ou.ro)
    obtain ⟨k2, l2⟩ := add_bd N1 D1 u.on u.od
    rcases stA_ways r1 ou.ro with ⟨e2, r2, _⟩ | ⟨e2, n2, d2⟩
    · rw [e2, beq_zero_yes] at m2
      rw [e2]
      simp only [stA_go]
      generalize addN N1 D1 u.on u.od = N2 at *
      generalize addD N1 D1 u.on u.od = D2 at *
      have m3 := fun w => rfadd_any N2 D2 (-v.on) v.od w k2 l2 v5 v4 (mulR_of r2 ov.rn)
      obtain ⟨k3, l3⟩ := add_bd N2 D2 (-v.on) v.od
      rcases stA_ways r2 ov.rn with ⟨e3, r3, _⟩ | ⟨e3, n3, d3⟩
      · rw [e3, beq_zero_yes] at m3
        rw [e3]
        simp only [stM_go]
        generalize addN N2 D2 (-v.on) v.od = N3 at *
        generalize addD N2 D2 (-v.on) v.od = D3 at *
        have m4 := fun w => rfmul_any N3 D3 v.fd v.fn w k3 l3 v2 v1 (mulR_of r3 ov.rb)
        rcases stM_ways r3 ov.rb with ⟨e4, r4, _⟩ | ⟨e4, n4, d4⟩
        · rw [e4, beq_zero_yes] at m4
          rw [e4]
          exact .inr ⟨_, _, rfl, fun w => rconv_f4 n d N1 D1 N2 D2 N3 D3 _ _ true u v w hv hs m1 m2 m3 m4⟩
        · rw [e4, n4, d4, beq_zero_no] at m4
          rw [e4, n4, d4]
          exact .inl ⟨rfl, fun w => rconv_f4 n d N1 D1 N2 D2 N3 D3 _ _ false u v w hv hs m1 m2 m3 m4⟩
      · rw [e3, n3, d3, beq_zero_no] at m3
        rw [e3, n3, d3, stM_fail (x := 0) (y := 0) (e := 2) (by decide)]
        exact .inl ⟨rfl, fun w => rconv_f3 n d N1 D1 N2 D2 _ _ u v w hv hs m1 m2 m3⟩
    · rw [e2, n2, d2, beq_zero_no] at m2
      rw [e2, n2, d2, stA_fail (x := 0) (y := 0) (e := 2) (by decide), stM_fail (x := 0) (y := 0) (e := 2) (by decide)]
      exact .inl ⟨rfl, fun w => rconv_f2 n d N1 D1 _ _ u v w hv hs m1 m2⟩
  · rw [e1, n1, d1, beq_zero_no] at m1
    rw [e1, n1, d1, stA_fail (x := 0) (y := 0) (e := 2) (by decide), stA_fail (x := 0) (y := 0) (e := 2) (by decide), stM_fail (x := 0) (y := 0) (e := 2) (by decide)]
    exact .inl ⟨rfl, fun w => rconv_f1 n d _ _ u v w hv hs m1⟩
end Go.Proofs.Ytbojdlagacanoaa
