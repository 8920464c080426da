/-
  What ratio.Add returns, called with any two fractions of numbers of 64 bits. Condition: the arguments are numbers of 64 bits.
-/
import Derived.Test.YtbojdlagacanoaaRatB
namespace Go.Proofs.Ytbojdlagacanoaa
open Go.RowKit
set_option linter.unusedVariables false

/-- a block of two cells that may be written -/
def Has (w : World) (b : Nat) (x y : Value) : Prop :=
  w.cell? ⟨b, 0, none⟩ = some x ∧ w.cell? ⟨b, 1, none⟩ = some y ∧ w.frozen? ⟨b, 0, none⟩ = false ∧ w.frozen? ⟨b, 1, none⟩ = false ∧ b < w.heap.size
theorem Has.below {w w' : World} {b : Nat} {x y : Value} (h : Has w b x y) (hb : Below w.heap.size w w') : Has w' b x y := kept2 hb h.1 h.2.1 h.2.2.1 h.2.2.2.1
theorem has_new (w : World) (x y : Value) (t : TypeId) : Has (w.alloc (.cells #[x, y] t)) w.heap.size x y := by
  refine ⟨?_, ?_, ?_, ?_, ?_⟩ <;> simp
theorem Has.alloc {w : World} {b : Nat} {x y : Value} (h : Has w b x y) (o : Obj) : Has (w.alloc o) b x y :=
  h.below ((Below.refl _ _).alloc (Nat.le_refl _) _)
theorem below_trans {a b c : World} (h : Below a.heap.size a b) (k : Below b.heap.size b c) : Below a.heap.size a c := h.trans (k.mono h.size)

theorem red_pos {n d : Int} (hd : I64 d) (h : 0 < d) : redU n d = n.tdiv (gcdN n d) ∧ redL n d = d.tdiv (gcdN n d) := by
  have h1 := gcdN_le (n := n) (d := d) (by omega)
  have h2 : (gcdN n d : Int) ≤ 9223372036854775807 := by unfold I64 at hd; omega
  exact ⟨if_pos h2, if_pos h2⟩

theorem add_not {an ad bn bd : Int} (h : mulR an ad bn bd = false) : addN an ad bn bd = 0 ∧ addD an ad bn bd = 0 ∧ addE an ad bn bd = 1 := by
  unfold addN addD addE; simp [addOk, h]
theorem add_over2 {an ad bn bd : Int} (h : mulR an ad bn bd = true) (k : addOk an ad bn bd = false) : addN an ad bn bd = 0 ∧ addD an ad bn bd = 0 ∧ addE an ad bn bd = 2 := by
  unfold addN addD addE; simp [k, h]
theorem add_yes {an ad bn bd : Int} (h : mulR an ad bn bd = true) (k : addOk an ad bn bd = true) :
    addN an ad bn bd = mkN (addX an ad bn bd) (addY an ad bn bd) ∧ addD an ad bn bd = mkD (addX an ad bn bd) (addY an ad bn bd) ∧ addE an ad bn bd = mkE (addX an ad bn bd) (addY an ad bn bd) := by
  unfold addN addD addE; simp [k, h]

/-- the ways of a sum: what does not fit first -/
theorem add_ways {an ad bn bd : Int} (h : mulR an ad bn bd = true) :
    (fitB (addA an ad bn bd) = false ∧ addOk an ad bn bd = false)
    ∨ (fitB (addA an ad bn bd) = true ∧ fitB (addB an ad bn bd) = false ∧ addOk an ad bn bd = false)
    ∨ (fitB (addA an ad bn bd) = true ∧ fitB (addB an ad bn bd) = true ∧ fitB (addX an ad bn bd) = false ∧ addOk an ad bn bd = false)
    ∨ (fitB (addA an ad bn bd) = true ∧ fitB (addB an ad bn bd) = true ∧ fitB (addX an ad bn bd) = true ∧ fitB (addY an ad bn bd) = false ∧ addOk an ad bn bd = false)
    ∨ (fitB (addA an ad bn bd) = true ∧ fitB (addB an ad bn bd) = true ∧ fitB (addX an ad bn bd) = true ∧ fitB (addY an ad bn bd) = true ∧ addOk an ad bn bd = true) := by
  unfold addOk
  rw [h]
  cases fitB (addA an ad bn bd) <;> cases fitB (addB an ad bn bd) <;> cases fitB (addX an ad bn bd) <;> cases fitB (addY an ad bn bd) <;> simp

set_option maxHeartbeats 1000000 in
theorem fadd_not (an ad bn bd : Int) (w : World) (h1 : I64 an) (h2 : I64 ad) (h3 : I64 bn) (h4 : I64 bd) (hr : mulR an ad bn bd = false) :
    Calls Try.prog 36 #[rv an ad, rv bn bd] w fun e w' => e = .returned (.tuple #[rv (addN an ad bn bd) (addD an ad bn bd), .int .i64 (addE an ad bn bd)]) ∧ Below w.heap.size w w' := by
  obtain ⟨e1, e2, e3⟩ := add_not hr
  rw [e1, e2, e3]
  have fa : Hid (∀ w, Calls Try.prog 20 #[rv an ad] w fun e w' => e = .returned (.bool (rightB an ad)) ∧ Below w.heap.size w w') := fun w => right_any an ad w h1 h2
  have fb : Hid (∀ w, Calls Try.prog 20 #[rv bn bd] w fun e w' => e = .returned (.bool (rightB bn bd)) ∧ Below w.heap.size w w') := fun w => right_any bn bd w h3 h4
  unfold mulR at hr
  clear h1 h2 h3 h4 e1 e2 e3
  generalize rightB an ad = ra at *
  generalize rightB bn bd = rb at *
  have G0 : Hid (Below w.heap.size w (((w.alloc (.cells #[.int .i64 an, .int .i64 ad] 25)).alloc (.cells #[.int .i64 bn, .int .i64 bd] 25)).alloc (.cells #[.int .i64 0, .int .i64 0] 25))) := by unfold Hid; go_grown
  have H3 : Hid (∀ w : World, Has (w.alloc (.cells #[.int .i64 0, .int .i64 0] 25)) w.heap.size (.int .i64 0) (.int .i64 0)) := fun w => has_new w _ _ _
  have H2 : Hid (∀ w : World, Has (w.alloc (.cells #[.int .i64 bn, .int .i64 bd] 25)) w.heap.size (.int .i64 bn) (.int .i64 bd)) := fun w => has_new w _ _ _
  cases ra
  · clear hr fb
    go_enter Try.func36, Try.ntmps36
    go_wp2_with fail
    refine (fa.out _).mono ?_
    rintro e w1 ⟨rfl, hb⟩
    obtain ⟨c0, c1, z0, z1, zl⟩ := (H3.out _).below hb
    have HB : Hid (Below w.heap.size w w1) := below_trans G0.out hb
    clear hb fa G0 H3 H2
    simp only [World.size_alloc] at c0 c1 z0 z1 zl
    go_wp2
    have hq := fun x y => wrote2 (x := x) (y := y) c0 c1
    refine bodyPost_ret (res_pair Try.results36 rfl rfl (hq _ _).1 (hq _ _).2) rfl ?_
    exact ⟨rfl, HB.out.setCell (by simp; omega) _ |>.setCell (by simp; omega) _⟩
  · cases rb
    · clear hr
      go_enter Try.func36, Try.ntmps36
      go_wp2_with fail
      refine (fa.out _).mono ?_
      rintro e w1 ⟨rfl, hb⟩
      obtain ⟨c0, c1, z0, z1, zl⟩ := (H3.out _).below hb
      obtain ⟨d0, d1, y0, y1, yl⟩ := ((H2.out _).alloc _).below hb
      have H4 : Hid _ := (H3.out _).below hb
      have HB : Hid (Below w.heap.size w w1) := below_trans G0.out hb
      clear hb fa G0 H3 H2
      simp only [World.size_alloc] at c0 c1 z0 z1 zl d0 d1 y0 y1 yl H4
      go_wp2_with fail
      refine (fb.out _).mono ?_
      rintro e w2 ⟨rfl, hb⟩
      clear c0 c1 z0 z1 zl d0 d1 y0 y1 yl
      obtain ⟨c0, c1, z0, z1, zl⟩ := Has.below H4.out hb
      have HB2 : Hid (Below w.heap.size w w2) := below_trans HB.out hb
      clear hb fb HB H4
      go_wp2
      have hq := fun x y => wrote2 (x := x) (y := y) c0 c1
      refine bodyPost_ret (res_pair Try.results36 rfl rfl (hq _ _).1 (hq _ _).2) rfl ?_
      exact ⟨rfl, HB2.out.setCell (by simp; omega) _ |>.setCell (by simp; omega) _⟩
    · cases hr

set_option maxHeartbeats 1000000 in
theorem fadd_both (an ad bn bd : Int) (w : World) (h1 : I64 an) (h2 : I64 ad) (h3 : I64 bn) (h4 : I64 bd) (hr : mulR an ad bn bd = true) :
    Calls Try.prog 36 #[rv an ad, rv bn bd] w fun e w' => e = .returned (.tuple #[rv (addN an ad bn bd) (addD an ad bn bd), .int .i64 (addE an ad bn bd)]) ∧ Below w.heap.size w w' := by
  have hr2 : rightB an ad = true ∧ rightB bn bd = true := by unfold mulR at hr; rwa [Bool.and_eq_true] at hr
  have dpos := ((right_iff _ _).1 hr2.2).1
  have fa : Hid (∀ w, Calls Try.prog 20 #[rv an ad] w fun e w' => e = .returned (.bool true) ∧ Below w.heap.size w w') := fun w => by
    have := right_any an ad w h1 h2; rwa [hr2.1] at this
  have fb : Hid (∀ w, Calls Try.prog 20 #[rv bn bd] w fun e w' => e = .returned (.bool true) ∧ Below w.heap.size w w') := fun w => by
    have := right_any bn bd w h3 h4; rwa [hr2.2] at this
  obtain ⟨q1, q2⟩ := red_pos (n := ad) h4 dpos
  have gp := gcdN_pos (n := ad) (d := bd) (by omega)
  have b1 := td_bd gp h2
  have b2 := td_bd gp h4
  have fr : Hid (∀ w, Calls Try.prog 42 #[rv ad bd] w fun e w' => e = .returned (rv (ad.tdiv (gcdN ad bd)) (bd.tdiv (gcdN ad bd))) ∧ Below w.heap.size w w') := fun w => by
    have := reduced_any ad bd w h2 h4 (by omega); rwa [q1, q2] at this
  have fA : Hid (∀ w, Calls Try.prog 43 #[.int .i64 an, .int .i64 (bd.tdiv (gcdN ad bd))] w fun e w' => e = .returned (.tuple #[.int .i64 (fitV (addA an ad bn bd)), .bool (fitB (addA an ad bn bd))]) ∧ w' = w) := fun w => mul_any _ _ w h1 b2
  have fB : Hid (∀ w, Calls Try.prog 43 #[.int .i64 bn, .int .i64 (ad.tdiv (gcdN ad bd))] w fun e w' => e = .returned (.tuple #[.int .i64 (fitV (addB an ad bn bd)), .bool (fitB (addB an ad bn bd))]) ∧ w' = w) := fun w => mul_any _ _ w h3 b1
  have fY : Hid (∀ w, Calls Try.prog 43 #[.int .i64 ad, .int .i64 (bd.tdiv (gcdN ad bd))] w fun e w' => e = .returned (.tuple #[.int .i64 (fitV (addY an ad bn bd)), .bool (fitB (addY an ad bn bd))]) ∧ w' = w) := fun w => mul_any _ _ w h2 b2
  have fX : Hid (I64 (addA an ad bn bd) → I64 (addB an ad bn bd) → ∀ w, Calls Try.prog 44 #[.int .i64 (addA an ad bn bd), .int .i64 (addB an ad bn bd)] w fun e w' => e = .returned (.tuple #[.int .i64 (fitV (addX an ad bn bd)), .bool (fitB (addX an ad bn bd))]) ∧ w' = w) := fun k1 k2 w => add_any _ _ w k1 k2
  have fM : Hid (I64 (addX an ad bn bd) → I64 (addY an ad bn bd) → ∀ w, Calls Try.prog 45 #[.int .i64 (addX an ad bn bd), .int .i64 (addY an ad bn bd)] w fun e w' => e = .returned (.tuple #[rv (mkN (addX an ad bn bd) (addY an ad bn bd)) (mkD (addX an ad bn bd) (addY an ad bn bd)), .int .i64 (mkE (addX an ad bn bd) (addY an ad bn bd))]) ∧ Below w.heap.size w w') := fun k1 k2 w => make_any _ _ w k1 k2
  have A0 : Hid (addOk an ad bn bd = false → addN an ad bn bd = 0 ∧ addD an ad bn bd = 0 ∧ addE an ad bn bd = 2) := add_over2 hr
  have A1 : Hid (addOk an ad bn bd = true → addN an ad bn bd = mkN (addX an ad bn bd) (addY an ad bn bd) ∧ addD an ad bn bd = mkD (addX an ad bn bd) (addY an ad bn bd) ∧ addE an ad bn bd = mkE (addX an ad bn bd) (addY an ad bn bd)) := add_yes hr
  have W := add_ways hr
  generalize addOk an ad bn bd = ok at *
  generalize mkN (addX an ad bn bd) (addY an ad bn bd) = mN at *
  generalize mkD (addX an ad bn bd) (addY an ad bn bd) = mD at *
  generalize mkE (addX an ad bn bd) (addY an ad bn bd) = mE at *
  generalize addN an ad bn bd = N at *
  generalize addD an ad bn bd = D at *
  generalize addE an ad bn bd = E at *
  generalize addA an ad bn bd = A at *
  generalize addB an ad bn bd = B at *
  generalize addX an ad bn bd = X at *
  generalize addY an ad bn bd = Y at *
  generalize ad.tdiv (gcdN ad bd) = ta at *
  generalize bd.tdiv (gcdN ad bd) = tb at *
  clear h1 h2 h3 h4 hr hr2 dpos q1 q2 gp b1 b2
  have G0 : Hid (Below w.heap.size w (((w.alloc (.cells #[.int .i64 an, .int .i64 ad] 25)).alloc (.cells #[.int .i64 bn, .int .i64 bd] 25)).alloc (.cells #[.int .i64 0, .int .i64 0] 25))) := by unfold Hid; go_grown
  have H3 : Hid (∀ w : World, Has (w.alloc (.cells #[.int .i64 0, .int .i64 0] 25)) w.heap.size (.int .i64 0) (.int .i64 0)) := fun w => has_new w _ _ _
  have H2 : Hid (∀ w : World, Has (w.alloc (.cells #[.int .i64 bn, .int .i64 bd] 25)) w.heap.size (.int .i64 bn) (.int .i64 bd)) := fun w => has_new w _ _ _
  have H1 : Hid (∀ w : World, Has (w.alloc (.cells #[.int .i64 an, .int .i64 ad] 25)) w.heap.size (.int .i64 an) (.int .i64 ad)) := fun w => has_new w _ _ _
  have W0 : Hid _ := W
  clear W
  go_enter Try.func36, Try.ntmps36
  go_wp2_with fail
  refine (fa.out _).mono ?_
  rintro e w1 ⟨rfl, hb⟩
  have K3 := Has.below (H3.out _) hb
  have K2 := Has.below (Has.alloc (H2.out _) _) hb
  have K1 := Has.below (Has.alloc (Has.alloc (H1.out _) _) _) hb
  have HB : Hid (Below w.heap.size w w1) := below_trans G0.out hb
  clear hb fa G0 H3 H2 H1
  simp only [World.size_alloc] at K1 K2 K3
  obtain ⟨d0, d1, y0, y1, yl⟩ := K2
  have X1 : Hid _ := K1
  have X3 : Hid _ := K3
  have X2 : Hid (Has w1 (w.heap.size + 1) (.int .i64 bn) (.int .i64 bd)) := ⟨d0, d1, y0, y1, yl⟩
  clear K1 K3
  go_wp2_with fail
  clear d0 d1 y0 y1 yl
  refine (fb.out _).mono ?_
  rintro e w2 ⟨rfl, hb⟩
  have HB2 : Hid (Below w.heap.size w w2) := below_trans HB.out hb
  have Y1 : Hid _ := Has.below X1.out hb
  have Y2 : Hid _ := Has.below X2.out hb
  have Y3 : Hid _ := Has.below X3.out hb
  clear hb fb HB X1 X2 X3
  obtain ⟨c0, c1, z0, z1, zl⟩ := Y1.out
  obtain ⟨d0, d1, y0, y1, yl⟩ := Y2.out
  go_wp2_with fail
  refine (fr.out _).mono ?_
  rintro e w3 ⟨rfl, hb⟩
  have HB3 : Hid (Below w.heap.size w w3) := below_trans HB2.out hb
  clear c0 c1 z0 z1 zl d0 d1 y0 y1 yl
  obtain ⟨c0, c1, z0, z1, zl⟩ := Has.below Y1.out hb
  obtain ⟨d0, d1, y0, y1, yl⟩ := Has.below Y2.out hb
  obtain ⟨r0, r1, v0, v1, vl⟩ := Has.below Y3.out hb
  clear hb fr HB2 Y1 Y2 Y3
  rcases W0.out with ⟨k1, rfl⟩ | ⟨k1, k2, rfl⟩ | ⟨k1, k2, k3, rfl⟩ | ⟨k1, k2, k3, k4, rfl⟩ | ⟨k1, k2, k3, k4, rfl⟩
  · replace A0 : Hid _ := A0.out rfl
    clear fM fX fY A1 W0
    rw [k1] at fA
    generalize fitV A = VA at *
    generalize fitV B = VB at *
    generalize fitB B = BB at *
    clear k1
    go_wp2_with fail
    refine (fA.out _).mono ?_
    rintro e w' ⟨rfl, rfl⟩
    go_wp2_with fail
    refine (fB.out _).mono ?_
    rintro e w' ⟨rfl, rfl⟩
    clear fA fB
    go_wp2
    have hq := fun x y o => wrote2_past (x := x) (y := y) o r0 r1
    refine bodyPost_ret (res_pair Try.results36 rfl rfl (hq _ _ _).1 (hq _ _ _).2) rfl ?_
    refine ⟨ret_make A0.out, (HB3.out.setCell (by simp; omega) _ |>.setCell (by simp; omega) _).alloc (by simp; omega) _⟩
  · replace A0 : Hid _ := A0.out rfl
    clear fM fX fY A1 W0
    rw [(fit_yes ((fitB_iff _).1 k1)).1, (fit_yes ((fitB_iff _).1 k1)).2] at fA
    rw [k2] at fB
    generalize fitV B = VB at *
    clear k1 k2
    go_wp2_with fail
    refine (fA.out _).mono ?_
    rintro e w' ⟨rfl, rfl⟩
    go_wp2_with fail
    refine (fB.out _).mono ?_
    rintro e w' ⟨rfl, rfl⟩
    clear fA fB
    go_wp2
    have hq := fun x y o => wrote2_past (x := x) (y := y) o r0 r1
    refine bodyPost_ret (res_pair Try.results36 rfl rfl (hq _ _ _).1 (hq _ _ _).2) rfl ?_
    refine ⟨ret_make A0.out, (HB3.out.setCell (by simp; omega) _ |>.setCell (by simp; omega) _).alloc (by simp; omega) _⟩
  · replace A0 : Hid _ := A0.out rfl
    clear fM A1 W0
    have gX : Hid _ := fX.out ((fitB_iff _).1 k1) ((fitB_iff _).1 k2)
    rw [(fit_yes ((fitB_iff _).1 k1)).1, (fit_yes ((fitB_iff _).1 k1)).2] at fA
    rw [(fit_yes ((fitB_iff _).1 k2)).1, (fit_yes ((fitB_iff _).1 k2)).2] at fB
    rw [k3] at gX
    generalize fitV X = VX at *
    generalize fitV Y = VY at *
    generalize fitB Y = BY at *
    clear k1 k2 k3 fX
    go_wp2_with fail
    refine (fA.out _).mono ?_
    rintro e w' ⟨rfl, rfl⟩
    go_wp2_with fail
    refine (fB.out _).mono ?_
    rintro e w' ⟨rfl, rfl⟩
    clear fA fB
    go_wp2_with fail
    refine (gX.out _).mono ?_
    rintro e w' ⟨rfl, rfl⟩
    go_wp2_with fail
    refine (fY.out _).mono ?_
    rintro e w' ⟨rfl, rfl⟩
    clear gX fY
    go_wp2
    have hq := fun x y o => wrote2_past (x := x) (y := y) o r0 r1
    refine bodyPost_ret (res_pair Try.results36 rfl rfl (hq _ _ _).1 (hq _ _ _).2) rfl ?_
    refine ⟨ret_make A0.out, (HB3.out.setCell (by simp; omega) _ |>.setCell (by simp; omega) _).alloc (by simp; omega) _⟩
  · replace A0 : Hid _ := A0.out rfl
    clear fM A1 W0
    have gX : Hid _ := fX.out ((fitB_iff _).1 k1) ((fitB_iff _).1 k2)
    rw [(fit_yes ((fitB_iff _).1 k1)).1, (fit_yes ((fitB_iff _).1 k1)).2] at fA
    rw [(fit_yes ((fitB_iff _).1 k2)).1, (fit_yes ((fitB_iff _).1 k2)).2] at fB
    rw [(fit_yes ((fitB_iff _).1 k3)).1, (fit_yes ((fitB_iff _).1 k3)).2] at gX
    rw [k4] at fY
    generalize fitV Y = VY at *
    clear k1 k2 k3 k4 fX
    go_wp2_with fail
    refine (fA.out _).mono ?_
    rintro e w' ⟨rfl, rfl⟩
    go_wp2_with fail
    refine (fB.out _).mono ?_
    rintro e w' ⟨rfl, rfl⟩
    clear fA fB
    go_wp2_with fail
    refine (gX.out _).mono ?_
    rintro e w' ⟨rfl, rfl⟩
    go_wp2_with fail
    refine (fY.out _).mono ?_
    rintro e w' ⟨rfl, rfl⟩
    clear gX fY
    go_wp2
    have hq := fun x y o => wrote2_past (x := x) (y := y) o r0 r1
    refine bodyPost_ret (res_pair Try.results36 rfl rfl (hq _ _ _).1 (hq _ _ _).2) rfl ?_
    refine ⟨ret_make A0.out, (HB3.out.setCell (by simp; omega) _ |>.setCell (by simp; omega) _).alloc (by simp; omega) _⟩
  · replace A1 : Hid _ := A1.out rfl
    clear A0 W0
    have gX : Hid _ := fX.out ((fitB_iff _).1 k1) ((fitB_iff _).1 k2)
    have gM : Hid _ := fM.out ((fitB_iff _).1 k3) ((fitB_iff _).1 k4)
    rw [(fit_yes ((fitB_iff _).1 k1)).1, (fit_yes ((fitB_iff _).1 k1)).2] at fA
    rw [(fit_yes ((fitB_iff _).1 k2)).1, (fit_yes ((fitB_iff _).1 k2)).2] at fB
    rw [(fit_yes ((fitB_iff _).1 k3)).1, (fit_yes ((fitB_iff _).1 k3)).2] at gX
    rw [(fit_yes ((fitB_iff _).1 k4)).1, (fit_yes ((fitB_iff _).1 k4)).2] at fY
    clear k1 k2 k3 k4 fX fM
    go_wp2_with fail
    refine (fA.out _).mono ?_
    rintro e w' ⟨rfl, rfl⟩
    go_wp2_with fail
    refine (fB.out _).mono ?_
    rintro e w' ⟨rfl, rfl⟩
    clear fA fB
    go_wp2_with fail
    refine (gX.out _).mono ?_
    rintro e w' ⟨rfl, rfl⟩
    go_wp2_with fail
    refine (fY.out _).mono ?_
    rintro e w' ⟨rfl, rfl⟩
    clear gX fY
    go_wp2_with fail
    refine (gM.out _).mono ?_
    rintro e w4 ⟨rfl, hb⟩
    have HB4 : Hid (Below w.heap.size w w4) := below_trans (HB3.out.alloc (by omega) _) hb
    have S3 : Has w3 (w.heap.size + 1 + 1) (.int .i64 0) (.int .i64 0) := ⟨r0, r1, v0, v1, vl⟩
    have S4 := Has.below (Has.alloc S3 _) hb
    clear hb S3 r0 r1 v0 v1 vl c0 c1 z0 z1 zl d0 d1 y0 y1 yl gM
    obtain ⟨r0, r1, v0, v1, vl⟩ := S4
    go_wp2
    have hq := fun x y => wrote2 (x := x) (y := y) r0 r1
    refine bodyPost_ret (res_pair Try.results36 rfl rfl (hq _ _).1 (hq _ _).2) rfl ?_
    exact ⟨ret_make A1.out, HB4.out.setCell (by simp; omega) _ |>.setCell (by simp; omega) _⟩

theorem fadd_any (an ad bn bd : Int) (w : World) (h1 : I64 an) (h2 : I64 ad) (h3 : I64 bn) (h4 : I64 bd) :
    Calls Try.prog 36 #[rv an ad, rv bn bd] w fun e w' => e = .returned (.tuple #[rv (addN an ad bn bd) (addD an ad bn bd), .int .i64 (addE an ad bn bd)]) ∧ Below w.heap.size w w' := by
  cases hr : mulR an ad bn bd
  · exact fadd_not an ad bn bd w h1 h2 h3 h4 hr
  · exact fadd_both an ad bn bd w h1 h2 h3 h4 hr
end Go.Proofs.Ytbojdlagacanoaa
