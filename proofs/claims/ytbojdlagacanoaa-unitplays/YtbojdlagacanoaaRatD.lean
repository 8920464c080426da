/-
  What ratio.Mul returns, called with any two fractions of numbers of 64 bits. Condition: the arguments are numbers of 64 bits.
-/
import Derived.Test.YtbojdlagacanoaaRatC
import Derived.Deep.RegionHeld3
import Derived.Deep.CutRange
namespace Go.Proofs.Ytbojdlagacanoaa
open Go.RowKit
set_option linter.unusedVariables false

theorem mul_not {an ad bn bd : Int} (h : mulR an ad bn bd = false) : mulN an ad bn bd = 0 ∧ mulD an ad bn bd = 0 ∧ mulE an ad bn bd = 1 := by
  unfold mulN mulD mulE; simp [mulOk, h]
theorem mul_over2 {an ad bn bd : Int} (h : mulR an ad bn bd = true) (k : mulOk an ad bn bd = false) : mulN an ad bn bd = 0 ∧ mulD an ad bn bd = 0 ∧ mulE an ad bn bd = 2 := by
  unfold mulN mulD mulE; simp [k, h]
theorem mul_yes {an ad bn bd : Int} (h : mulR an ad bn bd = true) (k : mulOk an ad bn bd = true) :
    mulN an ad bn bd = mulX an ad bn bd ∧ mulD an ad bn bd = mulY an ad bn bd ∧ mulE an ad bn bd = 0 := by
  unfold mulN mulD mulE; simp [k, h]
theorem mul_ways {an ad bn bd : Int} (h : mulR an ad bn bd = true) :
    (fitB (mulX an ad bn bd) = false ∧ mulOk an ad bn bd = false)
    ∨ (fitB (mulX an ad bn bd) = true ∧ fitB (mulY an ad bn bd) = false ∧ mulOk an ad bn bd = false)
    ∨ (fitB (mulX an ad bn bd) = true ∧ fitB (mulY an ad bn bd) = true ∧ mulOk an ad bn bd = true) := by
  unfold mulOk
  rw [h]
  cases fitB (mulX an ad bn bd) <;> cases fitB (mulY an ad bn bd) <;> simp

/-- what stays while the two calls and the two new blocks come, in whatever order -/
def Stay (w : World) (an ad bn bd : Int) (x : World) : Prop :=
  Has x w.heap.size (.int .i64 an) (.int .i64 ad) ∧ Has x (w.heap.size + 1) (.int .i64 bn) (.int .i64 bd) ∧ Has x (w.heap.size + 1 + 1) (.int .i64 0) (.int .i64 0) ∧ Below w.heap.size w x
theorem Stay.below {w y x : World} {an ad bn bd : Int} (h : Stay w an ad bn bd y) (hb : Below y.heap.size y x) : Stay w an ad bn bd x :=
  ⟨h.1.below hb, h.2.1.below hb, h.2.2.1.below hb, below_trans h.2.2.2 hb⟩
theorem Stay.alloc {w y : World} {an ad bn bd : Int} (h : Stay w an ad bn bd y) (o : Obj) : Stay w an ad bn bd (y.alloc o) := h.below ((Below.refl _ _).alloc (Nat.le_refl _) _)
theorem Stay.drew {w y : World} {an ad bn bd : Int} (h : Stay w an ad bn bd y) : Stay w an ad bn bd y.drew := h.below (Below.refl _ _).drew
theorem Stay.allocDrew {w y : World} {an ad bn bd : Int} (h : Stay w an ad bn bd y.drew) (o : Obj) : Stay w an ad bn bd (y.alloc o).drew := Stay.alloc (y := y.drew) h o

theorem Has.setOwn {y : World} {s : Nat} {a b u v : Value} (h : Has y s a b) : Has ((y.setCell ⟨s, 0, none⟩ u).setCell ⟨s, 1, none⟩ v) s u v :=
  ⟨(wrote2 h.1 h.2.1).1, (wrote2 h.1 h.2.1).2, by simpa using h.2.2.1, by simpa using h.2.2.2.1, by simpa using h.2.2.2.2⟩
theorem Has.setFar {y : World} {s k : Nat} {a b u v : Value} (h : Has y k a b) (hk : k ≠ s) : Has ((y.setCell ⟨s, 0, none⟩ u).setCell ⟨s, 1, none⟩ v) k a b := by
  have e : ∀ i j, (⟨s, i, none⟩ : Addr) ≠ ⟨k, j, none⟩ := fun i j e => hk (by cases e; rfl)
  refine ⟨?_, ?_, by simpa using h.2.2.1, by simpa using h.2.2.2.1, by simpa using h.2.2.2.2⟩
  · rw [World.cell?_setCell_other _ _ _ _ (e _ _), World.cell?_setCell_other _ _ _ _ (e _ _)]; exact h.1
  · rw [World.cell?_setCell_other _ _ _ _ (e _ _), World.cell?_setCell_other _ _ _ _ (e _ _)]; exact h.2.1
theorem Stay.set2 {w y : World} {an ad bn bd : Int} (h : Stay w an ad bn bd y) {s : Nat} (hs : w.heap.size + 1 + 1 < s) (u v : Value) : Stay w an ad bn bd ((y.setCell ⟨s, 0, none⟩ u).setCell ⟨s, 1, none⟩ v) :=
  ⟨h.1.setFar (by omega), h.2.1.setFar (by omega), h.2.2.1.setFar (by omega), (h.2.2.2.setCell (by simp; omega) _).setCell (by simp; omega) _⟩
theorem Stay.size {w y : World} {an ad bn bd : Int} (h : Stay w an ad bn bd y) : w.heap.size + 1 + 1 < y.heap.size := h.2.2.1.2.2.2.2
theorem has_at {w : World} {b : Nat} (x y : Value) (t : TypeId) (h : b = w.heap.size) : Has (w.alloc (.cells #[x, y] t)) b x y := by subst h; exact has_new w x y t
theorem has_newd (w : World) (x y : Value) (t : TypeId) : Has ((w.alloc (.cells #[x, y] t)).drew) w.heap.size x y := has_new w x y t
theorem has_newd2 (w : World) (x y : Value) (t : TypeId) (o : Obj) : Has (((w.alloc (.cells #[x, y] t)).alloc o).drew) w.heap.size x y := (has_new w x y t).alloc o
theorem has_new2 (w : World) (x y : Value) (t : TypeId) (o : Obj) : Has ((w.alloc (.cells #[x, y] t)).alloc o) w.heap.size x y := (has_new w x y t).alloc o

set_option maxHeartbeats 1000000 in
theorem fmul_not (an ad bn bd : Int) (w : World) (h1 : I64 an) (h2 : I64 ad) (h3 : I64 bn) (h4 : I64 bd) (hr : mulR an ad bn bd = false) :
    Calls Try.prog 34 #[rv an ad, rv bn bd] w fun e w' => e = .returned (.tuple #[rv (mulN an ad bn bd) (mulD an ad bn bd), .int .i64 (mulE an ad bn bd)]) ∧ Below w.heap.size w w' := by
  obtain ⟨e1, e2, e3⟩ := mul_not hr
  rw [e1, e2, e3]
  have fa : Hid (∀ w, Calls Try.prog 20 #[rv an ad] w fun e w' => e = .returned (.bool (rightB an ad)) ∧ Below w.heap.size w w') := fun w => right_any an ad w h1 h2
  have fb : Hid (∀ w, Calls Try.prog 20 #[rv bn bd] w fun e w' => e = .returned (.bool (rightB bn bd)) ∧ Below w.heap.size w w') := fun w => right_any bn bd w h3 h4
  unfold mulR at hr
  clear h1 h2 h3 h4 e1 e2 e3
  generalize rightB an ad = ra at *
  generalize rightB bn bd = rb at *
  have G0 : Hid (Below w.heap.size w (((w.alloc (.cells #[.int .i64 an, .int .i64 ad] 25)).alloc (.cells #[.int .i64 bn, .int .i64 bd] 25)).alloc (.cells #[.int .i64 0, .int .i64 0] 25))) := by unfold Hid; go_grown
  have H3 : Hid (∀ w : World, Has (w.alloc (.cells #[.int .i64 0, .int .i64 0] 25)) w.heap.size (.int .i64 0) (.int .i64 0)) := fun w => has_new w _ _ _
  have H2 : Hid (∀ w : World, Has (w.alloc (.cells #[.int .i64 bn, .int .i64 bd] 25)) w.heap.size (.int .i64 bn) (.int .i64 bd)) := fun w => has_new w _ _ _
  cases ra
  · clear hr fb
    go_enter Try.func34, Try.ntmps34
    go_wp2_with fail
    refine (fa.out _).mono ?_
    rintro e w1 ⟨rfl, hb⟩
    obtain ⟨c0, c1, z0, z1, zl⟩ := (H3.out _).below hb
    have HB : Hid (Below w.heap.size w w1) := below_trans G0.out hb
    clear hb fa G0 H3 H2
    simp only [World.size_alloc] at c0 c1 z0 z1 zl
    go_wp2
    have hq := fun x y => wrote2 (x := x) (y := y) c0 c1
    refine bodyPost_ret (res_pair Try.results34 rfl rfl (hq _ _).1 (hq _ _).2) rfl ?_
    exact ⟨rfl, HB.out.setCell (by simp; omega) _ |>.setCell (by simp; omega) _⟩
  · cases rb
    · clear hr
      go_enter Try.func34, Try.ntmps34
      go_wp2_with fail
      refine (fa.out _).mono ?_
      rintro e w1 ⟨rfl, hb⟩
      obtain ⟨c0, c1, z0, z1, zl⟩ := (H3.out _).below hb
      obtain ⟨d0, d1, y0, y1, yl⟩ := ((H2.out _).alloc _).below hb
      have H4 : Hid _ := (H3.out _).below hb
      have HB : Hid (Below w.heap.size w w1) := below_trans G0.out hb
      clear hb fa G0 H3 H2
      simp only [World.size_alloc] at c0 c1 z0 z1 zl d0 d1 y0 y1 yl H4
      go_wp2_with fail
      refine (fb.out _).mono ?_
      rintro e w2 ⟨rfl, hb⟩
      clear c0 c1 z0 z1 zl d0 d1 y0 y1 yl
      obtain ⟨c0, c1, z0, z1, zl⟩ := Has.below H4.out hb
      have HB2 : Hid (Below w.heap.size w w2) := below_trans HB.out hb
      clear hb fb HB H4
      go_wp2
      have hq := fun x y => wrote2 (x := x) (y := y) c0 c1
      refine bodyPost_ret (res_pair Try.results34 rfl rfl (hq _ _).1 (hq _ _).2) rfl ?_
      exact ⟨rfl, HB2.out.setCell (by simp; omega) _ |>.setCell (by simp; omega) _⟩
    · cases hr

set_option maxHeartbeats 4000000 in
theorem fmul_both (an ad bn bd : Int) (w : World) (h1 : I64 an) (h2 : I64 ad) (h3 : I64 bn) (h4 : I64 bd) (hr : mulR an ad bn bd = true) :
    Calls Try.prog 34 #[rv an ad, rv bn bd] w fun e w' => e = .returned (.tuple #[rv (mulN an ad bn bd) (mulD an ad bn bd), .int .i64 (mulE an ad bn bd)]) ∧ Below w.heap.size w w' := by
  have hr2 : rightB an ad = true ∧ rightB bn bd = true := by unfold mulR at hr; rwa [Bool.and_eq_true] at hr
  have ap := ((right_iff _ _).1 hr2.1).1
  have bp := ((right_iff _ _).1 hr2.2).1
  have fa : Hid (∀ w, Calls Try.prog 20 #[rv an ad] w fun e w' => e = .returned (.bool true) ∧ Below w.heap.size w w') := fun w => by
    have := right_any an ad w h1 h2; rwa [hr2.1] at this
  have fb : Hid (∀ w, Calls Try.prog 20 #[rv bn bd] w fun e w' => e = .returned (.bool true) ∧ Below w.heap.size w w') := fun w => by
    have := right_any bn bd w h3 h4; rwa [hr2.2] at this
  obtain ⟨q1, q2⟩ := red_pos (n := an) h4 bp
  obtain ⟨q3, q4⟩ := red_pos (n := bn) h2 ap
  have gp := gcdN_pos (n := an) (d := bd) (by omega)
  have kp := gcdN_pos (n := bn) (d := ad) (by omega)
  have b1 := td_bd gp h1
  have b2 := td_bd gp h4
  have b3 := td_bd kp h3
  have b4 := td_bd kp h2
  have fp : Hid (∀ w, Calls Try.prog 42 #[rv an bd] w fun e w' => e = .returned (rv (an.tdiv (gcdN an bd)) (bd.tdiv (gcdN an bd))) ∧ Below w.heap.size w w') := fun w => by
    have := reduced_any an bd w h1 h4 (by omega); rwa [q1, q2] at this
  have fq : Hid (∀ w, Calls Try.prog 42 #[rv bn ad] w fun e w' => e = .returned (rv (bn.tdiv (gcdN bn ad)) (ad.tdiv (gcdN bn ad))) ∧ Below w.heap.size w w') := fun w => by
    have := reduced_any bn ad w h3 h2 (by omega); rwa [q3, q4] at this
  have fX : Hid (∀ w, Calls Try.prog 43 #[.int .i64 (an.tdiv (gcdN an bd)), .int .i64 (bn.tdiv (gcdN bn ad))] w fun e w' => e = .returned (.tuple #[.int .i64 (fitV (mulX an ad bn bd)), .bool (fitB (mulX an ad bn bd))]) ∧ w' = w) := fun w => mul_any _ _ w b1 b3
  have fY : Hid (∀ w, Calls Try.prog 43 #[.int .i64 (bd.tdiv (gcdN an bd)), .int .i64 (ad.tdiv (gcdN bn ad))] w fun e w' => e = .returned (.tuple #[.int .i64 (fitV (mulY an ad bn bd)), .bool (fitB (mulY an ad bn bd))]) ∧ w' = w) := fun w => mul_any _ _ w b2 b4
  have A0 : Hid (mulOk an ad bn bd = false → mulN an ad bn bd = 0 ∧ mulD an ad bn bd = 0 ∧ mulE an ad bn bd = 2) := mul_over2 hr
  have A1 : Hid (mulOk an ad bn bd = true → mulN an ad bn bd = mulX an ad bn bd ∧ mulD an ad bn bd = mulY an ad bn bd ∧ mulE an ad bn bd = 0) := mul_yes hr
  have W := mul_ways hr
  generalize mulOk an ad bn bd = ok at *
  generalize mulN an ad bn bd = N at *
  generalize mulD an ad bn bd = D at *
  generalize mulE an ad bn bd = E at *
  generalize mulX an ad bn bd = X at *
  generalize mulY an ad bn bd = Y at *
  generalize an.tdiv (gcdN an bd) = p1 at *
  generalize bd.tdiv (gcdN an bd) = p2 at *
  generalize bn.tdiv (gcdN bn ad) = q1' at *
  generalize ad.tdiv (gcdN bn ad) = q2' at *
  clear h1 h2 h3 h4 hr hr2 ap bp q1 q2 q3 q4 gp kp b1 b2 b3 b4
  have G0 : Hid (Below w.heap.size w (((w.alloc (.cells #[.int .i64 an, .int .i64 ad] 25)).alloc (.cells #[.int .i64 bn, .int .i64 bd] 25)).alloc (.cells #[.int .i64 0, .int .i64 0] 25))) := by unfold Hid; go_grown
  have H3 : Hid (∀ w : World, Has (w.alloc (.cells #[.int .i64 0, .int .i64 0] 25)) w.heap.size (.int .i64 0) (.int .i64 0)) := fun w => has_new w _ _ _
  have H2 : Hid (∀ w : World, Has (w.alloc (.cells #[.int .i64 bn, .int .i64 bd] 25)) w.heap.size (.int .i64 bn) (.int .i64 bd)) := fun w => has_new w _ _ _
  have H1 : Hid (∀ w : World, Has (w.alloc (.cells #[.int .i64 an, .int .i64 ad] 25)) w.heap.size (.int .i64 an) (.int .i64 ad)) := fun w => has_new w _ _ _
  have W0 : Hid _ := W
  clear W
  go_enter Try.func34, Try.ntmps34
  go_wp2_with fail
  refine (fa.out _).mono ?_
  rintro e w1 ⟨rfl, hb⟩
  have K3 := Has.below (H3.out _) hb
  have K2 := Has.below (Has.alloc (H2.out _) _) hb
  have K1 := Has.below (Has.alloc (Has.alloc (H1.out _) _) _) hb
  have HB : Hid (Below w.heap.size w w1) := below_trans G0.out hb
  clear hb fa G0 H3 H2 H1
  simp only [World.size_alloc] at K1 K2 K3
  obtain ⟨d0, d1, y0, y1, yl⟩ := K2
  have X1 : Hid _ := K1
  have X3 : Hid _ := K3
  have X2 : Hid (Has w1 (w.heap.size + 1) (.int .i64 bn) (.int .i64 bd)) := ⟨d0, d1, y0, y1, yl⟩
  clear K1 K3
  go_wp2_with fail
  clear d0 d1 y0 y1 yl
  refine (fb.out _).mono ?_
  rintro e w2 ⟨rfl, hb⟩
  have HB2 : Hid (Below w.heap.size w w2) := below_trans HB.out hb
  have Y1 : Hid _ := Has.below X1.out hb
  have Y2 : Hid _ := Has.below X2.out hb
  have Y3 : Hid _ := Has.below X3.out hb
  clear hb fb HB X1 X2 X3
  obtain ⟨c0, c1, z0, z1, zl⟩ := Y1.out
  obtain ⟨d0, d1, y0, y1, yl⟩ := Y2.out
  obtain ⟨r0, r1, v0, v1, vl⟩ := Y3.out
  clear Y1 Y2 Y3
  go_upto_region 3 with fail
  go_cut [6, 7] from 21 to 32 (fun s6 s7 wx => ∃ b6 b7 : Nat, s6 = .pointer (some ⟨b6, 0, none⟩) ∧ s7 = .pointer (some ⟨b7, 0, none⟩) ∧ Has wx b6 (.int .i64 p1) (.int .i64 p2) ∧ Has wx b7 (.int .i64 q1') (.int .i64 q2') ∧ Has wx (w.heap.size + 1 + 1) (.int .i64 0) (.int .i64 0) ∧ Below w.heap.size w wx)
  case first =>
    have St : Hid (Stay w an ad bn bd w2) := ⟨⟨c0, c1, z0, z1, zl⟩, ⟨d0, d1, y0, y1, yl⟩, ⟨r0, r1, v0, v1, vl⟩, HB2.out⟩
    clear fX fY A0 A1 W0 c0 c1 z0 z1 zl d0 d1 y0 y1 yl r0 r1 v0 v1 vl HB2
    have vl0 : w.heap.size + 1 + 1 < w2.heap.size := St.out.size
    go_region_held3 (fun x => (x.cell? ⟨w.heap.size, 0, none⟩ = some (.int .i64 an) ∧ x.cell? ⟨w.heap.size, 1, none⟩ = some (.int .i64 ad) ∧ x.frozen? ⟨w.heap.size, 0, none⟩ = false ∧ x.frozen? ⟨w.heap.size, 1, none⟩ = false ∧ w.heap.size < x.heap.size) ∧
        (x.cell? ⟨w.heap.size + 1, 0, none⟩ = some (.int .i64 bn) ∧ x.cell? ⟨w.heap.size + 1, 1, none⟩ = some (.int .i64 bd) ∧ x.frozen? ⟨w.heap.size + 1, 0, none⟩ = false ∧ x.frozen? ⟨w.heap.size + 1, 1, none⟩ = false ∧ w.heap.size + 1 < x.heap.size) ∧
        (x.cell? ⟨w.heap.size + 1 + 1, 0, none⟩ = some (.int .i64 0) ∧ x.cell? ⟨w.heap.size + 1 + 1, 1, none⟩ = some (.int .i64 0) ∧ x.frozen? ⟨w.heap.size + 1 + 1, 0, none⟩ = false ∧ x.frozen? ⟨w.heap.size + 1 + 1, 1, none⟩ = false ∧ w.heap.size + 1 + 1 < x.heap.size) ∧
        Below w.heap.size w x)
      ((show Stay w an ad bn bd _; (repeat (first | with_reducible exact St.out | with_reducible exact K1.out | with_reducible exact K2.out | with_reducible refine Stay.drew ?_ | with_reducible refine Stay.alloc ?_ _ | with_reducible refine Stay.set2 ?_ ?_ _ _ | omega))))
      (first
        | (go_at_call_of 42 an; refine (fp.out _).mono ?_; rintro e x1 ⟨rfl, hb1⟩
           have K1 : Hid (Stay w an ad bn bd x1) := by
             refine Stay.below ?_ hb1
             (repeat (first | with_reducible exact St.out | with_reducible refine Stay.drew ?_ | with_reducible refine Stay.alloc ?_ _))
           have L1 : w.heap.size + 1 + 1 < x1.heap.size := K1.out.size
           try (with_reducible have N1 := Has.below (has_newd _ _ _ _) hb1)
           try (with_reducible have N2 := Has.below (has_newd2 _ _ _ _ _) hb1)
           try simp only [World.size_alloc] at N1
           try (have E1 := Nat.ne_of_lt N1.2.2.2.2)
           try (have E2 := (Nat.ne_of_lt N1.2.2.2.2).symm)
           try (replace N1 : Hid _ := N1)
           try (replace N2 : Hid _ := N2))
        | (go_at_call_of 42 bn; refine (fq.out _).mono ?_; rintro e x2 ⟨rfl, hb2⟩
           have K2 : Hid (Stay w an ad bn bd x2) := by
             refine Stay.below ?_ hb2
             (repeat (first | with_reducible exact K1.out | with_reducible refine Stay.alloc ?_ _))
           have L2 : w.heap.size + 1 + 1 < x2.heap.size := K2.out.size
           try (with_reducible have M1 := Has.below (has_new _ _ _ _) hb2)
           try (with_reducible have M2 := Has.below (has_new2 _ _ _ _ _) hb2)
           try (have M3 := Has.below (w := x1) N1.out hb2)
           try (have M3 := Has.below (Has.alloc (w := x1) N1.out _) hb2)
           try (have M4 := Has.below (w := x1) N2.out hb2)
           try simp only [World.size_alloc] at M1
           try (have m1 : Hid _ := M1)
           try (have m2 : Hid _ := M2)
           try (have m3 : Hid _ := M3)
           try (have m4 : Hid _ := M4)
           try (obtain ⟨m10, m11, m12, m13, m14⟩ := M1)
           try (obtain ⟨m20, m21, m22, m23, m24⟩ := M2)
           try (obtain ⟨m30, m31, m32, m33, m34⟩ := M3)
           try (obtain ⟨m40, m41, m42, m43, m44⟩ := M4)))
    all_goals
      go_wp2_with fail
      go_meet
      refine ⟨_, _, rfl, rfl, ?_, ?_, (?_ : Stay w an ad bn bd _).2.2.1, (?_ : Stay w an ad bn bd _).2.2.2⟩
      all_goals (repeat (first
        | with_reducible exact K2.out | with_reducible refine Stay.alloc ?_ _ | with_reducible refine Stay.set2 ?_ ?_ _ _ | omega
        | ((with_reducible refine has_at _ _ _ ?_); first | rfl | (simp; done))
        | with_reducible refine Has.alloc ?_ _ | with_reducible refine Has.setOwn (a := .int .i64 0) (b := .int .i64 0) ?_ | with_reducible refine Has.setFar ?_ ?_
        | exact m1.out | exact m2.out | exact m3.out | exact m4.out))
  case rest =>
    obtain ⟨b6, b7, rfl, rfl, H6, H7, HR, HB⟩ := hcut
    have HB3 : Hid (Below w.heap.size w wc) := HB
    clear fp fq c0 c1 z0 z1 zl d0 d1 y0 y1 yl r0 r1 v0 v1 vl HB2 HB
    obtain ⟨c0, c1, z0, z1, zl⟩ := H6
    obtain ⟨d0, d1, y0, y1, yl⟩ := H7
    obtain ⟨r0, r1, v0, v1, vl⟩ := HR
    rcases W0.out with ⟨k1, rfl⟩ | ⟨k1, k2, rfl⟩ | ⟨k1, k2, rfl⟩
    · replace A0 : Hid _ := A0.out rfl
      clear A1 W0
      rw [k1] at fX
      generalize fitV X = VX at *
      generalize fitV Y = VY at *
      generalize fitB Y = BY at *
      clear k1
      go_wp2_with fail
      refine (fX.out _).mono ?_
      rintro e w' ⟨rfl, rfl⟩
      go_wp2_with fail
      refine (fY.out _).mono ?_
      rintro e w' ⟨rfl, rfl⟩
      clear fX fY
      go_wp2
      have hq := fun x y => wrote2 (x := x) (y := y) r0 r1
      refine bodyPost_ret (res_pair Try.results34 rfl rfl (hq _ _).1 (hq _ _).2) rfl ?_
      exact ⟨ret_make A0.out, HB3.out.setCell (by simp; omega) _ |>.setCell (by simp; omega) _⟩
    · replace A0 : Hid _ := A0.out rfl
      clear A1 W0
      rw [(fit_yes ((fitB_iff _).1 k1)).1, (fit_yes ((fitB_iff _).1 k1)).2] at fX
      rw [k2] at fY
      generalize fitV Y = VY at *
      clear k1 k2
      go_wp2_with fail
      refine (fX.out _).mono ?_
      rintro e w' ⟨rfl, rfl⟩
      go_wp2_with fail
      refine (fY.out _).mono ?_
      rintro e w' ⟨rfl, rfl⟩
      clear fX fY
      go_wp2
      have hq := fun x y => wrote2 (x := x) (y := y) r0 r1
      refine bodyPost_ret (res_pair Try.results34 rfl rfl (hq _ _).1 (hq _ _).2) rfl ?_
      exact ⟨ret_make A0.out, HB3.out.setCell (by simp; omega) _ |>.setCell (by simp; omega) _⟩
    · replace A1 : Hid _ := A1.out rfl
      clear A0 W0
      rw [(fit_yes ((fitB_iff _).1 k1)).1, (fit_yes ((fitB_iff _).1 k1)).2] at fX
      rw [(fit_yes ((fitB_iff _).1 k2)).1, (fit_yes ((fitB_iff _).1 k2)).2] at fY
      clear k1 k2
      go_wp2_with fail
      refine (fX.out _).mono ?_
      rintro e w' ⟨rfl, rfl⟩
      go_wp2_with fail
      refine (fY.out _).mono ?_
      rintro e w' ⟨rfl, rfl⟩
      clear fX fY
      go_wp2
      have hq := fun x y => wrote2 (x := x) (y := y) r0 r1
      refine bodyPost_ret (res_pair Try.results34 rfl rfl (hq _ _).1 (hq _ _).2) rfl ?_
      exact ⟨ret_make A1.out, HB3.out.setCell (by simp; omega) _ |>.setCell (by simp; omega) _⟩


theorem fmul_any (an ad bn bd : Int) (w : World) (h1 : I64 an) (h2 : I64 ad) (h3 : I64 bn) (h4 : I64 bd) :
    Calls Try.prog 34 #[rv an ad, rv bn bd] w fun e w' => e = .returned (.tuple #[rv (mulN an ad bn bd) (mulD an ad bn bd), .int .i64 (mulE an ad bn bd)]) ∧ Below w.heap.size w w' := by
  cases hr : mulR an ad bn bd
  · exact fmul_not an ad bn bd w h1 h2 h3 h4 hr
  · exact fmul_both an ad bn bd w h1 h2 h3 h4 hr
end Go.Proofs.Ytbojdlagacanoaa
