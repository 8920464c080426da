/-
  What the document's own Mul of fractions returns, called with any two right fractions. Condition: the arguments are right fractions of numbers of 64 bits.
-/
import Derived.Test.YtbojdlagacanoaaRatS
import Derived.Test.YtbojdlagacanoaaRatD
namespace Go.Proofs.Ytbojdlagacanoaa
open Go.RowKit
set_option linter.unusedVariables false

theorem mul_mk {an ad bn bd : Int} (h : mulR an ad bn bd = true) (k : mulOk an ad bn bd = true) :
    mulN an ad bn bd = mkN (mulX an ad bn bd) (mulY an ad bn bd) ∧ mulD an ad bn bd = mkD (mulX an ad bn bd) (mulY an ad bn bd) ∧ (mulE an ad bn bd == 0) = (mkE (mulX an ad bn bd) (mulY an ad bn bd) == 0) := by
  obtain ⟨e1, e2, e3⟩ := mul_yes h k
  have h2 : rightB an ad = true ∧ rightB bn bd = true := by unfold mulR at h; rwa [Bool.and_eq_true] at h
  have r := mul_right h2.1 h2.2
  have p := ((right_iff _ _).1 r).1
  have s := mk_self r
  unfold mulOk at k
  simp only [Bool.and_eq_true, fitB_iff] at k
  have o := mk_ok (n := mulX an ad bn bd) (d := mulY an ad bn bd) (by omega) (by rw [s.1]; exact k.2.1) (by rw [s.2]; exact k.2.2)
  rw [e1, e2, e3, o.1, o.2.1, o.2.2, s.1, s.2]
  exact ⟨rfl, rfl, rfl⟩

set_option maxHeartbeats 2000000 in
theorem rfmul_any (an ad bn bd : Int) (w : World) (h1 : I64 an) (h2 : I64 ad) (h3 : I64 bn) (h4 : I64 bd) (hr : mulR an ad bn bd = true) :
    Calls Try.prog 28 #[rv an ad, rv bn bd] w fun e w' => e = .returned (.tuple #[rv (mulN an ad bn bd) (mulD an ad bn bd), .bool (mulE an ad bn bd == 0)]) ∧ Below w.heap.size w w' := by
  have hr2 : rightB an ad = true ∧ rightB bn bd = true := by unfold mulR at hr; rwa [Bool.and_eq_true] at hr
  have ap := ((right_iff _ _).1 hr2.1).1
  have bp := ((right_iff _ _).1 hr2.2).1
  have gp := gcdN_pos (n := an) (d := bd) (by omega)
  have kp := gcdN_pos (n := bn) (d := ad) (by omega)
  have b1 := td_bd gp h1
  have b2 := td_bd gp h4
  have b3 := td_bd kp h3
  have b4 := td_bd kp h2
  have gl := gcdN_le (n := an) (d := bd) (by omega)
  have kl := gcdN_le (n := bn) (d := ad) (by omega)
  have gb : 0 < (gcdN an bd : Int) ∧ (gcdN an bd : Int) ≤ 9223372036854775807 := by unfold I64 at h4; omega
  have kb : 0 < (gcdN bn ad : Int) ∧ (gcdN bn ad : Int) ≤ 9223372036854775807 := by unfold I64 at h2; omega
  have fan : Hid (∀ w, Calls Try.prog 27 #[.int .i64 an] w fun e w' => e = .returned (.int .u64 (an.natAbs : Int)) ∧ w' = w) := fun w => rsize_any an w h1
  have fbd : Hid (∀ w, Calls Try.prog 27 #[.int .i64 bd] w fun e w' => e = .returned (.int .u64 (bd.natAbs : Int)) ∧ w' = w) := fun w => rsize_any bd w h4
  have fbn : Hid (∀ w, Calls Try.prog 27 #[.int .i64 bn] w fun e w' => e = .returned (.int .u64 (bn.natAbs : Int)) ∧ w' = w) := fun w => rsize_any bn w h3
  have fad : Hid (∀ w, Calls Try.prog 27 #[.int .i64 ad] w fun e w' => e = .returned (.int .u64 (ad.natAbs : Int)) ∧ w' = w) := fun w => rsize_any ad w h2
  have fg : Hid (∀ w, Calls Try.prog 26 #[.int .u64 (an.natAbs : Int), .int .u64 (bd.natAbs : Int)] w fun e w' => e = .returned (.int .u64 (gcdN an bd : Int)) ∧ ∃ k, w' = w.drewN k) := fun w => rgcd_any _ _ w (natAbs_bd h1) (natAbs_bd h4)
  have fk : Hid (∀ w, Calls Try.prog 26 #[.int .u64 (bn.natAbs : Int), .int .u64 (ad.natAbs : Int)] w fun e w' => e = .returned (.int .u64 (gcdN bn ad : Int)) ∧ ∃ k, w' = w.drewN k) := fun w => rgcd_any _ _ w (natAbs_bd h3) (natAbs_bd h2)
  have fX : Hid (∀ w, Calls Try.prog 37 #[.int .i64 (an.tdiv (gcdN an bd)), .int .i64 (bn.tdiv (gcdN bn ad))] w fun e w' => e = .returned (.tuple #[.int .i64 (fitV (mulX an ad bn bd)), .bool (fitB (mulX an ad bn bd))]) ∧ w' = w) := fun w => rmul_any _ _ w b1 b3
  have fY : Hid (∀ w, Calls Try.prog 37 #[.int .i64 (bd.tdiv (gcdN an bd)), .int .i64 (ad.tdiv (gcdN bn ad))] w fun e w' => e = .returned (.tuple #[.int .i64 (fitV (mulY an ad bn bd)), .bool (fitB (mulY an ad bn bd))]) ∧ w' = w) := fun w => rmul_any _ _ w b2 b4
  have fM : Hid (I64 (mulX an ad bn bd) → I64 (mulY an ad bn bd) → ∀ w, Calls Try.prog 38 #[.int .i64 (mulX an ad bn bd), .int .i64 (mulY an ad bn bd)] w fun e w' => e = .returned (.tuple #[rv (mkN (mulX an ad bn bd) (mulY an ad bn bd)) (mkD (mulX an ad bn bd) (mulY an ad bn bd)), .int .i64 (mkE (mulX an ad bn bd) (mulY an ad bn bd))]) ∧ Below w.heap.size w w') := fun k1 k2 w => rmake_any _ _ w k1 k2
  have A0 : Hid (mulOk an ad bn bd = false → mulN an ad bn bd = 0 ∧ mulD an ad bn bd = 0 ∧ (mulE an ad bn bd == 0) = false) := fun h => by obtain ⟨e1, e2, e3⟩ := mul_over2 hr h; exact ⟨e1, e2, by rw [e3]; rfl⟩
  have A1 : Hid (mulOk an ad bn bd = true → mulN an ad bn bd = mkN (mulX an ad bn bd) (mulY an ad bn bd) ∧ mulD an ad bn bd = mkD (mulX an ad bn bd) (mulY an ad bn bd) ∧ (mulE an ad bn bd == 0) = (mkE (mulX an ad bn bd) (mulY an ad bn bd) == 0)) := mul_mk hr
  have W := mul_ways hr
  have eX : Hid (mulX an ad bn bd = mulX an ad bn bd) := rfl
  generalize mulOk an ad bn bd = ok at *
  generalize mkN (mulX an ad bn bd) (mulY an ad bn bd) = mN at *
  generalize mkD (mulX an ad bn bd) (mulY an ad bn bd) = mD at *
  generalize mkE (mulX an ad bn bd) (mulY an ad bn bd) = mE at *
  generalize (mulE an ad bn bd == 0) = E at *
  generalize mulN an ad bn bd = N at *
  generalize mulD an ad bn bd = D at *
  generalize mulX an ad bn bd = X at *
  generalize mulY an ad bn bd = Y at *
  have e1 : Hid (∃ t, an.tdiv (gcdN an bd : Int) = t) := ⟨_, rfl⟩
  have e2 : Hid (∃ t, bd.tdiv (gcdN an bd : Int) = t) := ⟨_, rfl⟩
  have e3 : Hid (∃ t, bn.tdiv (gcdN bn ad : Int) = t) := ⟨_, rfl⟩
  have e4 : Hid (∃ t, ad.tdiv (gcdN bn ad : Int) = t) := ⟨_, rfl⟩
  generalize (gcdN an bd : Int) = g at *
  generalize (gcdN bn ad : Int) = k at *
  generalize (an.natAbs : Int) = p at *
  generalize (bd.natAbs : Int) = q at *
  generalize (bn.natAbs : Int) = r at *
  generalize (ad.natAbs : Int) = s at *
  obtain ⟨t1, q1⟩ := e1.out
  obtain ⟨t2, q2⟩ := e2.out
  obtain ⟨t3, q3⟩ := e3.out
  obtain ⟨t4, q4⟩ := e4.out
  rw [q1] at b1 fX
  rw [q3] at b3 fX
  rw [q2] at b2 fY
  rw [q4] at b4 fY
  unfold I64 at b1 b2 b3 b4
  have w1 : IntKind.i64.wrap t1 = t1 := Go.IntWalk.i64_in _ b1
  have w2 : IntKind.i64.wrap t2 = t2 := Go.IntWalk.i64_in _ b2
  have w3 : IntKind.i64.wrap t3 = t3 := Go.IntWalk.i64_in _ b3
  have w4 : IntKind.i64.wrap t4 = t4 := Go.IntWalk.i64_in _ b4
  have W0 : Hid _ := W
  obtain ⟨g0, g1⟩ := gb
  obtain ⟨k0, k1⟩ := kb
  have gz : (g == 0) = false := by simp; omega
  have gn : ¬ g = 0 := by omega
  have kz : (k == 0) = false := by simp; omega
  have kn : ¬ k = 0 := by omega
  clear h1 h2 h3 h4 hr hr2 ap bp gp kp gl kl e1 e2 e3 e4 W
  go_enter Try.func28, Try.ntmps28
  go_wp2_with fail
  go_quiet (first
    | (go_at_call_of 27 an; refine Calls.quiet_of_same (fan.out _))
    | (go_at_call_of 27 bd; refine Calls.quiet_of_same (fbd.out _))
    | (go_at_call 26; refine Calls.quiet_of (fg.out _)))
  clear fan fbd fg
  go_wp2_with fail
  go_quiet (first
    | (go_at_call_of 27 bn; refine quiet_more (fbn.out _))
    | (go_at_call_of 27 ad; refine quiet_more (fad.out _))
    | (go_at_call 26; refine quiet_more_drew (fk.out _)))
  clear fbn fad fk
  go_wp2_with fail
  go_quiet (first
    | (go_at_call 37; refine quiet_more (fX.out _)))
  clear fX
  go_wp2_with fail
  go_quiet (first
    | (go_at_call 37; refine quiet_more (fY.out _)))
  clear fY
  rcases W0.out with ⟨m1, rfl⟩ | ⟨m1, m2, rfl⟩ | ⟨m1, m2, rfl⟩
  · have H : Hid _ := A0.out rfl
    rw [m1]
    clear A0 A1 W0 fM eX m1
    go_wp2
    go_returns
    first
      | exact ⟨ret_rb H.out, below_set2 (below_drewN (by go_grown) _) (by simp; omega) (by simp; omega)⟩
      | exact ⟨ret_rb H.out, below_drewN (by go_grown) _⟩
  · have H : Hid _ := A0.out rfl
    rw [m1, m2]
    clear A0 A1 W0 fM eX m1 m2
    go_wp2
    go_returns
    first
      | exact ⟨ret_rb H.out, below_set2 (below_drewN (by go_grown) _) (by simp; omega) (by simp; omega)⟩
      | exact ⟨ret_rb H.out, below_drewN (by go_grown) _⟩
  · have H : Hid _ := A1.out rfl
    have gM : Hid _ := fM.out ((fitB_iff _).1 m1) ((fitB_iff _).1 m2)
    rw [(fit_yes ((fitB_iff _).1 m1)).2, (fit_yes ((fitB_iff _).1 m2)).2, m1, m2]
    clear A0 A1 W0 fM eX m1 m2
    go_wp2_with fail
    refine (gM.out _).mono ?_
    rintro e w9 ⟨rfl, hb4⟩
    have HB4 : Hid (Below w.heap.size w w9) := below_trans (below_drewN (by go_grown) _) hb4
    have S4 := Has.below (b := w.heap.size + 1 + 1) (x := .int .i64 0) (y := .int .i64 0) (has_drewN (has_lit _ _ _ (by simp)) _) hb4
    clear hb4 gM
    obtain ⟨r0, r1, v0, v1, vl⟩ := S4
    go_wp2
    have hq := fun x y o => wrote2_past (x := x) (y := y) o r0 r1
    refine bodyPost_ret (res_rpair Try.results28 rfl rfl (hq _ _ _).1 (hq _ _ _).2) rfl ?_
    exact ⟨ret_rb H.out, (HB4.out.setCell (by simp; omega) _ |>.setCell (by simp; omega) _).alloc (by simp; omega) _⟩
end Go.Proofs.Ytbojdlagacanoaa
