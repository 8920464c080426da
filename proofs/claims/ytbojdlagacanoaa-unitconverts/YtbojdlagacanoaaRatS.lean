/-
  What the document's own Add of fractions returns, called with any two right fractions. Condition: the arguments are right fractions of numbers of 64 bits.
-/
import Derived.Test.YtbojdlagacanoaaQMore
namespace Go.Proofs.Ytbojdlagacanoaa
open Go.RowKit
set_option linter.unusedVariables false

/-- a return of a fraction of the document's that lies in a block of its own, and of one thing more -/
theorem res_rpair {fn : Func} {p u : Tmp} (h : fn.results = #[.cell p 30, .tmp u]) {tmps : Array Value} {w : World} {b : Nat} {x y e : Value}
    (hp : tmps.getD p undef = .pointer (some ⟨b, 0, none⟩)) (hu : tmps.getD u undef = e) (h0 : w.cell? ⟨b, 0, none⟩ = some x) (h1 : w.cell? ⟨b, 1, none⟩ = some y) :
    (results fn tmps).run Try.prog w = .ok (.tuple #[.agg #[x, y], e]) w := by
  rw [results_cell_tmp h, hp, hu]
  simp only [asAddr]
  simp [go_sem, Result.andThen, h0, h1]
theorem ret_rb {a b n d : Int} {c e : Bool} (h : n = a ∧ d = b ∧ e = c) : Ending.returned (.tuple #[rv a b, .bool c]) = .returned (.tuple #[rv n d, .bool e]) := by rw [h.1, h.2.1, h.2.2]

set_option maxHeartbeats 2000000 in
theorem rfadd_any (an ad bn bd : Int) (w : World) (h1 : I64 an) (h2 : I64 ad) (h3 : I64 bn) (h4 : I64 bd) (hr : mulR an ad bn bd = true) :
    Calls Try.prog 29 #[rv an ad, rv bn bd] w fun e w' => e = .returned (.tuple #[rv (addN an ad bn bd) (addD an ad bn bd), .bool (addE an ad bn bd == 0)]) ∧ Below w.heap.size w w' := by
  have hr2 : rightB an ad = true ∧ rightB bn bd = true := by unfold mulR at hr; rwa [Bool.and_eq_true] at hr
  have dpos := ((right_iff _ _).1 hr2.2).1
  have gp := gcdN_pos (n := ad) (d := bd) (by omega)
  have b1 := td_bd gp h2
  have b2 := td_bd gp h4
  have gl := gcdN_le (n := ad) (d := bd) (by omega)
  have gb : 0 < (gcdN ad bd : Int) ∧ (gcdN ad bd : Int) ≤ 9223372036854775807 := by unfold I64 at h4; omega
  have fa : Hid (∀ w, Calls Try.prog 27 #[.int .i64 ad] w fun e w' => e = .returned (.int .u64 (ad.natAbs : Int)) ∧ w' = w) := fun w => rsize_any ad w h2
  have fb : Hid (∀ w, Calls Try.prog 27 #[.int .i64 bd] w fun e w' => e = .returned (.int .u64 (bd.natAbs : Int)) ∧ w' = w) := fun w => rsize_any bd w h4
  have fg : Hid (∀ w, Calls Try.prog 26 #[.int .u64 (ad.natAbs : Int), .int .u64 (bd.natAbs : Int)] w fun e w' => e = .returned (.int .u64 (gcdN ad bd : Int)) ∧ ∃ k, w' = w.drewN k) := fun w => rgcd_any _ _ w (natAbs_bd h2) (natAbs_bd h4)
  have fA : Hid (∀ w, Calls Try.prog 37 #[.int .i64 an, .int .i64 (bd.tdiv (gcdN ad bd))] w fun e w' => e = .returned (.tuple #[.int .i64 (fitV (addA an ad bn bd)), .bool (fitB (addA an ad bn bd))]) ∧ w' = w) := fun w => rmul_any _ _ w h1 b2
  have fB : Hid (∀ w, Calls Try.prog 37 #[.int .i64 bn, .int .i64 (ad.tdiv (gcdN ad bd))] w fun e w' => e = .returned (.tuple #[.int .i64 (fitV (addB an ad bn bd)), .bool (fitB (addB an ad bn bd))]) ∧ w' = w) := fun w => rmul_any _ _ w h3 b1
  have fY : Hid (∀ w, Calls Try.prog 37 #[.int .i64 ad, .int .i64 (bd.tdiv (gcdN ad bd))] w fun e w' => e = .returned (.tuple #[.int .i64 (fitV (addY an ad bn bd)), .bool (fitB (addY an ad bn bd))]) ∧ w' = w) := fun w => rmul_any _ _ w h2 b2
  have fX : Hid (∀ w, Calls Try.prog 39 #[.int .i64 (fitV (addA an ad bn bd)), .int .i64 (fitV (addB an ad bn bd))] w fun e w' => e = .returned (.tuple #[.int .i64 (fitV (fitV (addA an ad bn bd) + fitV (addB an ad bn bd))), .bool (fitB (fitV (addA an ad bn bd) + fitV (addB an ad bn bd)))]) ∧ w' = w) := fun w => radd_any _ _ w (fitV_bd _) (fitV_bd _)
  have fM : Hid (I64 (addX an ad bn bd) → I64 (addY an ad bn bd) → ∀ w, Calls Try.prog 38 #[.int .i64 (addX an ad bn bd), .int .i64 (addY an ad bn bd)] w fun e w' => e = .returned (.tuple #[rv (mkN (addX an ad bn bd) (addY an ad bn bd)) (mkD (addX an ad bn bd) (addY an ad bn bd)), .int .i64 (mkE (addX an ad bn bd) (addY an ad bn bd))]) ∧ Below w.heap.size w w') := fun k1 k2 w => rmake_any _ _ w k1 k2
  have A0 : Hid (addOk an ad bn bd = false → addN an ad bn bd = 0 ∧ addD an ad bn bd = 0 ∧ (addE an ad bn bd == 0) = false) := fun h => by obtain ⟨e1, e2, e3⟩ := add_over2 hr h; exact ⟨e1, e2, by rw [e3]; rfl⟩
  have A1 : Hid (addOk an ad bn bd = true → addN an ad bn bd = mkN (addX an ad bn bd) (addY an ad bn bd) ∧ addD an ad bn bd = mkD (addX an ad bn bd) (addY an ad bn bd) ∧ (addE an ad bn bd == 0) = (mkE (addX an ad bn bd) (addY an ad bn bd) == 0)) := fun h => by obtain ⟨e1, e2, e3⟩ := add_yes hr h; exact ⟨e1, e2, by rw [e3]⟩
  have W := add_ways hr
  have eX : Hid (addX an ad bn bd = addA an ad bn bd + addB an ad bn bd) := rfl
  generalize addOk an ad bn bd = ok at *
  generalize mkN (addX an ad bn bd) (addY an ad bn bd) = mN at *
  generalize mkD (addX an ad bn bd) (addY an ad bn bd) = mD at *
  generalize mkE (addX an ad bn bd) (addY an ad bn bd) = mE at *
  generalize (addE an ad bn bd == 0) = E at *
  generalize addN an ad bn bd = N at *
  generalize addD an ad bn bd = D at *
  generalize addA an ad bn bd = A at *
  generalize addB an ad bn bd = B at *
  generalize addX an ad bn bd = X at *
  generalize addY an ad bn bd = Y at *
  have e1 : Hid (∃ ta, ad.tdiv (gcdN ad bd : Int) = ta) := ⟨_, rfl⟩
  have e2 : Hid (∃ tb, bd.tdiv (gcdN ad bd : Int) = tb) := ⟨_, rfl⟩
  generalize (gcdN ad bd : Int) = g at *
  generalize (ad.natAbs : Int) = p at *
  generalize (bd.natAbs : Int) = q at *
  obtain ⟨ta, ha⟩ := e1.out
  obtain ⟨tb, hb⟩ := e2.out
  rw [ha] at fB b1
  rw [hb] at fA fY b2
  unfold I64 at b1 b2
  clear h1 h2 h3 h4 hr hr2 dpos gp gl e1 e2
  have W0 : Hid _ := W
  obtain ⟨g0, g1⟩ := gb
  have gz : (g == 0) = false := by simp; omega
  have gn : ¬ g = 0 := by omega
  have wa : IntKind.i64.wrap ta = ta := Go.IntWalk.i64_in _ b1
  have wb : IntKind.i64.wrap tb = tb := Go.IntWalk.i64_in _ b2
  clear W
  go_enter Try.func29, Try.ntmps29
  go_wp2_with fail
  go_quiet (first
    | (go_at_call_of 27 ad; refine Calls.quiet_of_same (fa.out _))
    | (go_at_call_of 27 bd; refine Calls.quiet_of_same (fb.out _))
    | (go_at_call 26; refine Calls.quiet_of (fg.out _)))
  clear fa fb fg
  go_wp2_with fail
  go_quiet (first
    | (go_at_call 37; refine quiet_more (fA.out _)))
  clear fA
  go_wp2_with fail
  go_quiet (first
    | (go_at_call 37; refine quiet_more (fB.out _)))
  clear fB
  go_wp2_with fail
  refine (fX.out _).mono ?_
  rintro e w' ⟨rfl, rfl⟩
  clear fX
  go_wp2_with fail
  go_quiet (first
    | (go_at_call 37; refine quiet_more (fY.out _)))
  clear fY
  rcases W0.out with ⟨k1, rfl⟩ | ⟨k1, k2, rfl⟩ | ⟨k1, k2, k3, rfl⟩ | ⟨k1, k2, k3, k4, rfl⟩ | ⟨k1, k2, k3, k4, rfl⟩
  · have H : Hid _ := A0.out rfl
    rw [k1]
    clear A0 A1 W0 fM eX k1
    go_wp2
    go_returns
    first
      | exact ⟨ret_rb H.out, below_set2 (below_drewN (by go_grown) _) (by simp; omega) (by simp; omega)⟩
      | exact ⟨ret_rb H.out, below_drewN (by go_grown) _⟩
  · have H : Hid _ := A0.out rfl
    rw [k1, k2]
    clear A0 A1 W0 fM eX k1 k2
    go_wp2
    go_returns
    first
      | exact ⟨ret_rb H.out, below_set2 (below_drewN (by go_grown) _) (by simp; omega) (by simp; omega)⟩
      | exact ⟨ret_rb H.out, below_drewN (by go_grown) _⟩
  · have H : Hid _ := A0.out rfl
    rw [(fit_yes ((fitB_iff _).1 k1)).2, (fit_yes ((fitB_iff _).1 k2)).2, ← eX.out, k1, k2, k3]
    clear A0 A1 W0 fM eX k1 k2 k3
    go_wp2
    go_returns
    first
      | exact ⟨ret_rb H.out, below_set2 (below_drewN (by go_grown) _) (by simp; omega) (by simp; omega)⟩
      | exact ⟨ret_rb H.out, below_drewN (by go_grown) _⟩
  · have H : Hid _ := A0.out rfl
    rw [(fit_yes ((fitB_iff _).1 k1)).2, (fit_yes ((fitB_iff _).1 k2)).2, ← eX.out, k1, k2, k3, k4]
    clear A0 A1 W0 fM eX k1 k2 k3 k4
    go_wp2
    go_returns
    first
      | exact ⟨ret_rb H.out, below_set2 (below_drewN (by go_grown) _) (by simp; omega) (by simp; omega)⟩
      | exact ⟨ret_rb H.out, below_drewN (by go_grown) _⟩
  · have H : Hid _ := A1.out rfl
    have gM : Hid _ := fM.out ((fitB_iff _).1 k3) ((fitB_iff _).1 k4)
    rw [(fit_yes ((fitB_iff _).1 k1)).2, (fit_yes ((fitB_iff _).1 k2)).2, ← eX.out, (fit_yes ((fitB_iff _).1 k3)).2, (fit_yes ((fitB_iff _).1 k4)).2, k1, k2, k3, k4]
    clear A0 A1 W0 fM eX k1 k2 k3 k4
    go_wp2_with fail
    refine (gM.out _).mono ?_
    rintro e w4 ⟨rfl, hb4⟩
    have HB4 : Hid (Below w.heap.size w w4) := below_trans (below_drewN (by go_grown) _) hb4
    have S4 := Has.below (b := w.heap.size + 1 + 1) (x := .int .i64 0) (y := .int .i64 0) (has_drewN (has_lit _ _ _ (by simp)) _) hb4
    clear hb4 gM
    obtain ⟨r0, r1, v0, v1, vl⟩ := S4
    go_wp2
    have hq := fun x y o => wrote2_past (x := x) (y := y) o r0 r1
    refine bodyPost_ret (res_rpair Try.results29 rfl rfl (hq _ _ _).1 (hq _ _ _).2) rfl ?_
    exact ⟨ret_rb H.out, (HB4.out.setCell (by simp; omega) _ |>.setCell (by simp; omega) _).alloc (by simp; omega) _⟩
end Go.Proofs.Ytbojdlagacanoaa
