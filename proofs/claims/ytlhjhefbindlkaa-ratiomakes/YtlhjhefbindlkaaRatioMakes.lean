/-
  What is proved: for any two numbers of 64 bits the statement RatioMakes (the fraction of any two numbers is the document's, right, and exactly so much) returns true. Conditions: none.
-/
import Derived.Test.YtlhjhefbindlkaaRows
import Derived.Test.YtlhjhefbindlkaaLawKit
import Derived.WalkKit
import Derived.ProofKit
import Derived.OpenShut
import Derived.ShutString
import Derived.ChangeOld
import Derived.Below
import Derived.Lib.SmallJoins
namespace Go.Proofs.Ytlhjhefbindlkaa.ratioMakes
open Go.ChangeShapes Go.WideShapes Go.ChangeAt Go.RowKit Go.Joins
open Go.ChangeMaps (open_string shut_string)
set_option linter.unusedVariables false

theorem own : ownKnob Try.prog.godebug = none := by kernel_rfl


/-- the three ways of a made fraction, as the statement asks -/
theorem make_facts (n d : Int) (hn : I64 n) (hd : I64 d) : ∃ N D E : Int, ∃ r : Bool, mkN n d = N ∧ mkD n d = D ∧ mkE n d = E ∧ rightB n d = r ∧ I64 N ∧ I64 D
    ∧ (E = 3 ∨ E = 2 ∨ (E = 0 ∧ rightB N D = true ∧ 0 < D ∧ d ≠ 0 ∧ N * d = n * D)) := by
  refine ⟨_, _, _, _, rfl, rfl, rfl, rfl, (mk_bd n d).1, (mk_bd n d).2, ?_⟩
  rcases mkE_cases n d with ⟨h, _⟩ | ⟨h, _⟩ | ⟨h, h0, h1, h2, _⟩
  · exact .inl h
  · exact .inr (.inl h)
  · refine .inr (.inr ⟨h, ?_, ?_, h0, ?_⟩)
    · rw [h1, h2]; exact mk_right h0
    · rw [h2]; exact mkY_pos h0
    · rw [h1, h2]; exact mk_exact n d


set_option maxHeartbeats 2000000 in
theorem walk (a0 : Int) (h0 : I64 a0) (a1 : Int) (h1 : I64 a1) (w : World) :
    Calls Try.prog 3 #[.int .i64 a0, .int .i64 a1] w fun e w' => e = .returned (.bool true) ∧ Below w.heap.size w w' := by
  obtain ⟨N, D, E, r, e1, e2, e3, e4, bN, bD, hc⟩ := make_facts a0 a1 h0 h1
  have f1 : Hid (∀ w, Calls Try.prog 10 #[.int .i64 a0, .int .i64 a1] w fun e w' => e = .returned (.tuple #[rv N D, .int .i64 E]) ∧ Below w.heap.size w w') := fun w => by
    have := make_any a0 a1 w h0 h1; rwa [e1, e2, e3] at this
  have f2 : Hid (∀ w, Calls Try.prog 11 #[.int .i64 a0, .int .i64 a1] w fun e w' => e = .returned (.tuple #[rv N D, .int .i64 E]) ∧ Below w.heap.size w w') := fun w => by
    have := rmake_any a0 a1 w h0 h1; rwa [e1, e2, e3] at this
  have f3 : Hid (∀ w, Calls Try.prog 13 #[rv a0 a1] w fun e w' => e = .returned (.bool r) ∧ Below w.heap.size w w') := fun w => by
    have := right_any a0 a1 w h0 h1; rwa [e4] at this
  have f4 : Hid (∀ w, Calls Try.prog 14 #[rv a0 a1] w fun e w' => e = .returned (.bool r) ∧ Below w.heap.size w w') := fun w => by
    have := rright_any a0 a1 w h0 h1; rwa [e4] at this
  have f5 : Hid (rightB N D = true → ∀ w, Calls Try.prog 13 #[rv N D] w fun e w' => e = .returned (.bool true) ∧ Below w.heap.size w w') := fun h w => by
    have := right_any N D w bN bD; rwa [h] at this
  have f6 : Hid (0 < D ∧ a1 ≠ 0 ∧ N * a1 = a0 * D → ∀ w, Calls Try.prog 15 #[rv N D, .int .i64 a0, .int .i64 a1] w fun e w' => e = .returned (.bool true) ∧ Below w.heap.size w w') := fun h w =>
    ralike_true N D a0 a1 w bN bD h0 h1 h.1 h.2.1 h.2.2
  have HC : Hid _ := hc
  clear e1 e2 e3 e4 bN bD h0 h1 hc
  cases r
  all_goals
    go_enter Try.func3, Try.ntmps3
    go_wp2_with fail
    refine (awake2_any _).mono ?_
    rintro e w1 ⟨rfl, hb⟩
    have B1 : Hid (Below w.heap.size w w1) := hb
    clear hb
    go_wp2_with fail
    refine (f1.out _).mono ?_
    rintro e w2 ⟨rfl, hb⟩
    have B2 : Hid (Below w.heap.size w w2) := below_trans B1.out hb
    clear hb B1 f1
    go_wp2_with fail
    refine (f2.out _).mono ?_
    rintro e w3 ⟨rfl, hb⟩
    have B3 : Hid (Below w.heap.size w w3) := below_trans (B2.out.alloc B2.out.size _) hb
    have H5 : Hid (Has w3 w2.heap.size (.int .i64 N) (.int .i64 D)) := Has.below (has_new _ _ _ _) hb
    clear hb B2 f2
    go_wp2_with fail
    have B4 : Hid (Below w.heap.size w (w3.alloc (.cells #[.int .i64 N, .int .i64 D] 28))) := B3.out.alloc B3.out.size _
    have G5 : Hid (Has (w3.alloc (.cells #[.int .i64 N, .int .i64 D] 28)) w2.heap.size (.int .i64 N) (.int .i64 D)) := Has.alloc H5.out _
    have G7 : Hid (Has (w3.alloc (.cells #[.int .i64 N, .int .i64 D] 28)) w3.heap.size (.int .i64 N) (.int .i64 D)) := has_new _ _ _ _
    clear B3 H5
    generalize w3.alloc (.cells #[.int .i64 N, .int .i64 D] 28) = w4 at *
    have k0 := cell_regrown G5.out.1
    have k1 := cell_regrown G5.out.2.1
    have k2 := cell_regrown G7.out.1
    have k3 := cell_regrown G7.out.2.1
    refine wp_region_quiet_below (by kernel_rfl) (by kernel_rfl) ?_
    repeat (go_big_quiet_step (first
      | (go_at_call 12; with_reducible exact Calls.regrown_of (plain_any N D _))
      | (go_at_call 13; with_reducible exact Calls.regrown_of (f3.out _))
      | (go_at_call 14; with_reducible exact Calls.regrown_of (f4.out _))))
    refine wpQuiet_nil ?_
    intro _ hw'
    obtain ⟨⟨dq, osq⟩, hw''⟩ := hw'
    subst hw''
    clear k0 k1 k2 k3 f3 f4
    have hb := below_regrown w4 dq osq
    replace B4 : Hid (Below w.heap.size w (Sort.grow (redrawn w4 dq) osq)) := below_trans B4.out hb
    replace G5 : Hid (Has (Sort.grow (redrawn w4 dq) osq) w2.heap.size (.int .i64 N) (.int .i64 D)) := G5.out.below hb
    replace G7 : Hid (Has (Sort.grow (redrawn w4 dq) osq) w3.heap.size (.int .i64 N) (.int .i64 D)) := G7.out.below hb
    clear hb
    generalize Sort.grow (redrawn w4 dq) osq = w5 at *
    rcases HC.out with rfl | rfl | ⟨rfl, hr, hq⟩
    · clear f5 f6 HC
      go_wp2
      go_ret
      exact ⟨rfl, B4.out⟩
    · clear f5 f6 HC
      go_wp2
      go_ret
      exact ⟨rfl, B4.out⟩
    · have f7 : Hid _ := f5.out hr
      have f8 : Hid _ := f6.out hq
      clear f5 f6 HC hr hq
      obtain ⟨c0, c1, z0, z1, zl⟩ := G5.out
      go_wp2_with fail
      refine (f7.out _).mono ?_
      rintro e w6 ⟨rfl, hb⟩
      have B6 : Hid (Below w.heap.size w w6) := below_trans B4.out hb
      have G8 : Hid (Has w6 w3.heap.size (.int .i64 N) (.int .i64 D)) := G7.out.below hb
      clear hb f7 B4 G5 G7 c0 c1 z0 z1 zl
      obtain ⟨c0, c1, z0, z1, zl⟩ := G8.out
      go_wp2_with fail
      refine (f8.out _).mono ?_
      rintro e w7 ⟨rfl, hb⟩
      have B7 : Hid (Below w.heap.size w w7) := below_trans B6.out hb
      clear hb f8 B6 G8 c0 c1 z0 z1 zl
      go_wp2
      go_ret
      exact ⟨rfl, B7.out⟩

set_option maxRecDepth 100000 in
theorem lifted (os : Os) (started : os.Started) (H : Type) (enc : TypeId × Value → H) :
    ReturnsInHanded {} Try.checked os 3 .any (Rows.ratioMakesSpec.pre6 enc Try.prog Try.f3 Rows.ratioMakesRow.domain false) (Rows.ratioMakesSpec.post enc Try.prog Try.f3 false true false false) := by
  refine returnsInHanded_of_change (C := Try.checked) own started (by kernel_rfl) Try.func3
    (ChangeSpec.witness6 (enc := enc) (C := Try.checked) false ⟨#[], #[.int .i64 0, .int .i64 0], []⟩ 8 (by kernel_rfl) (by kernel_rfl) (by kernel_rfl) (by kernel_rfl)) ?_
  intro W base args ds gs before hval0 hW hcnd _
  have hval : ∀ (j : Nat) t v, Try.f3.params[j]? = some t → args[j]? = some v → Value.okWide Try.prog W .any base t v := hval0
  have hW' := hW
  obtain ⟨p, q, hA0, hV, rfl, hfz, hnd⟩ := hW
  have hA : DataW.TrodAll enc Try.prog W 0 (fun _ => true) true Try.f3.params.toList args.toList ds p := hA0
  rw [Try.params3] at hA hval
  obtain ⟨v0, vs0, dd0, ds0, p0, q0, hargs, rfl, rfl, hh0, r0⟩ := trodAll_cons hA
  obtain ⟨v1, vs1, dd1, ds1, p1, q1, rfl, rfl, rfl, hh1, r1⟩ := trodAll_cons r0
  obtain ⟨rfl, rfl, rfl⟩ := trodAll_nil r1
  obtain rfl : args = #[v0, v1] := by cases args; simp_all
  obtain ⟨rfl, rfl⟩ := trodVars_none hV
  obtain ⟨a0, rfl, rfl, rfl, w0⟩ := open_int Try.underlying2 (hval 0 2 v0 rfl rfl) hh0
  obtain ⟨a1, rfl, rfl, rfl, w1⟩ := open_int Try.underlying2 (hval 1 2 v1 rfl rfl) hh1
  clear hA0 hval0

  refine (walk a0 (bounds_i64 w0) a1 (bounds_i64 w1) W).mono fun e W' ⟨he, bel⟩ => ?_
  subst he
  exact ⟨_, rfl, _, _, _, [], _, [], hW', trodAll_mk1 (shut_bool Try.underlying4 _), (trodAll_cons_mk (shut_int Try.underlying2 w0) (trodAll_cons_mk (shut_int Try.underlying2 w1) trodAll_mk0)), rfl, bel.frame _, fun h => by cases h⟩

theorem over : Rows.ratioMakesRow.holds Try.pinned (OpenSpec.ofChange Rows.ratioMakesSpec) :=
  OpenClaim.holds_of_wide 3 Try.f3 rfl rfl rfl rfl rfl rfl rfl ⟨rfl, rfl, rfl, rfl, rfl⟩ rfl rfl rfl rfl rfl (by kernel_rfl) Try.func3 (by kernel_rfl)
    (of_decide_eq_true (by kernel_rfl)) (by unfold Func.isWrapper; first | (rw [if_pos (by decide +kernel)]; kernel_rfl) | (rw [if_neg (by decide +kernel)]; exact ⟨rfl, rfl⟩))
    (fun os started H enc _ => lifted os started H enc)

/-- THE STATEMENT -/
theorem proved : Rows.RatioMakesSaid :=
  over
#print axioms proved
end Go.Proofs.Ytlhjhefbindlkaa.ratioMakes
