/-
  What is proved: for any three fractions of numbers of 64 bits the statement RatioOrder (what is less than the lesser one is less than the greater one) returns true. Conditions: none.
-/
import Derived.Test.YtlhjhefbindlkaaRows
import Derived.Test.YtlhjhefbindlkaaRatE
import Derived.Test.YtlhjhefbindlkaaLawKit
import Derived.WalkKit
import Derived.ProofKit
import Derived.OpenShut
import Derived.ShutString
import Derived.ChangeOld
import Derived.Below
import Derived.Lib.SmallJoins
namespace Go.Proofs.Ytlhjhefbindlkaa.ratioOrder
open Go.ChangeShapes Go.WideShapes Go.ChangeAt Go.RowKit Go.Joins
open Go.ChangeMaps (open_string shut_string)
set_option linter.unusedVariables false

theorem own : ownKnob Try.prog.godebug = none := by kernel_rfl
theorem cells28 : Try.prog.cellsOf 28 = 2 := by kernel_rfl

theorem order_facts {n0 d0 n1 d1 n2 d2 : Int} (h0 : rightB n0 d0 = true) (h1 : rightB n1 d1 = true) (h2 : rightB n2 d2 = true) :
    lessB n0 d0 n0 d0 = false ∧ ¬(lessB n0 d0 n1 d1 = true ∧ lessB n1 d1 n2 d2 = true ∧ lessB n0 d0 n2 d2 = false) ∧ ¬(lessB n0 d0 n1 d1 = false ∧ lessB n1 d1 n2 d2 = false ∧ lessB n0 d0 n2 d2 = true) := by
  have p0 := ((right_iff _ _).1 h0).1
  have p1 := ((right_iff _ _).1 h1).1
  have p2 := ((right_iff _ _).1 h2).1
  unfold lessB mulR
  rw [h0, h1, h2]
  simp only [Bool.and_self, Bool.true_and, decide_eq_true_eq, decide_eq_false_iff_not]
  refine ⟨by omega, ?_, ?_⟩
  · rintro ⟨a, b, c⟩
    have x1 : n0 * d1 * d2 < n1 * d0 * d2 := Int.mul_lt_mul_of_pos_right a p2
    have x2 : n1 * d2 * d0 < n2 * d1 * d0 := Int.mul_lt_mul_of_pos_right b p0
    have x3 : n2 * d0 * d1 ≤ n0 * d2 * d1 := Int.mul_le_mul_of_nonneg_right (by omega) (by omega)
    have e1 : n0 * d1 * d2 = n0 * d2 * d1 := by grind
    have e2 : n1 * d0 * d2 = n1 * d2 * d0 := by grind
    have e3 : n2 * d1 * d0 = n2 * d0 * d1 := by grind
    omega
  · rintro ⟨a, b, c⟩
    have x1 : n1 * d0 * d2 ≤ n0 * d1 * d2 := Int.mul_le_mul_of_nonneg_right (by omega) (by omega)
    have x2 : n2 * d1 * d0 ≤ n1 * d2 * d0 := Int.mul_le_mul_of_nonneg_right (by omega) (by omega)
    have x3 : n0 * d2 * d1 < n2 * d0 * d1 := Int.mul_lt_mul_of_pos_right c p1
    have e1 : n0 * d1 * d2 = n0 * d2 * d1 := by grind
    have e2 : n1 * d0 * d2 = n1 * d2 * d0 := by grind
    have e3 : n2 * d1 * d0 = n2 * d0 * d1 := by grind
    omega


set_option maxHeartbeats 2000000 in
theorem walk (n0 d0 : Int) (hn0 : I64 n0) (hd0 : I64 d0) (n1 d1 : Int) (hn1 : I64 n1) (hd1 : I64 d1) (n2 d2 : Int) (hn2 : I64 n2) (hd2 : I64 d2) (w : World) :
    Calls Try.prog 8 #[rv n0 d0, rv n1 d1, rv n2 d2] w fun e w' => e = .returned (.bool true) ∧ Below w.heap.size w w' := by
  have f0 : Hid (∀ w, Calls Try.prog 14 #[rv n0 d0] w fun e w' => e = .returned (.bool (rightB n0 d0)) ∧ Below w.heap.size w w') := fun w => rright_any n0 d0 w hn0 hd0
  have f1 : Hid (∀ w, Calls Try.prog 14 #[rv n1 d1] w fun e w' => e = .returned (.bool (rightB n1 d1)) ∧ Below w.heap.size w w') := fun w => rright_any n1 d1 w hn1 hd1
  have f2 : Hid (∀ w, Calls Try.prog 14 #[rv n2 d2] w fun e w' => e = .returned (.bool (rightB n2 d2)) ∧ Below w.heap.size w w') := fun w => rright_any n2 d2 w hn2 hd2
  have l01 : Hid (∀ w, Calls Try.prog 19 #[rv n0 d0, rv n1 d1] w fun e w' => e = .returned (.bool (lessB n0 d0 n1 d1)) ∧ Below w.heap.size w w') := fun w => less_any _ _ _ _ w hn0 hd0 hn1 hd1
  have l12 : Hid (∀ w, Calls Try.prog 19 #[rv n1 d1, rv n2 d2] w fun e w' => e = .returned (.bool (lessB n1 d1 n2 d2)) ∧ Below w.heap.size w w') := fun w => less_any _ _ _ _ w hn1 hd1 hn2 hd2
  have l02 : Hid (∀ w, Calls Try.prog 19 #[rv n0 d0, rv n2 d2] w fun e w' => e = .returned (.bool (lessB n0 d0 n2 d2)) ∧ Below w.heap.size w w') := fun w => less_any _ _ _ _ w hn0 hd0 hn2 hd2
  have l00 : Hid (∀ w, Calls Try.prog 19 #[rv n0 d0, rv n0 d0] w fun e w' => e = .returned (.bool (lessB n0 d0 n0 d0)) ∧ Below w.heap.size w w') := fun w => less_any _ _ _ _ w hn0 hd0 hn0 hd0
  have OF := @order_facts n0 d0 n1 d1 n2 d2
  have N3 : Hid (∀ w : World, Three w n0 d0 n1 d1 n2 d2 (((w.alloc (.cells #[.int .i64 n0, .int .i64 d0] 28)).alloc (.cells #[.int .i64 n1, .int .i64 d1] 28)).alloc (.cells #[.int .i64 n2, .int .i64 d2] 28))) := fun w => three_new w _ _ _ _ _ _ _ _ _
  generalize lessB n0 d0 n1 d1 = bx at *
  generalize lessB n1 d1 n2 d2 = by0 at *
  generalize lessB n0 d0 n2 d2 = bz at *
  generalize lessB n0 d0 n0 d0 = bo at *
  generalize rightB n0 d0 = r0 at *
  generalize rightB n1 d1 = r1 at *
  generalize rightB n2 d2 = r2 at *
  clear hn0 hd0 hn1 hd1 hn2 hd2
  have OFH : Hid _ := OF
  clear OF
  cases r0
  · clear OFH l01 l12 l02 l00 f1 f2
    go_enter Try.func8, Try.ntmps8
    go_wp2_with fail
    refine (awake2_any _).mono ?_
    rintro e w1 ⟨rfl, hb⟩
    have K : Hid (Three w n0 d0 n1 d1 n2 d2 w1) := Three.below (N3.out _) hb
    clear hb N3
    obtain ⟨⟨c0, c1, z0, z1, zl⟩, _, _, _⟩ := K.out
    go_wp2_with fail
    refine (f0.out _).mono ?_
    rintro e w2 ⟨rfl, hb⟩
    replace K : Hid (Three w n0 d0 n1 d1 n2 d2 w2) := Three.below K.out hb
    clear hb f0 c0 c1 z0 z1 zl
    go_wp2_with fail
    refine (awake2_any _).mono ?_
    rintro e w8 ⟨rfl, hb⟩
    replace K : Hid (Three w n0 d0 n1 d1 n2 d2 w8) := Three.below K.out hb
    clear hb  
    go_wp2
    go_ret
    exact ⟨rfl, K.out.2.2.2⟩
  · cases r1
    · clear OFH l01 l12 l02 l00 f2
      go_enter Try.func8, Try.ntmps8
      go_wp2_with fail
      refine (awake2_any _).mono ?_
      rintro e w1 ⟨rfl, hb⟩
      have K : Hid (Three w n0 d0 n1 d1 n2 d2 w1) := Three.below (N3.out _) hb
      clear hb N3
      obtain ⟨⟨c0, c1, z0, z1, zl⟩, _, _, _⟩ := K.out
      go_wp2_with fail
      refine (f0.out _).mono ?_
      rintro e w2 ⟨rfl, hb⟩
      replace K : Hid (Three w n0 d0 n1 d1 n2 d2 w2) := Three.below K.out hb
      clear hb f0 c0 c1 z0 z1 zl
      obtain ⟨_, ⟨c2, c3, z2, z3, zm⟩, _, _⟩ := K.out
      go_wp2_with fail
      refine (f1.out _).mono ?_
      rintro e w3 ⟨rfl, hb⟩
      replace K : Hid (Three w n0 d0 n1 d1 n2 d2 w3) := Three.below K.out hb
      clear hb f1 c2 c3 z2 z3 zm
      go_wp2_with fail
      refine (awake2_any _).mono ?_
      rintro e w8 ⟨rfl, hb⟩
      replace K : Hid (Three w n0 d0 n1 d1 n2 d2 w8) := Three.below K.out hb
      clear hb  
      go_wp2
      go_ret
      exact ⟨rfl, K.out.2.2.2⟩
    · cases r2
      · clear OFH l01 l12 l02 l00
        go_enter Try.func8, Try.ntmps8
        go_wp2_with fail
        refine (awake2_any _).mono ?_
        rintro e w1 ⟨rfl, hb⟩
        have K : Hid (Three w n0 d0 n1 d1 n2 d2 w1) := Three.below (N3.out _) hb
        clear hb N3
        obtain ⟨⟨c0, c1, z0, z1, zl⟩, _, _, _⟩ := K.out
        go_wp2_with fail
        refine (f0.out _).mono ?_
        rintro e w2 ⟨rfl, hb⟩
        replace K : Hid (Three w n0 d0 n1 d1 n2 d2 w2) := Three.below K.out hb
        clear hb f0 c0 c1 z0 z1 zl
        obtain ⟨_, ⟨c2, c3, z2, z3, zm⟩, _, _⟩ := K.out
        go_wp2_with fail
        refine (f1.out _).mono ?_
        rintro e w3 ⟨rfl, hb⟩
        replace K : Hid (Three w n0 d0 n1 d1 n2 d2 w3) := Three.below K.out hb
        clear hb f1 c2 c3 z2 z3 zm
        obtain ⟨_, _, ⟨c4, c5, z4, z5, zn⟩, _⟩ := K.out
        go_wp2_with fail
        refine (f2.out _).mono ?_
        rintro e w4 ⟨rfl, hb⟩
        replace K : Hid (Three w n0 d0 n1 d1 n2 d2 w4) := Three.below K.out hb
        clear hb f2 c4 c5 z4 z5 zn
        go_wp2_with fail
        refine (awake2_any _).mono ?_
        rintro e w8 ⟨rfl, hb⟩
        replace K : Hid (Three w n0 d0 n1 d1 n2 d2 w8) := Three.below K.out hb
        clear hb  
        go_wp2
        go_ret
        exact ⟨rfl, K.out.2.2.2⟩
      · have OF : Hid _ := OFH.out rfl rfl rfl
        clear OFH
        go_enter Try.func8, Try.ntmps8
        go_wp2_with fail
        refine (awake2_any _).mono ?_
        rintro e w1 ⟨rfl, hb⟩
        have K : Hid (Three w n0 d0 n1 d1 n2 d2 w1) := Three.below (N3.out _) hb
        clear hb N3
        obtain ⟨⟨c0, c1, z0, z1, zl⟩, _, _, _⟩ := K.out
        go_wp2_with fail
        refine (f0.out _).mono ?_
        rintro e w2 ⟨rfl, hb⟩
        replace K : Hid (Three w n0 d0 n1 d1 n2 d2 w2) := Three.below K.out hb
        clear hb f0 c0 c1 z0 z1 zl
        obtain ⟨_, ⟨c2, c3, z2, z3, zm⟩, _, _⟩ := K.out
        go_wp2_with fail
        refine (f1.out _).mono ?_
        rintro e w3 ⟨rfl, hb⟩
        replace K : Hid (Three w n0 d0 n1 d1 n2 d2 w3) := Three.below K.out hb
        clear hb f1 c2 c3 z2 z3 zm
        obtain ⟨_, _, ⟨c4, c5, z4, z5, zn⟩, _⟩ := K.out
        go_wp2_with fail
        refine (f2.out _).mono ?_
        rintro e w4 ⟨rfl, hb⟩
        replace K : Hid (Three w n0 d0 n1 d1 n2 d2 w4) := Three.below K.out hb
        clear hb f2 c4 c5 z4 z5 zn
        go_wp2_with fail
        obtain ⟨⟨c0, c1, z0, z1, zl⟩, ⟨c2, c3, z2, z3, zm⟩, ⟨c4, c5, z4, z5, zn⟩, _⟩ := K.out
        have kc0 := cell_regrown c0
        have kc1 := cell_regrown c1
        have kc2 := cell_regrown c2
        have kc3 := cell_regrown c3
        have kc4 := cell_regrown c4
        have kc5 := cell_regrown c5
        clear c0 c1 z0 z1 zl c2 c3 z2 z3 zm c4 c5 z4 z5 zn
        refine wp_region_quiet_below (by kernel_rfl) (by kernel_rfl) ?_
        repeat (go_big_quiet_step (first
          | (go_at_call 17; first | with_reducible exact Calls.regrown_of (of_any n0 d0 _) | with_reducible exact Calls.regrown_of (of_any n1 d1 _) | with_reducible exact Calls.regrown_of (of_any n2 d2 _))
          | (go_at_call 19; first | with_reducible exact Calls.regrown_of (l01.out _) | with_reducible exact Calls.regrown_of (l12.out _) | with_reducible exact Calls.regrown_of (l02.out _))))
        refine wpQuiet_nil ?_
        intro _ hw'
        obtain ⟨⟨dq, osq⟩, hw''⟩ := hw'
        subst hw''
        clear kc0 kc1 kc2 kc3 kc4 kc5
        have hb := below_regrown w4 dq osq
        replace K : Hid (Three w n0 d0 n1 d1 n2 d2 (Sort.grow (redrawn w4 dq) osq)) := Three.below K.out hb
        clear hb
        generalize Sort.grow (redrawn w4 dq) osq = w5 at *
        obtain ⟨rfl, o1, o2⟩ := OF.out
        clear l01 l12 l02 OF
        cases bx <;> cases by0 <;> cases bz
        all_goals try (exfalso; exact o1 ⟨rfl, rfl, rfl⟩)
        all_goals try (exfalso; exact o2 ⟨rfl, rfl, rfl⟩)
        all_goals
          clear o1 o2
          go_wp2_with fail
          obtain ⟨⟨c0, c1, z0, z1, zl⟩, ⟨c2, c3, z2, z3, zm⟩, ⟨c4, c5, z4, z5, zn⟩, _⟩ := K.out
          have kc0 := cell_regrown c0
          have kc1 := cell_regrown c1
          have kc2 := cell_regrown c2
          have kc3 := cell_regrown c3
          have kc4 := cell_regrown c4
          have kc5 := cell_regrown c5
          clear c0 c1 z0 z1 zl c2 c3 z2 z3 zm c4 c5 z4 z5 zn
          refine wp_region_quiet_below (by kernel_rfl) (by kernel_rfl) ?_
          repeat (go_big_quiet_step (first
            | (go_at_call 17; first | with_reducible exact Calls.regrown_of (of_any n0 d0 _))
            | (go_at_call 19; first | with_reducible exact Calls.regrown_of (l00.out _))))
          refine wpQuiet_nil ?_
          intro _ hw'
          obtain ⟨⟨dq, osq⟩, hw''⟩ := hw'
          subst hw''
          clear kc0 kc1 kc2 kc3 kc4 kc5
          have hb := below_regrown w5 dq osq
          replace K : Hid (Three w n0 d0 n1 d1 n2 d2 (Sort.grow (redrawn w5 dq) osq)) := Three.below K.out hb
          clear hb
          generalize Sort.grow (redrawn w5 dq) osq = w6 at *
          go_wp2
          go_ret
          exact ⟨rfl, K.out.2.2.2⟩

set_option maxRecDepth 100000 in
theorem lifted (os : Os) (started : os.Started) (H : Type) (enc : TypeId × Value → H) :
    ReturnsInHanded {} Try.checked os 8 .any (Rows.ratioOrderSpec.pre6 enc Try.prog Try.f8 Rows.ratioOrderRow.domain false) (Rows.ratioOrderSpec.post enc Try.prog Try.f8 false true false false) := by
  refine returnsInHanded_of_change (C := Try.checked) own started (by kernel_rfl) Try.func8
    (ChangeSpec.witness6 (enc := enc) (C := Try.checked) false ⟨#[], #[.agg #[.int .i64 0, .int .i64 0], .agg #[.int .i64 0, .int .i64 0], .agg #[.int .i64 0, .int .i64 0]], []⟩ 8 (by kernel_rfl) (by kernel_rfl) (by kernel_rfl) (by kernel_rfl)) ?_
  intro W base args ds gs before hval0 hW hcnd _
  have hval : ∀ (j : Nat) t v, Try.f8.params[j]? = some t → args[j]? = some v → Value.okWide Try.prog W .any base t v := hval0
  have hW' := hW
  obtain ⟨p, q, hA0, hV, rfl, hfz, hnd⟩ := hW
  have hA : DataW.TrodAll enc Try.prog W 0 (fun _ => true) true Try.f8.params.toList args.toList ds p := hA0
  rw [Try.params8] at hA hval
  obtain ⟨v0, vs0, dd0, ds0, p0, q0, hargs, rfl, rfl, hh0, r0⟩ := trodAll_cons hA
  obtain ⟨v1, vs1, dd1, ds1, p1, q1, rfl, rfl, rfl, hh1, r1⟩ := trodAll_cons r0
  obtain ⟨v2, vs2, dd2, ds2, p2, q2, rfl, rfl, rfl, hh2, r2⟩ := trodAll_cons r1
  obtain ⟨rfl, rfl, rfl⟩ := trodAll_nil r2
  obtain rfl : args = #[v0, v1, v2] := by cases args; simp_all
  obtain ⟨rfl, rfl⟩ := trodVars_none hV
  obtain ⟨c0, e0, y0, z0, m0, rfl, rfl, rfl, hy0, hz0⟩ := open_agg2 Try.underlying28 (by kernel_rfl) cells28 (hval 0 28 v0 rfl rfl) hh0
  obtain ⟨n0, k0, rfl, w0⟩ := DataW.trod_int Try.underlying2 hy0
  obtain ⟨d0, l0, rfl, x0⟩ := DataW.trod_int Try.underlying2 hz0
  simp at k0 l0
  subst k0 l0
  obtain ⟨c1, e1, y1, z1, m1, rfl, rfl, rfl, hy1, hz1⟩ := open_agg2 Try.underlying28 (by kernel_rfl) cells28 (hval 1 28 v1 rfl rfl) hh1
  obtain ⟨n1, k1, rfl, w1⟩ := DataW.trod_int Try.underlying2 hy1
  obtain ⟨d1, l1, rfl, x1⟩ := DataW.trod_int Try.underlying2 hz1
  simp at k1 l1
  subst k1 l1
  obtain ⟨c2, e2, y2, z2, m2, rfl, rfl, rfl, hy2, hz2⟩ := open_agg2 Try.underlying28 (by kernel_rfl) cells28 (hval 2 28 v2 rfl rfl) hh2
  obtain ⟨n2, k2, rfl, w2⟩ := DataW.trod_int Try.underlying2 hy2
  obtain ⟨d2, l2, rfl, x2⟩ := DataW.trod_int Try.underlying2 hz2
  simp at k2 l2
  subst k2 l2
  clear hA0 hval0
  have sr0 : ∀ (W' : World) (sp : Nat → Bool), DataW.Trod enc Try.prog W' 0 sp true 28 (.agg #[.int .i64 n0, .int .i64 d0]) (.agg [.lit (.int .i64 n0), .lit (.int .i64 d0)]) [] := fun W' sp =>
    shut_agg2 (y0 := (.lit (.int .i64 n0), [])) (y1 := (.lit (.int .i64 d0), [])) Try.underlying28 (by kernel_rfl) cells28 ⟨1, by simp [DataW.trod, Try.underlying2, w0]⟩ ⟨1, by simp [DataW.trod, Try.underlying2, x0]⟩
  have sr1 : ∀ (W' : World) (sp : Nat → Bool), DataW.Trod enc Try.prog W' 0 sp true 28 (.agg #[.int .i64 n1, .int .i64 d1]) (.agg [.lit (.int .i64 n1), .lit (.int .i64 d1)]) [] := fun W' sp =>
    shut_agg2 (y0 := (.lit (.int .i64 n1), [])) (y1 := (.lit (.int .i64 d1), [])) Try.underlying28 (by kernel_rfl) cells28 ⟨1, by simp [DataW.trod, Try.underlying2, w1]⟩ ⟨1, by simp [DataW.trod, Try.underlying2, x1]⟩
  have sr2 : ∀ (W' : World) (sp : Nat → Bool), DataW.Trod enc Try.prog W' 0 sp true 28 (.agg #[.int .i64 n2, .int .i64 d2]) (.agg [.lit (.int .i64 n2), .lit (.int .i64 d2)]) [] := fun W' sp =>
    shut_agg2 (y0 := (.lit (.int .i64 n2), [])) (y1 := (.lit (.int .i64 d2), [])) Try.underlying28 (by kernel_rfl) cells28 ⟨1, by simp [DataW.trod, Try.underlying2, w2]⟩ ⟨1, by simp [DataW.trod, Try.underlying2, x2]⟩
  refine (walk n0 d0 (bounds_i64 w0) (bounds_i64 x0) n1 d1 (bounds_i64 w1) (bounds_i64 x1) n2 d2 (bounds_i64 w2) (bounds_i64 x2) W).mono fun e W' ⟨he, bel⟩ => ?_
  subst he
  exact ⟨_, rfl, _, _, _, [], _, [], hW', trodAll_mk1 (shut_bool Try.underlying4 _), (trodAll_cons_mk (sr0 _ _) (trodAll_cons_mk (sr1 _ _) (trodAll_cons_mk (sr2 _ _) trodAll_mk0))), rfl, bel.frame _, fun h => by cases h⟩

theorem over : Rows.ratioOrderRow.holds Try.pinned (OpenSpec.ofChange Rows.ratioOrderSpec) :=
  OpenClaim.holds_of_wide 8 Try.f8 rfl rfl rfl rfl rfl rfl rfl ⟨rfl, rfl, rfl, rfl, rfl⟩ rfl rfl rfl rfl rfl (by kernel_rfl) Try.func8 (by kernel_rfl)
    (of_decide_eq_true (by kernel_rfl)) (by unfold Func.isWrapper; first | (rw [if_pos (by decide +kernel)]; kernel_rfl) | (rw [if_neg (by decide +kernel)]; exact ⟨rfl, rfl⟩))
    (fun os started H enc _ => lifted os started H enc)

/-- THE STATEMENT -/
theorem proved : Rows.RatioOrderSaid :=
  over
#print axioms proved
end Go.Proofs.Ytlhjhefbindlkaa.ratioOrder
