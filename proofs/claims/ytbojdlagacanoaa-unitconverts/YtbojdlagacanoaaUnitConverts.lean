/-
  UnitConverts, for every input: so much of any unit in another one is the document's; what may not be is refused. No conditions.
-/
import Derived.Test.YtbojdlagacanoaaRows
import Derived.Test.YtbojdlagacanoaaUnLaw
import Derived.Test.YtbojdlagacanoaaUnRef
import Derived.Test.YtbojdlagacanoaaUnRefD
import Derived.Test.YtbojdlagacanoaaUnitConvertsA
import Derived.Test.YtbojdlagacanoaaUnitConvertsB
import Derived.Test.YtbojdlagacanoaaUnitConvertsC
import Derived.Test.YtbojdlagacanoaaUnitConvertsD
import Derived.WalkKit
import Derived.ProofKit
import Derived.OpenShut
import Derived.ShutString
import Derived.ChangeOld
import Derived.Below
import Derived.Lib.SmallJoins
namespace Go.Proofs.Ytbojdlagacanoaa.unitConverts
open Go.ChangeShapes Go.WideShapes Go.ChangeAt Go.RowKit Go.Joins
open Go.ChangeMaps (open_string shut_string)
set_option linter.unusedVariables false

theorem own : ownKnob Try.prog.godebug = none := by kernel_rfl
theorem cells30 : Try.prog.cellsOf 30 = 2 := by kernel_rfl


set_option maxHeartbeats 2000000 in
theorem walk (n0 d0 : Int) (hn0 : I64 n0) (hd0 : I64 d0) (a1 : ByteArray) (hs1 : a1.size ≤ maxLen) (a2 : ByteArray) (hs2 : a2.size ≤ maxLen) (w : World) :
    Calls Try.prog 4 #[rv n0 d0, .string a1, .string a2] w fun e w' => e = .returned (.bool true) ∧ Below w.heap.size w w' := by
  unfold maxLen at hs1 hs2
  by_cases l1 : (50 : Int) < (a1.size : Int)
  · clear hn0 hd0
    have K0 : Hid (Has (w.alloc (.cells #[.int .i64 n0, .int .i64 d0] 30)) (w.heap.size) (.int .i64 n0) (.int .i64 d0)) := has_new w _ _ _
    have B : Hid (Below w.heap.size w (w.alloc (.cells #[.int .i64 n0, .int .i64 d0] 30))) := by unfold Hid; go_grown
    go_enter Try.func4, Try.ntmps4
    go_wp2_with fail
    refine (awake3_any _).mono ?_
    rintro e w1 ⟨rfl, hb⟩
    replace K0 : Hid (Has w1 (w.heap.size) (.int .i64 n0) (.int .i64 d0)) := K0.out.below hb
    replace B : Hid (Below w.heap.size w w1) := below_trans B.out hb
    clear hb 
    go_wp2_with fail
    refine (awake3_any _).mono ?_
    rintro e w2 ⟨rfl, hb⟩
    replace K0 : Hid (Has w2 (w.heap.size) (.int .i64 n0) (.int .i64 d0)) := K0.out.below hb
    replace B : Hid (Below w.heap.size w w2) := below_trans B.out hb
    clear hb 
    go_wp2
    go_ret
    exact ⟨rfl, B.out⟩
  by_cases l2 : (50 : Int) < (a2.size : Int)
  · clear hn0 hd0
    have K0 : Hid (Has (w.alloc (.cells #[.int .i64 n0, .int .i64 d0] 30)) (w.heap.size) (.int .i64 n0) (.int .i64 d0)) := has_new w _ _ _
    have B : Hid (Below w.heap.size w (w.alloc (.cells #[.int .i64 n0, .int .i64 d0] 30))) := by unfold Hid; go_grown
    go_enter Try.func4, Try.ntmps4
    go_wp2_with fail
    refine (awake3_any _).mono ?_
    rintro e w1 ⟨rfl, hb⟩
    replace K0 : Hid (Has w1 (w.heap.size) (.int .i64 n0) (.int .i64 d0)) := K0.out.below hb
    replace B : Hid (Below w.heap.size w w1) := below_trans B.out hb
    clear hb 
    go_wp2_with fail
    refine (awake3_any _).mono ?_
    rintro e w2 ⟨rfl, hb⟩
    replace K0 : Hid (Has w2 (w.heap.size) (.int .i64 n0) (.int .i64 d0)) := K0.out.below hb
    replace B : Hid (Below w.heap.size w w2) := below_trans B.out hb
    clear hb 
    go_wp2
    go_ret
    exact ⟨rfl, B.out⟩
  have fr : Hid (∀ w, Calls Try.prog 16 #[rv n0 d0] w fun e w' => e = .returned (.bool (rightB n0 d0)) ∧ Below w.heap.size w w') := fun w => rright_any n0 d0 w hn0 hd0
  have g1 : Hid (∀ w, Calls Try.prog 10 #[.string a1] w fun e w' => e = .returned (.tuple #[encU (atU a1), .bool (isU a1)]) ∧ Below w.heap.size w w') := fun w => rfind_any a1 w
  have g2 : Hid (∀ w, Calls Try.prog 10 #[.string a2] w fun e w' => e = .returned (.tuple #[encU (atU a2), .bool (isU a2)]) ∧ Below w.heap.size w w') := fun w => rfind_any a2 w
  have hed : ∀ w : World, (Op.equalIn 10000 23 (.agg #[.int .i64 (atU a1).m, .int .i64 (atU a1).l, .int .i64 (atU a1).t, .int .i64 (atU a1).k]) (.agg #[.int .i64 (atU a2).m, .int .i64 (atU a2).l, .int .i64 (atU a2).t, .int .i64 (atU a2).k])).run Try.prog w = .ok (dimB (atU a1) (atU a2)) w := fun w => eq_dims _ _ _ _ _ _ _ _ w
  have c0 : ∀ {X Y E : Int}, cvT n0 d0 a1 a2 = (X, Y, E) → Hid (∀ w, Calls Try.prog 14 #[rv n0 d0, .string a1, .string a2] w fun e w' => e = .returned (.tuple #[rv X Y, .int .i64 E]) ∧ Below w.heap.size w w') := fun h w => conv3 hn0 hd0 h w
  cases p : isU a1
  · rw [p] at g1
    exact uc_n1 n0 d0 a1 a2 _ _ _ w l1 l2 (by omega) (by omega) (c0 (by unfold cvT; rw [p]; rfl)) g1 g2
  rw [p] at g1
  cases q : isU a2
  · rw [q] at g2
    exact uc_n2 n0 d0 a1 a2 _ _ w l1 l2 (by omega) (by omega) (c0 (by unfold cvT; rw [p, q]; rfl)) g1 g2
  rw [q] at g2
  cases dd : dimB (atU a1) (atU a2)
  · rw [dd] at hed
    exact uc_kind n0 d0 a1 a2 _ _ w l1 l2 (by omega) (by omega) (c0 (by unfold cvT; rw [p, q, dd]; rfl)) g1 g2 hed
  rw [dd] at hed
  cases r : rightB n0 d0
  · rw [r] at fr
    exact uc_arg n0 d0 a1 a2 _ _ w l1 l2 (by omega) (by omega) (c0 (by unfold cvT; rw [p, q, dd, r]; rfl)) g1 g2 hed fr
  rw [r] at fr
  have ua := (atU_in p).2
  have ub := (atU_in q).2
  by_cases e : a1 = a2
  · exact uc_good n0 d0 a1 a2 _ _ n0 d0 w l1 l2 (by omega) (by omega) (c0 (by unfold cvT; rw [p, q, dd, r]; simp [e])) g1 g2 hed fr (fun w => rconv_self n0 d0 _ _ w (nm_yes (by rw [ua, ub, e])))
  have hc : cvT n0 d0 a1 a2 = chainT n0 d0 (atU a1) (atU a2) := by unfold cvT; rw [p, q, dd, r]; simp [e]
  rw [hc] at c0
  rcases rconv_ways n0 d0 (atU a1) (atU a2) hn0 hd0 r (OkU.of (okU_at p)) (OkU.of (okU_at q)) (by rw [ua, ub]; exact e) with ⟨k1, c4⟩ | ⟨N, D, k1, c4⟩
  · exact uc_over n0 d0 a1 a2 _ _ 0 0 w l1 l2 (by omega) (by omega) (c0 k1) g1 g2 hed fr c4
  · exact uc_good n0 d0 a1 a2 _ _ N D w l1 l2 (by omega) (by omega) (c0 k1) g1 g2 hed fr c4

set_option maxRecDepth 100000 in
theorem lifted (os : Os) (started : os.Started) (H : Type) (enc : TypeId × Value → H) :
    ReturnsInHanded {} Try.checked os 4 .any (Rows.unitConvertsSpec.pre6 enc Try.prog Try.f4 Rows.unitConvertsRow.domain false) (Rows.unitConvertsSpec.post enc Try.prog Try.f4 false true false false) := by
  refine returnsInHanded_of_change (C := Try.checked) own started (by kernel_rfl) Try.func4
    (ChangeSpec.witness6 (enc := enc) (C := Try.checked) false ⟨#[], #[.agg #[.int .i64 0, .int .i64 0], .string ByteArray.empty, .string ByteArray.empty], []⟩ 8 (by kernel_rfl) (by kernel_rfl) (by kernel_rfl) (by kernel_rfl)) ?_
  intro W base args ds gs before hval0 hW hcnd _
  have hval : ∀ (j : Nat) t v, Try.f4.params[j]? = some t → args[j]? = some v → Value.okWide Try.prog W .any base t v := hval0
  have hW' := hW
  obtain ⟨p, q, hA0, hV, rfl, hfz, hnd⟩ := hW
  have hA : DataW.TrodAll enc Try.prog W 0 (fun _ => true) true Try.f4.params.toList args.toList ds p := hA0
  rw [Try.params4] at hA hval
  obtain ⟨v0, vs0, dd0, ds0, p0, q0, hargs, rfl, rfl, hh0, r0⟩ := trodAll_cons hA
  obtain ⟨v1, vs1, dd1, ds1, p1, q1, rfl, rfl, rfl, hh1, r1⟩ := trodAll_cons r0
  obtain ⟨v2, vs2, dd2, ds2, p2, q2, rfl, rfl, rfl, hh2, r2⟩ := trodAll_cons r1
  obtain ⟨rfl, rfl, rfl⟩ := trodAll_nil r2
  obtain rfl : args = #[v0, v1, v2] := by cases args; simp_all
  obtain ⟨rfl, rfl⟩ := trodVars_none hV
  obtain ⟨c0, e0, y0, z0, m0, rfl, rfl, rfl, hy0, hz0⟩ := open_agg2 Try.underlying30 (by kernel_rfl) cells30 (hval 0 30 v0 rfl rfl) hh0
  obtain ⟨n0, k0, rfl, w0⟩ := DataW.trod_int Try.underlying2 hy0
  obtain ⟨d0, l0, rfl, x0⟩ := DataW.trod_int Try.underlying2 hz0
  simp at k0 l0
  subst k0 l0
  obtain ⟨a1, rfl, rfl, rfl, w1⟩ := open_string Try.underlying9 (hval 1 9 v1 rfl rfl) hh1
  obtain ⟨a2, rfl, rfl, rfl, w2⟩ := open_string Try.underlying9 (hval 2 9 v2 rfl rfl) hh2
  clear hA0 hval0
  have sr0 : ∀ (W' : World) (sp : Nat → Bool), DataW.Trod enc Try.prog W' 0 sp true 30 (.agg #[.int .i64 n0, .int .i64 d0]) (.agg [.lit (.int .i64 n0), .lit (.int .i64 d0)]) [] := fun W' sp =>
    shut_agg2 (y0 := (.lit (.int .i64 n0), [])) (y1 := (.lit (.int .i64 d0), [])) Try.underlying30 (by kernel_rfl) cells30 ⟨1, by simp [DataW.trod, Try.underlying2, w0]⟩ ⟨1, by simp [DataW.trod, Try.underlying2, x0]⟩
  refine (walk n0 d0 (bounds_i64 w0) (bounds_i64 x0) a1 w1 a2 w2 W).mono fun e W' ⟨he, bel⟩ => ?_
  subst he
  exact ⟨_, rfl, _, _, _, [], _, [], hW', trodAll_mk1 (shut_bool Try.underlying4 _), (trodAll_cons_mk (sr0 _ _) (trodAll_cons_mk (shut_string Try.underlying9 w1) (trodAll_cons_mk (shut_string Try.underlying9 w2) trodAll_mk0))), rfl, bel.frame _, fun h => by cases h⟩

theorem over : Rows.unitConvertsRow.holds Try.pinned (OpenSpec.ofChange Rows.unitConvertsSpec) :=
  OpenClaim.holds_of_wide 4 Try.f4 rfl rfl rfl rfl rfl rfl rfl ⟨rfl, rfl, rfl, rfl, rfl⟩ rfl rfl rfl rfl rfl (by kernel_rfl) Try.func4 (by kernel_rfl)
    (of_decide_eq_true (by kernel_rfl)) (by unfold Func.isWrapper; first | (rw [if_pos (by decide +kernel)]; kernel_rfl) | (rw [if_neg (by decide +kernel)]; exact ⟨rfl, rfl⟩))
    (fun os started H enc _ => lifted os started H enc)

/-- THE STATEMENT -/
theorem proved : Rows.UnitConvertsSaid :=
  over
#print axioms proved
end Go.Proofs.Ytbojdlagacanoaa.unitConverts
