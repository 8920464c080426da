/-
  UnitPlays, for every input: the unit of any name is the document's. No conditions.
-/
import Derived.Test.YtbojdlagacanoaaRows
import Derived.Test.YtbojdlagacanoaaUnLaw
import Derived.Test.YtbojdlagacanoaaUnLike
import Derived.Test.YtbojdlagacanoaaUnRef
import Derived.Test.YtbojdlagacanoaaUnNames
import Derived.Test.YtbojdlagacanoaaUnCount
import Derived.Test.YtbojdlagacanoaaUnitPlaysA
import Derived.Test.YtbojdlagacanoaaUnitPlaysB
import Derived.Test.YtbojdlagacanoaaUnitPlaysC
import Derived.Test.YtbojdlagacanoaaUnitPlaysD
import Derived.WalkKit
import Derived.ProofKit
import Derived.OpenShut
import Derived.ShutString
import Derived.ChangeOld
import Derived.Below
import Derived.Lib.SmallJoins
namespace Go.Proofs.Ytbojdlagacanoaa.unitPlays
open Go.ChangeShapes Go.WideShapes Go.ChangeAt Go.RowKit Go.Joins
open Go.ChangeMaps (open_string shut_string)
set_option linter.unusedVariables false

theorem own : ownKnob Try.prog.godebug = none := by kernel_rfl



set_option maxHeartbeats 2000000 in
theorem walk (a0 : ByteArray) (hs0 : a0.size ≤ maxLen) (a1 : ByteArray) (hs1 : a1.size ≤ maxLen) (w : World) :
    Calls Try.prog 3 #[.string a0, .string a1] w fun e w' => e = .returned (.bool true) ∧ Below w.heap.size w w' := by
  unfold maxLen at hs0 hs1
  by_cases l0 : (50 : Int) < (a0.size : Int)
  · have B : Hid (Below w.heap.size w w) := Below.refl _ _
    go_enter Try.func3, Try.ntmps3
    go_wp2_with fail
    refine (awake3_any _).mono ?_
    rintro e w1 ⟨rfl, hb⟩
    replace B : Hid (Below w.heap.size w w1) := below_trans B.out hb
    clear hb 
    go_wp2_with fail
    refine (awake3_any _).mono ?_
    rintro e w2 ⟨rfl, hb⟩
    replace B : Hid (Below w.heap.size w w2) := below_trans B.out hb
    clear hb 
    go_wp2
    go_ret
    exact ⟨rfl, B.out⟩
  by_cases l1 : (50 : Int) < (a1.size : Int)
  · have B : Hid (Below w.heap.size w w) := Below.refl _ _
    go_enter Try.func3, Try.ntmps3
    go_wp2_with fail
    refine (awake3_any _).mono ?_
    rintro e w1 ⟨rfl, hb⟩
    replace B : Hid (Below w.heap.size w w1) := below_trans B.out hb
    clear hb 
    go_wp2_with fail
    refine (awake3_any _).mono ?_
    rintro e w2 ⟨rfl, hb⟩
    replace B : Hid (Below w.heap.size w w2) := below_trans B.out hb
    clear hb 
    go_wp2
    go_ret
    exact ⟨rfl, B.out⟩
  have f1 : Hid (∀ w, Calls Try.prog 9 #[.string a0] w fun e w' => e = .returned (.tuple #[encU (atU a0), .bool (isU a0)]) ∧ Below w.heap.size w w') := fun w => find_any a0 w
  have g1 : Hid (∀ w, Calls Try.prog 10 #[.string a0] w fun e w' => e = .returned (.tuple #[encU (atU a0), .bool (isU a0)]) ∧ Below w.heap.size w w') := fun w => rfind_any a0 w
  have g2 : Hid (∀ w, Calls Try.prog 10 #[.string a1] w fun e w' => e = .returned (.tuple #[encU (atU a1), .bool (isU a1)]) ∧ Below w.heap.size w w') := fun w => rfind_any a1 w
  have gl : Hid (∀ w, Calls Try.prog 12 #[.string a0, .string a1] w fun e w' => e = .returned (.bool (likeB a0 a1)) ∧ Below w.heap.size w w') := fun w => like_any a0 a1 w
  have hsd : ∀ w : World, (Op.equalIn 10000 23 (.agg #[.int .i64 (atU a0).m, .int .i64 (atU a0).l, .int .i64 (atU a0).t, .int .i64 (atU a0).k]) (.agg #[.int .i64 (atU a0).m, .int .i64 (atU a0).l, .int .i64 (atU a0).t, .int .i64 (atU a0).k])).run Try.prog w = .ok true w := fun w => by
    have := eq_dims (atU a0).m (atU a0).l (atU a0).t (atU a0).k (atU a0).m (atU a0).l (atU a0).t (atU a0).k w
    rwa [decide_eq_true (by simp)] at this
  have hed : ∀ w : World, (Op.equalIn 10000 23 (.agg #[.int .i64 (atU a0).m, .int .i64 (atU a0).l, .int .i64 (atU a0).t, .int .i64 (atU a0).k]) (.agg #[.int .i64 (atU a1).m, .int .i64 (atU a1).l, .int .i64 (atU a1).t, .int .i64 (atU a1).k])).run Try.prog w = .ok (dimB (atU a0) (atU a1)) w := fun w => eq_dims _ _ _ _ _ _ _ _ w
  unfold likeB at gl
  cases p : isU a0
  · have hC : Hid (cntU a0 25 = 0) := cntU_none p
    rw [p] at f1 g1 gl
    exact up_no a0 a1 _ _ _ w l0 l1 (by omega) (by omega) f1 g1 g2 gl hsd hC
  have hC : Hid (cntU a0 25 = 1) := cntU_is p
  rw [p] at f1 g1 gl
  cases q : isU a1
  · rw [q] at g2 gl
    exact up_one a0 a1 _ _ w l0 l1 (by omega) (by omega) f1 g1 g2 gl hsd hC
  rw [q] at g2 gl
  cases dd : dimB (atU a0) (atU a1)
  · rw [dd] at gl hed
    exact up_unlike a0 a1 _ _ w l0 l1 (by omega) (by omega) f1 g1 g2 gl hsd hC hed
  · rw [dd] at gl hed
    exact up_like a0 a1 _ _ w l0 l1 (by omega) (by omega) f1 g1 g2 gl hsd hC hed

set_option maxRecDepth 100000 in
theorem lifted (os : Os) (started : os.Started) (H : Type) (enc : TypeId × Value → H) :
    ReturnsInHanded {} Try.checked os 3 .any (Rows.unitPlaysSpec.pre6 enc Try.prog Try.f3 Rows.unitPlaysRow.domain false) (Rows.unitPlaysSpec.post enc Try.prog Try.f3 false true false false) := by
  refine returnsInHanded_of_change (C := Try.checked) own started (by kernel_rfl) Try.func3
    (ChangeSpec.witness6 (enc := enc) (C := Try.checked) false ⟨#[], #[.string ByteArray.empty, .string ByteArray.empty], []⟩ 8 (by kernel_rfl) (by kernel_rfl) (by kernel_rfl) (by kernel_rfl)) ?_
  intro W base args ds gs before hval0 hW hcnd _
  have hval : ∀ (j : Nat) t v, Try.f3.params[j]? = some t → args[j]? = some v → Value.okWide Try.prog W .any base t v := hval0
  have hW' := hW
  obtain ⟨p, q, hA0, hV, rfl, hfz, hnd⟩ := hW
  have hA : DataW.TrodAll enc Try.prog W 0 (fun _ => true) true Try.f3.params.toList args.toList ds p := hA0
  rw [Try.params3] at hA hval
  obtain ⟨v0, vs0, dd0, ds0, p0, q0, hargs, rfl, rfl, hh0, r0⟩ := trodAll_cons hA
  obtain ⟨v1, vs1, dd1, ds1, p1, q1, rfl, rfl, rfl, hh1, r1⟩ := trodAll_cons r0
  obtain ⟨rfl, rfl, rfl⟩ := trodAll_nil r1
  obtain rfl : args = #[v0, v1] := by cases args; simp_all
  obtain ⟨rfl, rfl⟩ := trodVars_none hV
  obtain ⟨a0, rfl, rfl, rfl, w0⟩ := open_string Try.underlying9 (hval 0 9 v0 rfl rfl) hh0
  obtain ⟨a1, rfl, rfl, rfl, w1⟩ := open_string Try.underlying9 (hval 1 9 v1 rfl rfl) hh1
  clear hA0 hval0

  refine (walk a0 w0 a1 w1 W).mono fun e W' ⟨he, bel⟩ => ?_
  subst he
  exact ⟨_, rfl, _, _, _, [], _, [], hW', trodAll_mk1 (shut_bool Try.underlying4 _), (trodAll_cons_mk (shut_string Try.underlying9 w0) (trodAll_cons_mk (shut_string Try.underlying9 w1) trodAll_mk0)), rfl, bel.frame _, fun h => by cases h⟩

theorem over : Rows.unitPlaysRow.holds Try.pinned (OpenSpec.ofChange Rows.unitPlaysSpec) :=
  OpenClaim.holds_of_wide 3 Try.f3 rfl rfl rfl rfl rfl rfl rfl ⟨rfl, rfl, rfl, rfl, rfl⟩ rfl rfl rfl rfl rfl (by kernel_rfl) Try.func3 (by kernel_rfl)
    (of_decide_eq_true (by kernel_rfl)) (by unfold Func.isWrapper; first | (rw [if_pos (by decide +kernel)]; kernel_rfl) | (rw [if_neg (by decide +kernel)]; exact ⟨rfl, rfl⟩))
    (fun os started H enc _ => lifted os started H enc)

/-- THE STATEMENT -/
theorem proved : Rows.UnitPlaysSaid :=
  over
#print axioms proved
end Go.Proofs.Ytbojdlagacanoaa.unitPlays
