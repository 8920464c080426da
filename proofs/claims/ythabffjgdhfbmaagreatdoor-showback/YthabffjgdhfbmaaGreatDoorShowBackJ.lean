/-
  lancetlaw10.ShowBack returns true for every device, in every world in which the listed variables hold what the program's text lays, and leaves its argument as it was: any device's text is the document's, and what is shown is read as it was. Conditions: none beyond the row's own.
-/
import Derived.Test.YthabffjgdhfbmaaGreatDoorRows
import Derived.Test.YthabffjgdhfbmaaGreatDoorCards
import Derived.Test.YthabffjgdhfbmaaGreatDoorTie
import Derived.LaidMore
import Derived.Lay
import Derived.SevenTiedAt
import Derived.Stop.Joined
import Derived.Test.YthabffjgdhfbmaaGreatDoorJk1
import Derived.Test.YthabffjgdhfbmaaGreatDoorJk2
import Derived.Test.YthabffjgdhfbmaaGreatDoorJk3
import Derived.Test.YthabffjgdhfbmaaGreatDoorJk4
import Derived.Test.YthabffjgdhfbmaaGreatDoorJk5
import Derived.Test.YthabffjgdhfbmaaGreatDoorJk6
import Derived.Test.YthabffjgdhfbmaaGreatDoorJk7
import Derived.Test.YthabffjgdhfbmaaGreatDoorJk8
import Derived.Test.YthabffjgdhfbmaaGreatDoorJk9
import Derived.Test.YthabffjgdhfbmaaGreatDoorJk10
import Derived.Test.YthabffjgdhfbmaaGreatDoorJk11
import Derived.Test.YthabffjgdhfbmaaGreatDoorJk12
import Derived.Test.YthabffjgdhfbmaaGreatDoorJk13
import Derived.Test.YthabffjgdhfbmaaGreatDoorJk14
import Derived.Test.YthabffjgdhfbmaaGreatDoorJk15
import Derived.Test.YthabffjgdhfbmaaGreatDoorJk16
import Derived.Test.YthabffjgdhfbmaaGreatDoorJk17
import Derived.Test.YthabffjgdhfbmaaGreatDoorJk18
import Derived.Test.YthabffjgdhfbmaaGreatDoorJk19
import Derived.Test.YthabffjgdhfbmaaGreatDoorJk20
import Derived.Test.YthabffjgdhfbmaaGreatDoorJk21
import Derived.Test.YthabffjgdhfbmaaGreatDoorJk22
import Derived.Test.YthabffjgdhfbmaaGreatDoorJk23
import Derived.WalkKit
import Derived.ProofKit
import Derived.OpenShut
import Derived.ShutString
import Derived.ChangeOld
import Derived.Below
import Derived.Carry
namespace Go.Proofs.YthabffjgdhfbmaaGreatDoor.showBack
open Go.ChangeShapes Go.WideShapes Go.ChangeAt Go.RowKit
open Go.ChangeMaps (open_string shut_string)
set_option linter.unusedVariables false

theorem own : ownKnob Tryz.prog.godebug = none := by kernel_rfl
theorem laidOut : laidOutB Tryz.prog = true := by kernel_rfl


set_option maxRecDepth 100000 in
set_option maxHeartbeats 4000000 in
theorem walk (w : World) (T : Tab7 w) (d0 : Dv) (fv0 : Value) (pq0 : Option Addr) (cq0 : Nat) (hd0 : DvH w (dvV d0 fv0 (.slice pq0 d0.rq.length cq0)) d0 fv0 pq0 cq0) :
    Calls Tryz.prog 3 #[dvV d0 fv0 (.slice pq0 d0.rq.length cq0)] w fun e w' => e = .returned (.bool true) ∧ Below w.heap.size w w' := by
  exact showback_any w T d0 fv0 pq0 cq0 hd0

set_option maxRecDepth 100000 in
theorem lifted (os : Os) (started : os.Started) (H : Type) (enc : TypeId × Value → H) :
    ReturnsInHanded {} Tryz.checked os 3 .any (fun w args => (Rows.showBackSpec.pre enc Tryz.prog Tryz.f3 Rows.showBackRow.domain false w args ∧ laidMetH Tryz.prog Rows.showBackRow.laid w) ∧ sizedMet enc Tryz.prog Tryz.f3 (OpenSpec.ofChange Rows.showBackSpec) false w args)
      (Rows.showBackSpec.post enc Tryz.prog Tryz.f3 false true false false) := by
  refine returnsInHanded_of_change_and (C := Tryz.checked) (X := fun w _ => laidMetH Tryz.prog Rows.showBackRow.laid w) (fun _ _ _ hh h => h.of_heap hh) own started (by kernel_rfl) Tryz.func3
    (ChangeSpec.witness_shaped (enc := enc) (C := Tryz.checked) (os := os) (X := fun w _ => laidMetH Tryz.prog Rows.showBackRow.laid w) false (World.laidAll Tryz.prog os Rows.showBackRow.laid) #[.agg #[.string ByteArray.empty, .int .i64 0, .int .i64 0, .int .i64 0, .int .i64 0, .string ByteArray.empty, .slice none 0 0, .slice none 0 0, .int .i64 0, .int .i64 0, .int .i64 0, .int .i64 0]] 8 (World.laidAll_os _ _ _)
      (World.shaped_of_ZipB (by kernel_rfl) (by kernel_rfl)) (by kernel_rfl) (by kernel_rfl) (by kernel_rfl)
      (by rw [MakeChecks.laidMetH_plain _ _ _ (by kernel_rfl)]; exact laidMet_laidAll _ (by kernel_rfl) (by kernel_rfl))) ?_
  intro W base args ds gs before hval0 hW hcnd _ hL _
  have hval : ∀ (j : Nat) t v, Tryz.f3.params[j]? = some t → args[j]? = some v → Value.okWide Tryz.prog W .any base t v := hval0
  have hW' := hW
  obtain ⟨p, q, hA0, hV, rfl, hfz, hnd⟩ := hW
  have hA : DataW.TrodAll enc Tryz.prog W 0 (fun _ => true) true Tryz.f3.params.toList args.toList ds p := hA0
  rw [Tryz.params3] at hA hval
  obtain ⟨v0, vs0, dd0, ds0, pp0, qq0, hargs, rfl, rfl, hh0, r0⟩ := trodAll_cons hA
  obtain ⟨rfl, rfl, rfl⟩ := trodAll_nil r0
  obtain rfl : args = #[v0] := by cases args; simp_all
  obtain ⟨rfl, rfl⟩ := trodVars_none hV
  have kk0 := hh0
  have lt0 : ∀ x ∈ pp0, x.block < W.heap.size := by obtain ⟨m, hm⟩ := kk0; exact DataW.trod_lt m _ _ _ hm
  obtain ⟨d0, fv0, pq0, cq0, hd0⟩ := open_dev (hval 0 25 v0 rfl rfl) hh0
  obtain rfl := hd0.v
  clear hA0 hval0
  have T := tab7_of hL
  refine (walk W T d0 fv0 pq0 cq0 hd0).mono fun e W' ⟨he, bel⟩ => ?_
  subst he
  exact ⟨_, rfl, _, _, _, [], _, [], hW', trodAll_mk1 (shut_bool Tryz.underlying4 _), (trodAll_cons_mk (Below.trod laidOut (by kernel_rfl) (of_decide_eq_true (by kernel_rfl)) kk0 bel lt0) trodAll_mk0), rfl, bel.frame _, fun h => by cases h⟩

theorem over : Rows.showBackRow.holds Tryz.pinned (OpenSpec.ofChange Rows.showBackSpec) :=
  OpenClaim.holds_of_wide 3 Tryz.f3 rfl rfl rfl rfl rfl rfl rfl ⟨rfl, rfl, rfl, rfl, rfl⟩ rfl rfl rfl rfl rfl (by kernel_rfl) Tryz.func3 (by kernel_rfl)
    (of_decide_eq_true (by kernel_rfl)) (by unfold Func.isWrapper; first | (rw [if_pos (by decide +kernel)]; kernel_rfl) | (rw [if_neg (by decide +kernel)]; exact ⟨rfl, rfl⟩))
    (fun os started H enc _ => lifted os started H enc)

/-- THE STATEMENT: the tied card -/
theorem proved : Rows.ShowBackCardSaid :=
  Claim7.holds_tied_plain_at .later [] [.listed, .data] true (true, "1fb40bf4ebc84b1e9e1392f359ae3d60e79a4b29cfe0f5b38bea0f101b0a17fb") false over (fun _ h => by cases h) (by kernel_rfl) (fun _ h => by cases h) showBack_row_tie rfl ⟨rfl, rfl⟩ (by kernel_rfl) rfl
    (fun f fn hf hfn => by
      obtain rfl : f = 3 := Option.some.inj ((show Tryz.prog.funcNamed "lancet/lancetlaw10.ShowBack" = some 3 by kernel_rfl).symm.trans hf) |>.symm
      obtain rfl : fn = Tryz.f3 := (Option.some.inj (Tryz.func3.symm.trans hfn)).symm
      exact ⟨by kernel_rfl, fun j t ht => by
        rw [Tryz.params3] at ht
        have hm : t ∈ [ 25 ] := by simpa using Array.mem_of_getElem? ht
        have hall : ([ 25 ].all fun u => !Tryz.prog.wantsStandIn u) = true := by kernel_rfl
        exact (show Tryz.prog.wantsStandIn t = false by simpa using List.all_eq_true.1 hall t hm)⟩)
    (by kernel_rfl)
#print axioms proved
end Go.Proofs.YthabffjgdhfbmaaGreatDoor.showBack
