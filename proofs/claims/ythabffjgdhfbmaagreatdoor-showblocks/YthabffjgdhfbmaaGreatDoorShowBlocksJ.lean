/-
  lancetlaw10.ShowBlocks returns true for every text, in every world in which the listed variables hold what the program's text lays, and leaves its argument as it was: of a text of at most 4100 bytes the program's own Devices answers the error and the line that the document's Rows answers, or the error of a block and a line of the text, or as many devices as lines begin with the word device, and All answers of these a text or the error that they are too long. Conditions: none but the card's own.
-/
import Derived.Test.YthabffjgdhfbmaaGreatDoorRows
import Derived.Test.YthabffjgdhfbmaaGreatDoorCards
import Derived.Test.YthabffjgdhfbmaaGreatDoorTie
import Derived.LaidMore
import Derived.Lay
import Derived.SevenTiedAt
import Derived.Stop.Joined
import Derived.Test.YthabffjgdhfbmaaGreatDoorJb1
import Derived.Test.YthabffjgdhfbmaaGreatDoorJb2
import Derived.Test.YthabffjgdhfbmaaGreatDoorJb3
import Derived.Test.YthabffjgdhfbmaaGreatDoorJb4
import Derived.Test.YthabffjgdhfbmaaGreatDoorJb5
import Derived.Test.YthabffjgdhfbmaaGreatDoorJb6
import Derived.Test.YthabffjgdhfbmaaGreatDoorJb7
import Derived.Test.YthabffjgdhfbmaaGreatDoorJb8
import Derived.Test.YthabffjgdhfbmaaGreatDoorJb9
import Derived.Test.YthabffjgdhfbmaaGreatDoorJb10
import Derived.Test.YthabffjgdhfbmaaGreatDoorJb11
import Derived.Test.YthabffjgdhfbmaaGreatDoorJb12
import Derived.Test.YthabffjgdhfbmaaGreatDoorJb13
import Derived.Test.YthabffjgdhfbmaaGreatDoorJb14
import Derived.Test.YthabffjgdhfbmaaGreatDoorJb15
import Derived.Test.YthabffjgdhfbmaaGreatDoorJb16
import Derived.Test.YthabffjgdhfbmaaGreatDoorJb17
import Derived.Test.YthabffjgdhfbmaaGreatDoorJb18
import Derived.WalkKit
import Derived.ProofKit
import Derived.OpenShut
import Derived.ShutString
import Derived.ChangeOld
import Derived.Below
import Derived.Carry
namespace Go.Proofs.YthabffjgdhfbmaaGreatDoor.showBlocks
open Go.ChangeShapes Go.WideShapes Go.ChangeAt Go.RowKit
open Go.ChangeMaps (open_string shut_string)
set_option linter.unusedVariables false

theorem own : ownKnob Tryz.prog.godebug = none := by kernel_rfl
theorem laidOut : laidOutB Tryz.prog = true := by kernel_rfl


set_option maxRecDepth 100000 in
set_option maxHeartbeats 4000000 in
theorem walk (w : World) (T : Tab7 w) (a0 : ByteArray) (h0 : a0.size ≤ maxLen) :
    Calls Tryz.prog 6 #[.string a0] w fun e w' => e = .returned (.bool true) ∧ Below w.heap.size w w' := by
  exact showblocks_any w T a0

set_option maxRecDepth 100000 in
theorem lifted (os : Os) (started : os.Started) (H : Type) (enc : TypeId × Value → H) :
    ReturnsInHanded {} Tryz.checked os 6 .any (fun w args => (Rows.showBlocksSpec.pre enc Tryz.prog Tryz.f6 Rows.showBlocksRow.domain false w args ∧ laidMetH Tryz.prog Rows.showBlocksRow.laid w) ∧ sizedMet enc Tryz.prog Tryz.f6 (OpenSpec.ofChange Rows.showBlocksSpec) false w args)
      (Rows.showBlocksSpec.post enc Tryz.prog Tryz.f6 false true false false) := by
  refine returnsInHanded_of_change_and (C := Tryz.checked) (X := fun w _ => laidMetH Tryz.prog Rows.showBlocksRow.laid w) (fun _ _ _ hh h => h.of_heap hh) own started (by kernel_rfl) Tryz.func6
    (ChangeSpec.witness_shaped (enc := enc) (C := Tryz.checked) (os := os) (X := fun w _ => laidMetH Tryz.prog Rows.showBlocksRow.laid w) false (World.laidAll Tryz.prog os Rows.showBlocksRow.laid) #[.string ByteArray.empty] 8 (World.laidAll_os _ _ _)
      (World.shaped_of_ZipB (by kernel_rfl) (by kernel_rfl)) (by kernel_rfl) (by kernel_rfl) (by kernel_rfl)
      (by rw [MakeChecks.laidMetH_plain _ _ _ (by kernel_rfl)]; exact laidMet_laidAll _ (by kernel_rfl) (by kernel_rfl))) ?_
  intro W base args ds gs before hval0 hW hcnd _ hL _
  have hval : ∀ (j : Nat) t v, Tryz.f6.params[j]? = some t → args[j]? = some v → Value.okWide Tryz.prog W .any base t v := hval0
  have hW' := hW
  obtain ⟨p, q, hA0, hV, rfl, hfz, hnd⟩ := hW
  have hA : DataW.TrodAll enc Tryz.prog W 0 (fun _ => true) true Tryz.f6.params.toList args.toList ds p := hA0
  rw [Tryz.params6] at hA hval
  obtain ⟨v0, vs0, dd0, ds0, pp0, qq0, hargs, rfl, rfl, hh0, r0⟩ := trodAll_cons hA
  obtain ⟨rfl, rfl, rfl⟩ := trodAll_nil r0
  obtain rfl : args = #[v0] := by cases args; simp_all
  obtain ⟨rfl, rfl⟩ := trodVars_none hV
  have kk0 := hh0
  have lt0 : ∀ x ∈ pp0, x.block < W.heap.size := by obtain ⟨m, hm⟩ := kk0; exact DataW.trod_lt m _ _ _ hm
  obtain ⟨a0, rfl, rfl, rfl, w0⟩ := open_string Tryz.underlying9 (hval 0 9 v0 rfl rfl) hh0
  clear hA0 hval0
  have T := tab7_of hL
  refine (walk W T a0 w0).mono fun e W' ⟨he, bel⟩ => ?_
  subst he
  exact ⟨_, rfl, _, _, _, [], _, [], hW', trodAll_mk1 (shut_bool Tryz.underlying4 _), (trodAll_cons_mk (Below.trod laidOut (by kernel_rfl) (of_decide_eq_true (by kernel_rfl)) kk0 bel lt0) trodAll_mk0), rfl, bel.frame _, fun h => by cases h⟩

theorem over : Rows.showBlocksRow.holds Tryz.pinned (OpenSpec.ofChange Rows.showBlocksSpec) :=
  OpenClaim.holds_of_wide 6 Tryz.f6 rfl rfl rfl rfl rfl rfl rfl ⟨rfl, rfl, rfl, rfl, rfl⟩ rfl rfl rfl rfl rfl (by kernel_rfl) Tryz.func6 (by kernel_rfl)
    (of_decide_eq_true (by kernel_rfl)) (by unfold Func.isWrapper; first | (rw [if_pos (by decide +kernel)]; kernel_rfl) | (rw [if_neg (by decide +kernel)]; exact ⟨rfl, rfl⟩))
    (fun os started H enc _ => lifted os started H enc)

/-- THE STATEMENT: the tied card -/
theorem proved : Rows.ShowBlocksCardSaid :=
  Claim7.holds_tied_plain_at .later [] [.listed, .data] true (true, "1fb40bf4ebc84b1e9e1392f359ae3d60e79a4b29cfe0f5b38bea0f101b0a17fb") false over (fun _ h => by cases h) (by kernel_rfl) (fun _ h => by cases h) showBlocks_row_tie rfl ⟨rfl, rfl⟩ (by kernel_rfl) rfl
    (fun f fn hf hfn => by
      obtain rfl : f = 6 := Option.some.inj ((show Tryz.prog.funcNamed "lancet/lancetlaw10.ShowBlocks" = some 6 by kernel_rfl).symm.trans hf) |>.symm
      obtain rfl : fn = Tryz.f6 := (Option.some.inj (Tryz.func6.symm.trans hfn)).symm
      exact ⟨by kernel_rfl, fun j t ht => by
        rw [Tryz.params6] at ht
        have hm : t ∈ [ 9 ] := by simpa using Array.mem_of_getElem? ht
        have hall : ([ 9 ].all fun u => !Tryz.prog.wantsStandIn u) = true := by kernel_rfl
        exact (show Tryz.prog.wantsStandIn t = false by simpa using List.all_eq_true.1 hall t hm)⟩)
    (by kernel_rfl)
#print axioms proved
end Go.Proofs.YthabffjgdhfbmaaGreatDoor.showBlocks
