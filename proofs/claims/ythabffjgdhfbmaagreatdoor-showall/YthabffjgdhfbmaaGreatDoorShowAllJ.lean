/-
  lancetlaw10.ShowAll returns true for every slice of devices, in every world in which the listed variables hold what the program's text lays, and leaves its argument as it was: what the program's own All answers of at most twelve devices is the texts that the document's Text answers of them, one behind the other, or the error that the document's Check answers of the first that is none, or that two have one name, or that it is too long; and what is shown, the program's own Devices reads as it was. Conditions: none but the card's own.
-/
import Derived.Test.YthabffjgdhfbmaaGreatDoorRows
import Derived.Test.YthabffjgdhfbmaaGreatDoorCards
import Derived.Test.YthabffjgdhfbmaaGreatDoorTie
import Derived.LaidMore
import Derived.Lay
import Derived.SevenTiedAt
import Derived.Stop.Joined
import Derived.Test.YthabffjgdhfbmaaGreatDoorJm1
import Derived.Test.YthabffjgdhfbmaaGreatDoorJm2
import Derived.Test.YthabffjgdhfbmaaGreatDoorJm3
import Derived.Test.YthabffjgdhfbmaaGreatDoorJm4
import Derived.Test.YthabffjgdhfbmaaGreatDoorJm5
import Derived.Test.YthabffjgdhfbmaaGreatDoorJm6
import Derived.Test.YthabffjgdhfbmaaGreatDoorJm7
import Derived.Test.YthabffjgdhfbmaaGreatDoorJm8
import Derived.Test.YthabffjgdhfbmaaGreatDoorJm9
import Derived.Test.YthabffjgdhfbmaaGreatDoorJm10
import Derived.Test.YthabffjgdhfbmaaGreatDoorJm11
import Derived.Test.YthabffjgdhfbmaaGreatDoorJm12
import Derived.Test.YthabffjgdhfbmaaGreatDoorJm13
import Derived.Test.YthabffjgdhfbmaaGreatDoorJm14
import Derived.Test.YthabffjgdhfbmaaGreatDoorJm15
import Derived.Test.YthabffjgdhfbmaaGreatDoorJm16
import Derived.Test.YthabffjgdhfbmaaGreatDoorJm17
import Derived.Test.YthabffjgdhfbmaaGreatDoorJm18
import Derived.Test.YthabffjgdhfbmaaGreatDoorJm19
import Derived.Test.YthabffjgdhfbmaaGreatDoorJm20
import Derived.Test.YthabffjgdhfbmaaGreatDoorJm21
import Derived.Test.YthabffjgdhfbmaaGreatDoorJm22
import Derived.Test.YthabffjgdhfbmaaGreatDoorJm23
import Derived.Test.YthabffjgdhfbmaaGreatDoorJm24
import Derived.WalkKit
import Derived.ProofKit
import Derived.OpenShut
import Derived.ShutString
import Derived.ChangeOld
import Derived.Below
import Derived.Carry
namespace Go.Proofs.YthabffjgdhfbmaaGreatDoor.showAll
open Go.ChangeShapes Go.WideShapes Go.ChangeAt Go.RowKit
open Go.ChangeMaps (open_string shut_string)
set_option linter.unusedVariables false

theorem own : ownKnob Tryz.prog.godebug = none := by kernel_rfl
theorem laidOut : laidOutB Tryz.prog = true := by kernel_rfl


set_option maxRecDepth 100000 in
set_option maxHeartbeats 4000000 in
theorem walk (w : World) (T : Tab7 w) (v0 : Value) (ps0 : List Dn10) (hv0 : DvsR w v0 ps0) (hx0 : ∀ p ∈ ps0, DvX p.1) (hn0 : (ps0.length : Int) ≤ 9223372036854775807) :
    Calls Tryz.prog 5 #[v0] w fun e w' => e = .returned (.bool true) ∧ Below w.heap.size w w' := by
  exact showall_any w T v0 ps0 hv0 hx0 hn0

set_option maxRecDepth 100000 in
theorem lifted (os : Os) (started : os.Started) (H : Type) (enc : TypeId × Value → H) :
    ReturnsInHanded {} Tryz.checked os 5 .any (fun w args => (Rows.showAllSpec.pre enc Tryz.prog Tryz.f5 Rows.showAllRow.domain false w args ∧ laidMetH Tryz.prog Rows.showAllRow.laid w) ∧ sizedMet enc Tryz.prog Tryz.f5 (OpenSpec.ofChange Rows.showAllSpec) false w args)
      (Rows.showAllSpec.post enc Tryz.prog Tryz.f5 false true false false) := by
  refine returnsInHanded_of_change_and (C := Tryz.checked) (X := fun w _ => laidMetH Tryz.prog Rows.showAllRow.laid w) (fun _ _ _ hh h => h.of_heap hh) own started (by kernel_rfl) Tryz.func5
    (ChangeSpec.witness_shaped (enc := enc) (C := Tryz.checked) (os := os) (X := fun w _ => laidMetH Tryz.prog Rows.showAllRow.laid w) false (World.laidAll Tryz.prog os Rows.showAllRow.laid) #[.slice none 0 0] 8 (World.laidAll_os _ _ _)
      (World.shaped_of_ZipB (by kernel_rfl) (by kernel_rfl)) (by kernel_rfl) (by kernel_rfl) (by kernel_rfl)
      (by rw [MakeChecks.laidMetH_plain _ _ _ (by kernel_rfl)]; exact laidMet_laidAll _ (by kernel_rfl) (by kernel_rfl))) ?_
  intro W base args ds gs before hval0 hW hcnd _ hL _
  have hval : ∀ (j : Nat) t v, Tryz.f5.params[j]? = some t → args[j]? = some v → Value.okWide Tryz.prog W .any base t v := hval0
  have hW' := hW
  obtain ⟨p, q, hA0, hV, rfl, hfz, hnd⟩ := hW
  have hA : DataW.TrodAll enc Tryz.prog W 0 (fun _ => true) true Tryz.f5.params.toList args.toList ds p := hA0
  rw [Tryz.params5] at hA hval
  obtain ⟨v0, vs0, dd0, ds0, pp0, qq0, hargs, rfl, rfl, hh0, r0⟩ := trodAll_cons hA
  obtain ⟨rfl, rfl, rfl⟩ := trodAll_nil r0
  obtain rfl : args = #[v0] := by cases args; simp_all
  obtain ⟨rfl, rfl⟩ := trodVars_none hV
  have kk0 := hh0
  have lt0 : ∀ x ∈ pp0, x.block < W.heap.size := by obtain ⟨m, hm⟩ := kk0; exact DataW.trod_lt m _ _ _ hm
  obtain ⟨ps0, hv0, hx0, hn0⟩ := open_devs (hval 0 46 v0 rfl rfl) hh0
  clear hA0 hval0
  have T := tab7_of hL
  refine (walk W T v0 ps0 hv0 hx0 hn0).mono fun e W' ⟨he, bel⟩ => ?_
  subst he
  exact ⟨_, rfl, _, _, _, [], _, [], hW', trodAll_mk1 (shut_bool Tryz.underlying4 _), (trodAll_cons_mk (Below.trod laidOut (by kernel_rfl) (of_decide_eq_true (by kernel_rfl)) kk0 bel lt0) trodAll_mk0), rfl, bel.frame _, fun h => by cases h⟩

theorem over : Rows.showAllRow.holds Tryz.pinned (OpenSpec.ofChange Rows.showAllSpec) :=
  OpenClaim.holds_of_wide 5 Tryz.f5 rfl rfl rfl rfl rfl rfl rfl ⟨rfl, rfl, rfl, rfl, rfl⟩ rfl rfl rfl rfl rfl (by kernel_rfl) Tryz.func5 (by kernel_rfl)
    (of_decide_eq_true (by kernel_rfl)) (by unfold Func.isWrapper; first | (rw [if_pos (by decide +kernel)]; kernel_rfl) | (rw [if_neg (by decide +kernel)]; exact ⟨rfl, rfl⟩))
    (fun os started H enc _ => lifted os started H enc)

/-- THE STATEMENT: the tied card -/
theorem proved : Rows.ShowAllCardSaid :=
  Claim7.holds_tied_plain_at .later [] [.listed, .data] true (true, "1fb40bf4ebc84b1e9e1392f359ae3d60e79a4b29cfe0f5b38bea0f101b0a17fb") false over (fun _ h => by cases h) (by kernel_rfl) (fun _ h => by cases h) showAll_row_tie rfl ⟨rfl, rfl⟩ (by kernel_rfl) rfl
    (fun f fn hf hfn => by
      obtain rfl : f = 5 := Option.some.inj ((show Tryz.prog.funcNamed "lancet/lancetlaw10.ShowAll" = some 5 by kernel_rfl).symm.trans hf) |>.symm
      obtain rfl : fn = Tryz.f5 := (Option.some.inj (Tryz.func5.symm.trans hfn)).symm
      exact ⟨by kernel_rfl, fun j t ht => by
        rw [Tryz.params5] at ht
        have hm : t ∈ [ 46 ] := by simpa using Array.mem_of_getElem? ht
        have hall : ([ 46 ].all fun u => !Tryz.prog.wantsStandIn u) = true := by kernel_rfl
        exact (show Tryz.prog.wantsStandIn t = false by simpa using List.all_eq_true.1 hall t hm)⟩)
    (by kernel_rfl)
#print axioms proved
end Go.Proofs.YthabffjgdhfbmaaGreatDoor.showAll
