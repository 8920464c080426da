/-
  lancetlaw10.ShowLines returns true for every slice of lines, in every world in which the listed variables hold what the program's text lays, and leaves its argument as it was: what the program's own Lines answers of at most 80 lines of at most 20 words of at most 100 bytes (the devices, or the error of the first block that is none, and the line) is what the document's Devices answers of them. Conditions: none but the card's own.
-/
import Derived.Test.YthabffjgdhfbmaaGreatDoorRows
import Derived.Test.YthabffjgdhfbmaaGreatDoorCards
import Derived.Test.YthabffjgdhfbmaaGreatDoorTie
import Derived.LaidMore
import Derived.Lay
import Derived.SevenTiedAt
import Derived.Stop.Joined
import Derived.Test.YthabffjgdhfbmaaGreatDoorJl1
import Derived.Test.YthabffjgdhfbmaaGreatDoorJl2
import Derived.Test.YthabffjgdhfbmaaGreatDoorJl3
import Derived.Test.YthabffjgdhfbmaaGreatDoorJl4
import Derived.Test.YthabffjgdhfbmaaGreatDoorJl5
import Derived.Test.YthabffjgdhfbmaaGreatDoorJl6
import Derived.Test.YthabffjgdhfbmaaGreatDoorJl7
import Derived.Test.YthabffjgdhfbmaaGreatDoorJl8
import Derived.Test.YthabffjgdhfbmaaGreatDoorJl9
import Derived.Test.YthabffjgdhfbmaaGreatDoorJl10
import Derived.Test.YthabffjgdhfbmaaGreatDoorJl11
import Derived.Test.YthabffjgdhfbmaaGreatDoorJl12
import Derived.Test.YthabffjgdhfbmaaGreatDoorJl13
import Derived.Test.YthabffjgdhfbmaaGreatDoorJl14
import Derived.Test.YthabffjgdhfbmaaGreatDoorJl15
import Derived.Test.YthabffjgdhfbmaaGreatDoorJl16
import Derived.Test.YthabffjgdhfbmaaGreatDoorJl17
import Derived.Test.YthabffjgdhfbmaaGreatDoorJl18
import Derived.Test.YthabffjgdhfbmaaGreatDoorJl19
import Derived.Test.YthabffjgdhfbmaaGreatDoorJl20
import Derived.Test.YthabffjgdhfbmaaGreatDoorJl21
import Derived.Test.YthabffjgdhfbmaaGreatDoorJl22
import Derived.Test.YthabffjgdhfbmaaGreatDoorJl23
import Derived.Test.YthabffjgdhfbmaaGreatDoorJl24
import Derived.Test.YthabffjgdhfbmaaGreatDoorJl25
import Derived.Test.YthabffjgdhfbmaaGreatDoorJl26
import Derived.Test.YthabffjgdhfbmaaGreatDoorJl27
import Derived.Test.YthabffjgdhfbmaaGreatDoorJl28
import Derived.WalkKit
import Derived.ProofKit
import Derived.OpenShut
import Derived.ShutString
import Derived.ChangeOld
import Derived.Below
import Derived.Carry
namespace Go.Proofs.YthabffjgdhfbmaaGreatDoor.showLines
open Go.ChangeShapes Go.WideShapes Go.ChangeAt Go.RowKit
open Go.ChangeMaps (open_string shut_string)
set_option linter.unusedVariables false

theorem own : ownKnob Tryz.prog.godebug = none := by kernel_rfl
theorem laidOut : laidOutB Tryz.prog = true := by kernel_rfl


set_option maxRecDepth 100000 in
set_option maxHeartbeats 4000000 in
theorem walk (w : World) (T : Tab7 w) (v0 : Value) (rs0 : List Lr) (hv0 : RowsC w.heap.size w v0 rs0) (hn0 : (rs0.length : Int) ≤ 9223372036854775807) (hc0 : ∀ p m c, v0 = .slice p m c → m ≤ c) :
    Calls Tryz.prog 7 #[v0] w fun e w' => e = .returned (.bool true) ∧ Below w.heap.size w w' := by
  exact showlines_any rline_any w T v0 rs0 hv0 hn0 hc0

set_option maxRecDepth 100000 in
theorem lifted (os : Os) (started : os.Started) (H : Type) (enc : TypeId × Value → H) :
    ReturnsInHanded {} Tryz.checked os 7 .any (fun w args => (Rows.showLinesSpec.pre enc Tryz.prog Tryz.f7 Rows.showLinesRow.domain false w args ∧ laidMetH Tryz.prog Rows.showLinesRow.laid w) ∧ sizedMet enc Tryz.prog Tryz.f7 (OpenSpec.ofChange Rows.showLinesSpec) false w args)
      (Rows.showLinesSpec.post enc Tryz.prog Tryz.f7 false true false false) := by
  refine returnsInHanded_of_change_and (C := Tryz.checked) (X := fun w _ => laidMetH Tryz.prog Rows.showLinesRow.laid w) (fun _ _ _ hh h => h.of_heap hh) own started (by kernel_rfl) Tryz.func7
    (ChangeSpec.witness_shaped (enc := enc) (C := Tryz.checked) (os := os) (X := fun w _ => laidMetH Tryz.prog Rows.showLinesRow.laid w) false (World.laidAll Tryz.prog os Rows.showLinesRow.laid) #[.slice none 0 0] 8 (World.laidAll_os _ _ _)
      (World.shaped_of_ZipB (by kernel_rfl) (by kernel_rfl)) (by kernel_rfl) (by kernel_rfl) (by kernel_rfl)
      (by rw [MakeChecks.laidMetH_plain _ _ _ (by kernel_rfl)]; exact laidMet_laidAll _ (by kernel_rfl) (by kernel_rfl))) ?_
  intro W base args ds gs before hval0 hW hcnd _ hL _
  have hval : ∀ (j : Nat) t v, Tryz.f7.params[j]? = some t → args[j]? = some v → Value.okWide Tryz.prog W .any base t v := hval0
  have hW' := hW
  obtain ⟨p, q, hA0, hV, rfl, hfz, hnd⟩ := hW
  have hA : DataW.TrodAll enc Tryz.prog W 0 (fun _ => true) true Tryz.f7.params.toList args.toList ds p := hA0
  rw [Tryz.params7] at hA hval
  obtain ⟨v0, vs0, dd0, ds0, pp0, qq0, hargs, rfl, rfl, hh0, r0⟩ := trodAll_cons hA
  obtain ⟨rfl, rfl, rfl⟩ := trodAll_nil r0
  obtain rfl : args = #[v0] := by cases args; simp_all
  obtain ⟨rfl, rfl⟩ := trodVars_none hV
  have kk0 := hh0
  have lt0 : ∀ x ∈ pp0, x.block < W.heap.size := by obtain ⟨m, hm⟩ := kk0; exact DataW.trod_lt m _ _ _ hm
  obtain ⟨rs0, hv0, hn0⟩ := open_rows (hval 0 40 v0 rfl rfl) hh0
  have hc0 := open_rows_cap (hval 0 40 v0 rfl rfl) hh0
  clear hA0 hval0
  have T := tab7_of hL
  refine (walk W T v0 rs0 hv0 hn0 hc0).mono fun e W' ⟨he, bel⟩ => ?_
  subst he
  exact ⟨_, rfl, _, _, _, [], _, [], hW', trodAll_mk1 (shut_bool Tryz.underlying4 _), (trodAll_cons_mk (Below.trod laidOut (by kernel_rfl) (of_decide_eq_true (by kernel_rfl)) kk0 bel lt0) trodAll_mk0), rfl, bel.frame _, fun h => by cases h⟩

theorem over : Rows.showLinesRow.holds Tryz.pinned (OpenSpec.ofChange Rows.showLinesSpec) :=
  OpenClaim.holds_of_wide 7 Tryz.f7 rfl rfl rfl rfl rfl rfl rfl ⟨rfl, rfl, rfl, rfl, rfl⟩ rfl rfl rfl rfl rfl (by kernel_rfl) Tryz.func7 (by kernel_rfl)
    (of_decide_eq_true (by kernel_rfl)) (by unfold Func.isWrapper; first | (rw [if_pos (by decide +kernel)]; kernel_rfl) | (rw [if_neg (by decide +kernel)]; exact ⟨rfl, rfl⟩))
    (fun os started H enc _ => lifted os started H enc)

/-- THE STATEMENT: the tied card -/
theorem proved : Rows.ShowLinesCardSaid :=
  Claim7.holds_tied_plain_at .later [] [.listed, .data] true (true, "1fb40bf4ebc84b1e9e1392f359ae3d60e79a4b29cfe0f5b38bea0f101b0a17fb") false over (fun _ h => by cases h) (by kernel_rfl) (fun _ h => by cases h) showLines_row_tie rfl ⟨rfl, rfl⟩ (by kernel_rfl) rfl
    (fun f fn hf hfn => by
      obtain rfl : f = 7 := Option.some.inj ((show Tryz.prog.funcNamed "lancet/lancetlaw10.ShowLines" = some 7 by kernel_rfl).symm.trans hf) |>.symm
      obtain rfl : fn = Tryz.f7 := (Option.some.inj (Tryz.func7.symm.trans hfn)).symm
      exact ⟨by kernel_rfl, fun j t ht => by
        rw [Tryz.params7] at ht
        have hm : t ∈ [ 40 ] := by simpa using Array.mem_of_getElem? ht
        have hall : ([ 40 ].all fun u => !Tryz.prog.wantsStandIn u) = true := by kernel_rfl
        exact (show Tryz.prog.wantsStandIn t = false by simpa using List.all_eq_true.1 hall t hm)⟩)
    (by kernel_rfl)
#print axioms proved
end Go.Proofs.YthabffjgdhfbmaaGreatDoor.showLines
