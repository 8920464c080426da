/-
  DERIVED. GIVEN WITH THE SEED: THE CARDS: each row of YthabffjgdhfbmaaGreatDoorRows.lean that lists a variable, with what it lists TIED to the program's text (the seventh form; the later family's looks); each row that meets fmt, with fmt's text TOLD by the authors' own Lean function (tested against real Go, not proved from fmt's source: count such statements apart). THE CARD IS WHAT COUNTS. Prove the row's statement (the work); the ties are given (YthabffjgdhfbmaaGreatDoorTie.lean); close each card by the builder's one call (the guide's Derived/Test/ToyasCard.lean, 'card_holds'). Laid BY PROGRAM, IN A SANDBOX (cutbox-door.mjs). By AI agents, Wed Nov 11 2026. No macro, syntax, notation, axiom, sorry.
-/
import Derived.Test.YthabffjgdhfbmaaGreatDoorRows
import GoSem.ClaimSeven
namespace Go.Proofs.YthabffjgdhfbmaaGreatDoor
namespace Rows

/-- THE TIED CARD OF 'lancetlaw10.ShowBack'. -/
def showBackCard : Claim7 := { stood := { row := showBackRow, standIns := [], harness := (true, "1fb40bf4ebc84b1e9e1392f359ae3d60e79a4b29cfe0f5b38bea0f101b0a17fb"), looks := false }, kinds := [], alts := [], laidByText := true, laidKinds := [.listed, .data], laidTests := true, laidLooks := .later }
def ShowBackCardSaid : Prop := Claim7.holds Tryz.pinned (.plain (OpenSpec.ofChange showBackSpec)) showBackCard

/-- THE TIED CARD OF 'lancetlaw10.ShowReads'. -/
def showReadsCard : Claim7 := { stood := { row := showReadsRow, standIns := [], harness := (true, "1fb40bf4ebc84b1e9e1392f359ae3d60e79a4b29cfe0f5b38bea0f101b0a17fb"), looks := false }, kinds := [], alts := [], laidByText := true, laidKinds := [.listed, .data], laidTests := true, laidLooks := .later }
def ShowReadsCardSaid : Prop := Claim7.holds Tryz.pinned (.plain (OpenSpec.ofChange showReadsSpec)) showReadsCard

/-- THE TIED CARD OF 'lancetlaw10.ShowAll'. -/
def showAllCard : Claim7 := { stood := { row := showAllRow, standIns := [], harness := (true, "1fb40bf4ebc84b1e9e1392f359ae3d60e79a4b29cfe0f5b38bea0f101b0a17fb"), looks := false }, kinds := [], alts := [], laidByText := true, laidKinds := [.listed, .data], laidTests := true, laidLooks := .later }
def ShowAllCardSaid : Prop := Claim7.holds Tryz.pinned (.plain (OpenSpec.ofChange showAllSpec)) showAllCard

/-- THE TIED CARD OF 'lancetlaw10.ShowBlocks'. -/
def showBlocksCard : Claim7 := { stood := { row := showBlocksRow, standIns := [], harness := (true, "1fb40bf4ebc84b1e9e1392f359ae3d60e79a4b29cfe0f5b38bea0f101b0a17fb"), looks := false }, kinds := [], alts := [], laidByText := true, laidKinds := [.listed, .data], laidTests := true, laidLooks := .later }
def ShowBlocksCardSaid : Prop := Claim7.holds Tryz.pinned (.plain (OpenSpec.ofChange showBlocksSpec)) showBlocksCard

/-- THE TIED CARD OF 'lancetlaw10.ShowLines'. -/
def showLinesCard : Claim7 := { stood := { row := showLinesRow, standIns := [], harness := (true, "1fb40bf4ebc84b1e9e1392f359ae3d60e79a4b29cfe0f5b38bea0f101b0a17fb"), looks := false }, kinds := [], alts := [], laidByText := true, laidKinds := [.listed, .data], laidTests := true, laidLooks := .later }
def ShowLinesCardSaid : Prop := Claim7.holds Tryz.pinned (.plain (OpenSpec.ofChange showLinesSpec)) showLinesCard

/-- THE SECOND FORM's CARD OF 'lancetlaw10.ShowBack'. -/
def showBackUptoCard : Claim7 := { stood := { row := showBackUptoRow, standIns := [], harness := (true, "1fb40bf4ebc84b1e9e1392f359ae3d60e79a4b29cfe0f5b38bea0f101b0a17fb"), looks := false }, kinds := [], alts := [], laidByText := true, laidKinds := [.listed, .data], laidTests := true, laidLooks := .later }
def ShowBackUptoCardSaid : Prop := Claim7.holds Tryz.pinned (.plain (OpenSpec.upto showBackSpec)) showBackUptoCard

/-- THE SECOND FORM's CARD OF 'lancetlaw10.ShowReads'. -/
def showReadsUptoCard : Claim7 := { stood := { row := showReadsUptoRow, standIns := [], harness := (true, "1fb40bf4ebc84b1e9e1392f359ae3d60e79a4b29cfe0f5b38bea0f101b0a17fb"), looks := false }, kinds := [], alts := [], laidByText := true, laidKinds := [.listed, .data], laidTests := true, laidLooks := .later }
def ShowReadsUptoCardSaid : Prop := Claim7.holds Tryz.pinned (.plain (OpenSpec.upto showReadsSpec)) showReadsUptoCard

/-- THE SECOND FORM's CARD OF 'lancetlaw10.ShowAll'. -/
def showAllUptoCard : Claim7 := { stood := { row := showAllUptoRow, standIns := [], harness := (true, "1fb40bf4ebc84b1e9e1392f359ae3d60e79a4b29cfe0f5b38bea0f101b0a17fb"), looks := false }, kinds := [], alts := [], laidByText := true, laidKinds := [.listed, .data], laidTests := true, laidLooks := .later }
def ShowAllUptoCardSaid : Prop := Claim7.holds Tryz.pinned (.plain (OpenSpec.upto showAllSpec)) showAllUptoCard

/-- THE SECOND FORM's CARD OF 'lancetlaw10.ShowBlocks'. -/
def showBlocksUptoCard : Claim7 := { stood := { row := showBlocksUptoRow, standIns := [], harness := (true, "1fb40bf4ebc84b1e9e1392f359ae3d60e79a4b29cfe0f5b38bea0f101b0a17fb"), looks := false }, kinds := [], alts := [], laidByText := true, laidKinds := [.listed, .data], laidTests := true, laidLooks := .later }
def ShowBlocksUptoCardSaid : Prop := Claim7.holds Tryz.pinned (.plain (OpenSpec.upto showBlocksSpec)) showBlocksUptoCard

/-- THE SECOND FORM's CARD OF 'lancetlaw10.ShowLines'. -/
def showLinesUptoCard : Claim7 := { stood := { row := showLinesUptoRow, standIns := [], harness := (true, "1fb40bf4ebc84b1e9e1392f359ae3d60e79a4b29cfe0f5b38bea0f101b0a17fb"), looks := false }, kinds := [], alts := [], laidByText := true, laidKinds := [.listed, .data], laidTests := true, laidLooks := .later }
def ShowLinesUptoCardSaid : Prop := Claim7.holds Tryz.pinned (.plain (OpenSpec.upto showLinesSpec)) showLinesUptoCard
end Rows
end Go.Proofs.YthabffjgdhfbmaaGreatDoor
