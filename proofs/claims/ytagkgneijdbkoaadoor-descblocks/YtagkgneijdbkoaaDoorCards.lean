/-
  DERIVED. GIVEN WITH THE SEED: THE CARDS: each row of YtagkgneijdbkoaaDoorRows.lean that lists a variable, with what it lists TIED to the program's text (the seventh form; the later family's looks); each row that meets fmt, with fmt's text TOLD by the authors' own Lean function (tested against real Go, not proved from fmt's source: count such statements apart). THE CARD IS WHAT COUNTS. Prove the row's statement (the work); the ties are given (YtagkgneijdbkoaaDoorTie.lean); close each card by the builder's one call (the guide's Derived/Test/ToyasCard.lean, 'card_holds'). Laid BY PROGRAM, IN A SANDBOX (cutbox-door.mjs). By AI agents, Wed Nov 11 2026. No macro, syntax, notation, axiom, sorry.
-/
import Derived.Test.YtagkgneijdbkoaaDoorRows
import GoSem.ClaimSeven
namespace Go.Proofs.YtagkgneijdbkoaaDoor
namespace Rows

/-- THE TIED CARD OF 'lancetlaw08.DescTexts'. -/
def descTextsCard : Claim7 := { stood := { row := descTextsRow, standIns := [], harness := (true, "85a392295c2925c7cc6a06bf2a3768c7f775e3a4ec9cc83ff0e6b15939d1cf8c"), looks := false }, kinds := [], alts := [], laidByText := true, laidKinds := [.listed, .data], laidTests := true, laidLooks := .later }
def DescTextsCardSaid : Prop := Claim7.holds Tryd.pinned (.plain (OpenSpec.ofChange descTextsSpec)) descTextsCard

/-- THE TIED CARD OF 'lancetlaw08.DescRows'. -/
def descRowsCard : Claim7 := { stood := { row := descRowsRow, standIns := [], harness := (true, "85a392295c2925c7cc6a06bf2a3768c7f775e3a4ec9cc83ff0e6b15939d1cf8c"), looks := false }, kinds := [], alts := [], laidByText := true, laidKinds := [.listed, .data], laidTests := true, laidLooks := .later }
def DescRowsCardSaid : Prop := Claim7.holds Tryd.pinned (.plain (OpenSpec.ofChange descRowsSpec)) descRowsCard

/-- THE TIED CARD OF 'lancetlaw08.DescOrder'. -/
def descOrderCard : Claim7 := { stood := { row := descOrderRow, standIns := [], harness := (true, "85a392295c2925c7cc6a06bf2a3768c7f775e3a4ec9cc83ff0e6b15939d1cf8c"), looks := false }, kinds := [], alts := [], laidByText := true, laidKinds := [.listed, .data], laidTests := true, laidLooks := .later }
def DescOrderCardSaid : Prop := Claim7.holds Tryd.pinned (.plain (OpenSpec.ofChange descOrderSpec)) descOrderCard

/-- THE TIED CARD OF 'lancetlaw08.DescBlocks'. -/
def descBlocksCard : Claim7 := { stood := { row := descBlocksRow, standIns := [], harness := (true, "85a392295c2925c7cc6a06bf2a3768c7f775e3a4ec9cc83ff0e6b15939d1cf8c"), looks := false }, kinds := [], alts := [], laidByText := true, laidKinds := [.listed, .data], laidTests := true, laidLooks := .later }
def DescBlocksCardSaid : Prop := Claim7.holds Tryd.pinned (.plain (OpenSpec.ofChange descBlocksSpec)) descBlocksCard

/-- THE SECOND FORM's CARD OF 'lancetlaw08.DescTexts'. -/
def descTextsUptoCard : Claim7 := { stood := { row := descTextsUptoRow, standIns := [], harness := (true, "85a392295c2925c7cc6a06bf2a3768c7f775e3a4ec9cc83ff0e6b15939d1cf8c"), looks := false }, kinds := [], alts := [], laidByText := true, laidKinds := [.listed, .data], laidTests := true, laidLooks := .later }
def DescTextsUptoCardSaid : Prop := Claim7.holds Tryd.pinned (.plain (OpenSpec.upto descTextsSpec)) descTextsUptoCard

/-- THE SECOND FORM's CARD OF 'lancetlaw08.DescRows'. -/
def descRowsUptoCard : Claim7 := { stood := { row := descRowsUptoRow, standIns := [], harness := (true, "85a392295c2925c7cc6a06bf2a3768c7f775e3a4ec9cc83ff0e6b15939d1cf8c"), looks := false }, kinds := [], alts := [], laidByText := true, laidKinds := [.listed, .data], laidTests := true, laidLooks := .later }
def DescRowsUptoCardSaid : Prop := Claim7.holds Tryd.pinned (.plain (OpenSpec.upto descRowsSpec)) descRowsUptoCard

/-- THE SECOND FORM's CARD OF 'lancetlaw08.DescOrder'. -/
def descOrderUptoCard : Claim7 := { stood := { row := descOrderUptoRow, standIns := [], harness := (true, "85a392295c2925c7cc6a06bf2a3768c7f775e3a4ec9cc83ff0e6b15939d1cf8c"), looks := false }, kinds := [], alts := [], laidByText := true, laidKinds := [.listed, .data], laidTests := true, laidLooks := .later }
def DescOrderUptoCardSaid : Prop := Claim7.holds Tryd.pinned (.plain (OpenSpec.upto descOrderSpec)) descOrderUptoCard

/-- THE SECOND FORM's CARD OF 'lancetlaw08.DescBlocks'. -/
def descBlocksUptoCard : Claim7 := { stood := { row := descBlocksUptoRow, standIns := [], harness := (true, "85a392295c2925c7cc6a06bf2a3768c7f775e3a4ec9cc83ff0e6b15939d1cf8c"), looks := false }, kinds := [], alts := [], laidByText := true, laidKinds := [.listed, .data], laidTests := true, laidLooks := .later }
def DescBlocksUptoCardSaid : Prop := Claim7.holds Tryd.pinned (.plain (OpenSpec.upto descBlocksSpec)) descBlocksUptoCard
end Rows
end Go.Proofs.YtagkgneijdbkoaaDoor
