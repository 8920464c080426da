/-
  DERIVED. GIVEN WITH THE SEED: THE CARDS: each row of YtiimmebcmehnhaaDoorRows.lean that lists a variable, with what it lists TIED to the program's text (the seventh form; the later family's looks); each row that meets fmt, with fmt's text TOLD by the authors' own Lean function (tested against real Go, not proved from fmt's source: count such statements apart). THE CARD IS WHAT COUNTS. Prove the row's statement (the work); the ties are given (YtiimmebcmehnhaaDoorTie.lean); close each card by the builder's one call (the guide's Derived/Test/ToyasCard.lean, 'card_holds'). Laid BY PROGRAM, IN A SANDBOX (cutbox-door.mjs). By AI agents, Wed Nov 11 2026. No macro, syntax, notation, axiom, sorry.
-/
import Derived.Test.YtiimmebcmehnhaaDoorRows
import GoSem.ClaimSeven
namespace Go.Proofs.YtiimmebcmehnhaaDoor
namespace Rows

/-- THE TIED CARD OF 'lancetlaw06.BitsReads'. -/
def bitsReadsCard : Claim7 := { stood := { row := bitsReadsRow, standIns := [], harness := (true, "628ee63cf64aa51b5ee51acd0ff15f9d44a489ee5951caf0c9cb77dec2570128"), looks := false }, kinds := [], alts := [], laidByText := true, laidKinds := [.data, .pinned], laidTests := true, laidLooks := .later }
def BitsReadsCardSaid : Prop := Claim7.holds Tryd.pinned (.plain (OpenSpec.ofChange bitsReadsSpec)) bitsReadsCard

/-- THE TIED CARD OF 'lancetlaw06.BitsBack'. -/
def bitsBackCard : Claim7 := { stood := { row := bitsBackRow, standIns := [], harness := (true, "628ee63cf64aa51b5ee51acd0ff15f9d44a489ee5951caf0c9cb77dec2570128"), looks := false }, kinds := [], alts := [], laidByText := true, laidKinds := [.data, .pinned], laidTests := true, laidLooks := .later }
def BitsBackCardSaid : Prop := Claim7.holds Tryd.pinned (.plain (OpenSpec.ofChange bitsBackSpec)) bitsBackCard

/-- THE TIED CARD OF 'lancetlaw06.BitsOnly'. -/
def bitsOnlyCard : Claim7 := { stood := { row := bitsOnlyRow, standIns := [], harness := (true, "628ee63cf64aa51b5ee51acd0ff15f9d44a489ee5951caf0c9cb77dec2570128"), looks := false }, kinds := [], alts := [], laidByText := true, laidKinds := [.data, .pinned], laidTests := true, laidLooks := .later }
def BitsOnlyCardSaid : Prop := Claim7.holds Tryd.pinned (.plain (OpenSpec.ofChange bitsOnlySpec)) bitsOnlyCard

/-- THE TIED CARD OF 'lancetlaw06.BitsTurn'. -/
def bitsTurnCard : Claim7 := { stood := { row := bitsTurnRow, standIns := [], harness := (true, "628ee63cf64aa51b5ee51acd0ff15f9d44a489ee5951caf0c9cb77dec2570128"), looks := false }, kinds := [], alts := [], laidByText := true, laidKinds := [.data, .pinned], laidTests := true, laidLooks := .later }
def BitsTurnCardSaid : Prop := Claim7.holds Tryd.pinned (.plain (OpenSpec.ofChange bitsTurnSpec)) bitsTurnCard

/-- THE SECOND FORM's CARD OF 'lancetlaw06.BitsReads'. -/
def bitsReadsUptoCard : Claim7 := { stood := { row := bitsReadsUptoRow, standIns := [], harness := (true, "628ee63cf64aa51b5ee51acd0ff15f9d44a489ee5951caf0c9cb77dec2570128"), looks := false }, kinds := [], alts := [], laidByText := true, laidKinds := [.data, .pinned], laidTests := true, laidLooks := .later }
def BitsReadsUptoCardSaid : Prop := Claim7.holds Tryd.pinned (.plain (OpenSpec.upto bitsReadsSpec)) bitsReadsUptoCard

/-- THE SECOND FORM's CARD OF 'lancetlaw06.BitsBack'. -/
def bitsBackUptoCard : Claim7 := { stood := { row := bitsBackUptoRow, standIns := [], harness := (true, "628ee63cf64aa51b5ee51acd0ff15f9d44a489ee5951caf0c9cb77dec2570128"), looks := false }, kinds := [], alts := [], laidByText := true, laidKinds := [.data, .pinned], laidTests := true, laidLooks := .later }
def BitsBackUptoCardSaid : Prop := Claim7.holds Tryd.pinned (.plain (OpenSpec.upto bitsBackSpec)) bitsBackUptoCard

/-- THE SECOND FORM's CARD OF 'lancetlaw06.BitsOnly'. -/
def bitsOnlyUptoCard : Claim7 := { stood := { row := bitsOnlyUptoRow, standIns := [], harness := (true, "628ee63cf64aa51b5ee51acd0ff15f9d44a489ee5951caf0c9cb77dec2570128"), looks := false }, kinds := [], alts := [], laidByText := true, laidKinds := [.data, .pinned], laidTests := true, laidLooks := .later }
def BitsOnlyUptoCardSaid : Prop := Claim7.holds Tryd.pinned (.plain (OpenSpec.upto bitsOnlySpec)) bitsOnlyUptoCard

/-- THE SECOND FORM's CARD OF 'lancetlaw06.BitsTurn'. -/
def bitsTurnUptoCard : Claim7 := { stood := { row := bitsTurnUptoRow, standIns := [], harness := (true, "628ee63cf64aa51b5ee51acd0ff15f9d44a489ee5951caf0c9cb77dec2570128"), looks := false }, kinds := [], alts := [], laidByText := true, laidKinds := [.data, .pinned], laidTests := true, laidLooks := .later }
def BitsTurnUptoCardSaid : Prop := Claim7.holds Tryd.pinned (.plain (OpenSpec.upto bitsTurnSpec)) bitsTurnUptoCard
end Rows
end Go.Proofs.YtiimmebcmehnhaaDoor
