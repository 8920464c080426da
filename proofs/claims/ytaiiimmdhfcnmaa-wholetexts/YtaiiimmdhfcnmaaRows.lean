/-
  No cell of these rows narrows 'for every input' (looked for: loops, veiled, ifaces, maps, wideKeys, modest, calm, conditions, laid).
  DERIVED. THE GIVEN ROWS OF THIS SEAT. 5 by the template 'for every input the law returns true; each argument reads behind the call as it read before'; 0 by the template 'total and deterministic' (their statements: YtaiiimmdhfcnmaaTotals.lean).
  GIVEN WITH THE SEED: the statements are not yours to turn. If you find one false, say at which input.
  Laid BY PROGRAM, IN A SANDBOX (cutbox-rows.mjs): the forced cells as the released guide's own fill.sh prints them over the translation ae49d4de2a7472de… (all of the seat's roots in one cut). By AI agents, Wed Nov 11 2026. No macro, syntax, notation, axiom, sorry.
-/
import Derived.Test.YtaiiimmdhfcnmaaChecked
import GoSem.Claim
import GoSem.ClaimJoined
import GoSem.ClaimMapViews
import Derived.JoinedTies
import Derived.KernelRfl
namespace Go.Proofs.Ytaiiimmdhfcnmaa
/- THE CELL 'sum', in the pinned program and in every row, IS THE sha256 OF THE DUMP (.gsa) THAT YtaiiimmdhfcnmaaProg.lean LOADS. Nothing in Lean hashes anything: it is a label: what it is worth is what the hold of that sum in a sandbox is worth. -/
noncomputable def Try.pinned : Pinned := { name := "ytaiiimmdhfcnmaa", sum := "ae49d4de2a7472deb6c664febfcd976c7dbd7c2e0c8706c16046fbfb8823d079", checked := Try.checked }
namespace Rows
def none {H : Type} : Left H := { results := [], args := [] }

/-- 'lancetlaw01.WholePlays': WHATEVER THE INPUT: true; the input reads as it did. -/
def wholePlaysSpec : ChangeSpec := { name := "wholePlays", fn := fun _ => fun
  | [d1, d2] => { results := [.lit (.bool true)], args := [d1, d2] }
  | _ => none }
def wholePlaysRow : OpenClaim := { program := "ytaiiimmdhfcnmaa", sum := "ae49d4de2a7472deb6c664febfcd976c7dbd7c2e0c8706c16046fbfb8823d079", func := "lancet/lancetlaw01.WholePlays", spec := "wholePlays", apart := false }
def WholePlaysSaid : Prop := wholePlaysRow.holds Try.pinned (OpenSpec.ofChange wholePlaysSpec)

/-- ITS FALSE NEIGHBOUR: 'it returns false'. Refute it at one input. -/
def wholePlaysWrong : ChangeSpec := { name := "wholePlays", fn := fun _ => fun
  | [d1, d2] => { results := [.lit (.bool false)], args := [d1, d2] }
  | _ => none }
def WholePlaysWrongFalsely : Prop := wholePlaysRow.holds Try.pinned (OpenSpec.ofChange wholePlaysWrong)

/-- 'lancetlaw01.WholeGcds': WHATEVER THE INPUT: true; the input reads as it did. -/
def wholeGcdsSpec : ChangeSpec := { name := "wholeGcds", fn := fun _ => fun
  | [d1, d2] => { results := [.lit (.bool true)], args := [d1, d2] }
  | _ => none }
def wholeGcdsRow : OpenClaim := { program := "ytaiiimmdhfcnmaa", sum := "ae49d4de2a7472deb6c664febfcd976c7dbd7c2e0c8706c16046fbfb8823d079", func := "lancet/lancetlaw01.WholeGcds", spec := "wholeGcds", apart := false }
def WholeGcdsSaid : Prop := wholeGcdsRow.holds Try.pinned (OpenSpec.ofChange wholeGcdsSpec)

/-- ITS FALSE NEIGHBOUR: 'it returns false'. Refute it at one input. -/
def wholeGcdsWrong : ChangeSpec := { name := "wholeGcds", fn := fun _ => fun
  | [d1, d2] => { results := [.lit (.bool false)], args := [d1, d2] }
  | _ => none }
def WholeGcdsWrongFalsely : Prop := wholeGcdsRow.holds Try.pinned (OpenSpec.ofChange wholeGcdsWrong)

/-- 'lancetlaw01.WholeTexts': WHATEVER THE INPUT: true; the input reads as it did. -/
def wholeTextsSpec : ChangeSpec := { name := "wholeTexts", fn := fun _ => fun
  | [d1, d2] => { results := [.lit (.bool true)], args := [d1, d2] }
  | _ => none }
def wholeTextsRow : OpenClaim := { program := "ytaiiimmdhfcnmaa", sum := "ae49d4de2a7472deb6c664febfcd976c7dbd7c2e0c8706c16046fbfb8823d079", func := "lancet/lancetlaw01.WholeTexts", spec := "wholeTexts", apart := false }
def WholeTextsSaid : Prop := wholeTextsRow.holds Try.pinned (OpenSpec.ofChange wholeTextsSpec)

/-- ITS FALSE NEIGHBOUR: 'it returns false'. Refute it at one input. -/
def wholeTextsWrong : ChangeSpec := { name := "wholeTexts", fn := fun _ => fun
  | [d1, d2] => { results := [.lit (.bool false)], args := [d1, d2] }
  | _ => none }
def WholeTextsWrongFalsely : Prop := wholeTextsRow.holds Try.pinned (OpenSpec.ofChange wholeTextsWrong)

/-- 'lancetlaw01.WholeBack': WHATEVER THE INPUT: true; the input reads as it did. -/
def wholeBackSpec : ChangeSpec := { name := "wholeBack", fn := fun _ => fun
  | [d1, d2] => { results := [.lit (.bool true)], args := [d1, d2] }
  | _ => none }
def wholeBackRow : OpenClaim := { program := "ytaiiimmdhfcnmaa", sum := "ae49d4de2a7472deb6c664febfcd976c7dbd7c2e0c8706c16046fbfb8823d079", func := "lancet/lancetlaw01.WholeBack", spec := "wholeBack", apart := false }
def WholeBackSaid : Prop := wholeBackRow.holds Try.pinned (OpenSpec.ofChange wholeBackSpec)

/-- ITS FALSE NEIGHBOUR: 'it returns false'. Refute it at one input. -/
def wholeBackWrong : ChangeSpec := { name := "wholeBack", fn := fun _ => fun
  | [d1, d2] => { results := [.lit (.bool false)], args := [d1, d2] }
  | _ => none }
def WholeBackWrongFalsely : Prop := wholeBackRow.holds Try.pinned (OpenSpec.ofChange wholeBackWrong)

/-- 'lancetlaw01.WholeUnlike': WHATEVER THE INPUT: true; the input reads as it did. -/
def wholeUnlikeSpec : ChangeSpec := { name := "wholeUnlike", fn := fun _ => fun
  | [d1, d2] => { results := [.lit (.bool true)], args := [d1, d2] }
  | _ => none }
def wholeUnlikeRow : OpenClaim := { program := "ytaiiimmdhfcnmaa", sum := "ae49d4de2a7472deb6c664febfcd976c7dbd7c2e0c8706c16046fbfb8823d079", func := "lancet/lancetlaw01.WholeUnlike", spec := "wholeUnlike", apart := false }
def WholeUnlikeSaid : Prop := wholeUnlikeRow.holds Try.pinned (OpenSpec.ofChange wholeUnlikeSpec)

/-- ITS FALSE NEIGHBOUR: 'it returns false'. Refute it at one input. -/
def wholeUnlikeWrong : ChangeSpec := { name := "wholeUnlike", fn := fun _ => fun
  | [d1, d2] => { results := [.lit (.bool false)], args := [d1, d2] }
  | _ => none }
def WholeUnlikeWrongFalsely : Prop := wholeUnlikeRow.holds Try.pinned (OpenSpec.ofChange wholeUnlikeWrong)

/- THE SECOND FORM. 'bulk': how many values and letters a reading holds, each counted each time it is reached (what is shared counts as often as it is met; a slice's spare places count too). A statement '..UptoSaid' is the law's where the arguments, and the package variables that the reading takes, are together of bulk at most 1048576: NARROWER than '..Said'. Prove '..Said' where nothing that the law and all that it calls make is longer than what came in: it says more and counts as full. Else prove '..UptoSaid'. A law counts once. -/
mutual
def uptoBulk {H : Type} : DataW H → Nat
  | .lit (.string bytes) => bytes.length + 1
  | .lit _ => 1
  | .nil => 1
  | .ptr d => uptoBulk d + 1
  | .slice elems spare => uptoBulkAll elems + uptoBulkAll spare + 1
  | .agg parts => uptoBulkAll parts + 1
  | .iface _ d => uptoBulk d + 1
  | .map entries => uptoBulkEntries entries + 1
  | .held _ => 1
def uptoBulkAll {H : Type} : List (DataW H) → Nat
  | [] => 0
  | d :: r => uptoBulk d + uptoBulkAll r
def uptoBulkEntries {H : Type} : List (Lit × DataW H) → Nat
  | [] => 0
  | x :: r => uptoBulkEntry x + uptoBulkEntries r
def uptoBulkEntry {H : Type} : Lit × DataW H → Nat
  | (.string bytes, d) => bytes.length + uptoBulk d + 1
  | (_, d) => uptoBulk d + 1
 end
def uptoSmall : (H : Type) → List (DataW H) → Bool := fun _ ds => decide (uptoBulkAll ds ≤ 1048576)
def OpenSpec.upto (s : _root_.Go.ChangeSpec) : _root_.Go.OpenSpec := { _root_.Go.OpenSpec.ofChange s with cond := some uptoSmall }

/-- 'lancetlaw01.WholePlays', WHERE WHAT IT READS IS OF BULK AT MOST 1048576: true; the input reads as it did. -/
def wholePlaysUptoRow : OpenClaim := { program := "ytaiiimmdhfcnmaa", sum := "ae49d4de2a7472deb6c664febfcd976c7dbd7c2e0c8706c16046fbfb8823d079", func := "lancet/lancetlaw01.WholePlays", spec := "wholePlays", apart := false, narrowed := true }
def WholePlaysUptoSaid : Prop := wholePlaysUptoRow.holds Try.pinned (OpenSpec.upto wholePlaysSpec)

/-- 'lancetlaw01.WholeGcds', WHERE WHAT IT READS IS OF BULK AT MOST 1048576: true; the input reads as it did. -/
def wholeGcdsUptoRow : OpenClaim := { program := "ytaiiimmdhfcnmaa", sum := "ae49d4de2a7472deb6c664febfcd976c7dbd7c2e0c8706c16046fbfb8823d079", func := "lancet/lancetlaw01.WholeGcds", spec := "wholeGcds", apart := false, narrowed := true }
def WholeGcdsUptoSaid : Prop := wholeGcdsUptoRow.holds Try.pinned (OpenSpec.upto wholeGcdsSpec)

/-- 'lancetlaw01.WholeTexts', WHERE WHAT IT READS IS OF BULK AT MOST 1048576: true; the input reads as it did. -/
def wholeTextsUptoRow : OpenClaim := { program := "ytaiiimmdhfcnmaa", sum := "ae49d4de2a7472deb6c664febfcd976c7dbd7c2e0c8706c16046fbfb8823d079", func := "lancet/lancetlaw01.WholeTexts", spec := "wholeTexts", apart := false, narrowed := true }
def WholeTextsUptoSaid : Prop := wholeTextsUptoRow.holds Try.pinned (OpenSpec.upto wholeTextsSpec)

/-- 'lancetlaw01.WholeBack', WHERE WHAT IT READS IS OF BULK AT MOST 1048576: true; the input reads as it did. -/
def wholeBackUptoRow : OpenClaim := { program := "ytaiiimmdhfcnmaa", sum := "ae49d4de2a7472deb6c664febfcd976c7dbd7c2e0c8706c16046fbfb8823d079", func := "lancet/lancetlaw01.WholeBack", spec := "wholeBack", apart := false, narrowed := true }
def WholeBackUptoSaid : Prop := wholeBackUptoRow.holds Try.pinned (OpenSpec.upto wholeBackSpec)

/-- 'lancetlaw01.WholeUnlike', WHERE WHAT IT READS IS OF BULK AT MOST 1048576: true; the input reads as it did. -/
def wholeUnlikeUptoRow : OpenClaim := { program := "ytaiiimmdhfcnmaa", sum := "ae49d4de2a7472deb6c664febfcd976c7dbd7c2e0c8706c16046fbfb8823d079", func := "lancet/lancetlaw01.WholeUnlike", spec := "wholeUnlike", apart := false, narrowed := true }
def WholeUnlikeUptoSaid : Prop := wholeUnlikeUptoRow.holds Try.pinned (OpenSpec.upto wholeUnlikeSpec)

end Rows
end Go.Proofs.Ytaiiimmdhfcnmaa
