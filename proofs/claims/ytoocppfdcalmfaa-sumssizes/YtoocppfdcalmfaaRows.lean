/-
  No cell of these rows narrows 'for every input' (looked for: loops, veiled, ifaces, maps, wideKeys, modest, calm, conditions, laid).
  DERIVED. THE GIVEN ROWS OF THIS SEAT. 4 by the template 'for every input the law returns true; each argument reads behind the call as it read before'; 0 by the template 'total and deterministic' (their statements: YtoocppfdcalmfaaTotals.lean).
  GIVEN WITH THE SEED: the statements are not yours to turn. If you find one false, say at which input.
  Laid BY PROGRAM, IN A SANDBOX (cutbox-rows.mjs): the forced cells as the released guide's own fill.sh prints them over the translation 604b2dc9a46d06cf… (all of the seat's roots in one cut). By AI agents, Wed Nov 11 2026. No macro, syntax, notation, axiom, sorry.
-/
import Derived.Test.YtoocppfdcalmfaaChecked
import GoSem.Claim
import GoSem.ClaimJoined
import GoSem.ClaimMapViews
import Derived.JoinedTies
import Derived.KernelRfl
namespace Go.Proofs.Ytoocppfdcalmfaa
/- THE CELL 'sum', in the pinned program and in every row, IS THE sha256 OF THE DUMP (.gsa) THAT YtoocppfdcalmfaaProg.lean LOADS. Nothing in Lean hashes anything: it is a label: what it is worth is what the hold of that sum in a sandbox is worth. -/
noncomputable def Try.pinned : Pinned := { name := "ytoocppfdcalmfaa", sum := "604b2dc9a46d06cfdb0be31cb351a9a891d8e09e4187cfb1c6b98f3834b7c4f5", checked := Try.checked }
namespace Rows
def none {H : Type} : Left H := { results := [], args := [] }

/-- 'lancetlaw05.SumsPlays': WHATEVER THE INPUT: true; the input reads as it did. -/
def sumsPlaysSpec : ChangeSpec := { name := "sumsPlays", fn := fun _ => fun
  | [d1, d2, d3] => { results := [.lit (.bool true)], args := [d1, d2, d3] }
  | _ => none }
def sumsPlaysRow : OpenClaim := { program := "ytoocppfdcalmfaa", sum := "604b2dc9a46d06cfdb0be31cb351a9a891d8e09e4187cfb1c6b98f3834b7c4f5", func := "lancet/lancetlaw05.SumsPlays", spec := "sumsPlays", unfollowed := true, recurses := true, apart := false }
def SumsPlaysSaid : Prop := sumsPlaysRow.holds Try.pinned (OpenSpec.ofChange sumsPlaysSpec)

/-- ITS FALSE NEIGHBOUR: 'it returns false'. Refute it at one input. -/
def sumsPlaysWrong : ChangeSpec := { name := "sumsPlays", fn := fun _ => fun
  | [d1, d2, d3] => { results := [.lit (.bool false)], args := [d1, d2, d3] }
  | _ => none }
def SumsPlaysWrongFalsely : Prop := sumsPlaysRow.holds Try.pinned (OpenSpec.ofChange sumsPlaysWrong)

/-- 'lancetlaw05.SumsOne': WHATEVER THE INPUT: true; the input reads as it did. -/
def sumsOneSpec : ChangeSpec := { name := "sumsOne", fn := fun _ => fun
  | [d1, d2, d3, d4] => { results := [.lit (.bool true)], args := [d1, d2, d3, d4] }
  | _ => none }
def sumsOneRow : OpenClaim := { program := "ytoocppfdcalmfaa", sum := "604b2dc9a46d06cfdb0be31cb351a9a891d8e09e4187cfb1c6b98f3834b7c4f5", func := "lancet/lancetlaw05.SumsOne", spec := "sumsOne", unfollowed := true, recurses := true, apart := false }
def SumsOneSaid : Prop := sumsOneRow.holds Try.pinned (OpenSpec.ofChange sumsOneSpec)

/-- ITS FALSE NEIGHBOUR: 'it returns false'. Refute it at one input. -/
def sumsOneWrong : ChangeSpec := { name := "sumsOne", fn := fun _ => fun
  | [d1, d2, d3, d4] => { results := [.lit (.bool false)], args := [d1, d2, d3, d4] }
  | _ => none }
def SumsOneWrongFalsely : Prop := sumsOneRow.holds Try.pinned (OpenSpec.ofChange sumsOneWrong)

/-- 'lancetlaw05.SumsZero': WHATEVER THE INPUT: true; the input reads as it did. -/
def sumsZeroSpec : ChangeSpec := { name := "sumsZero", fn := fun _ => fun
  | [d] => { results := [.lit (.bool true)], args := [d] }
  | _ => none }
def sumsZeroRow : OpenClaim := { program := "ytoocppfdcalmfaa", sum := "604b2dc9a46d06cfdb0be31cb351a9a891d8e09e4187cfb1c6b98f3834b7c4f5", func := "lancet/lancetlaw05.SumsZero", spec := "sumsZero", unfollowed := true, recurses := true, apart := false }
def SumsZeroSaid : Prop := sumsZeroRow.holds Try.pinned (OpenSpec.ofChange sumsZeroSpec)

/-- ITS FALSE NEIGHBOUR: 'it returns false'. Refute it at one input. -/
def sumsZeroWrong : ChangeSpec := { name := "sumsZero", fn := fun _ => fun
  | [d] => { results := [.lit (.bool false)], args := [d] }
  | _ => none }
def SumsZeroWrongFalsely : Prop := sumsZeroRow.holds Try.pinned (OpenSpec.ofChange sumsZeroWrong)

/-- 'lancetlaw05.SumsSizes': WHATEVER THE INPUT: true; the input reads as it did. -/
def sumsSizesSpec : ChangeSpec := { name := "sumsSizes", fn := fun _ => fun
  | [d1, d2, d3] => { results := [.lit (.bool true)], args := [d1, d2, d3] }
  | _ => none }
def sumsSizesRow : OpenClaim := { program := "ytoocppfdcalmfaa", sum := "604b2dc9a46d06cfdb0be31cb351a9a891d8e09e4187cfb1c6b98f3834b7c4f5", func := "lancet/lancetlaw05.SumsSizes", spec := "sumsSizes", unfollowed := true, recurses := true, apart := false }
def SumsSizesSaid : Prop := sumsSizesRow.holds Try.pinned (OpenSpec.ofChange sumsSizesSpec)

/-- ITS FALSE NEIGHBOUR: 'it returns false'. Refute it at one input. -/
def sumsSizesWrong : ChangeSpec := { name := "sumsSizes", fn := fun _ => fun
  | [d1, d2, d3] => { results := [.lit (.bool false)], args := [d1, d2, d3] }
  | _ => none }
def SumsSizesWrongFalsely : Prop := sumsSizesRow.holds Try.pinned (OpenSpec.ofChange sumsSizesWrong)

/- THE SECOND FORM. 'bulk': how many values and letters a reading holds, each counted each time it is reached (what is shared counts as often as it is met; a slice's spare places count too). A statement '..UptoSaid' is the law's where the arguments, and the package variables that the reading takes, are together of bulk at most 1048576: NARROWER than '..Said'. Prove '..Said' where nothing that the law and all that it calls make is longer than what came in: it says more and counts as full. Else prove '..UptoSaid'. A law counts once. -/
mutual
def uptoBulk {H : Type} : DataW H → Nat
  | .lit (.string bytes) => bytes.length + 1
  | .lit _ => 1
  | .nil => 1
  | .ptr d => uptoBulk d + 1
  | .slice elems spare => uptoBulkAll elems + uptoBulkAll spare + 1
  | .agg parts => uptoBulkAll parts + 1
  | .iface _ d => uptoBulk d + 1
  | .map entries => uptoBulkEntries entries + 1
  | .held _ => 1
def uptoBulkAll {H : Type} : List (DataW H) → Nat
  | [] => 0
  | d :: r => uptoBulk d + uptoBulkAll r
def uptoBulkEntries {H : Type} : List (Lit × DataW H) → Nat
  | [] => 0
  | x :: r => uptoBulkEntry x + uptoBulkEntries r
def uptoBulkEntry {H : Type} : Lit × DataW H → Nat
  | (.string bytes, d) => bytes.length + uptoBulk d + 1
  | (_, d) => uptoBulk d + 1
 end
def uptoSmall : (H : Type) → List (DataW H) → Bool := fun _ ds => decide (uptoBulkAll ds ≤ 1048576)
def OpenSpec.upto (s : _root_.Go.ChangeSpec) : _root_.Go.OpenSpec := { _root_.Go.OpenSpec.ofChange s with cond := some uptoSmall }

/-- 'lancetlaw05.SumsPlays', WHERE WHAT IT READS IS OF BULK AT MOST 1048576: true; the input reads as it did. -/
def sumsPlaysUptoRow : OpenClaim := { program := "ytoocppfdcalmfaa", sum := "604b2dc9a46d06cfdb0be31cb351a9a891d8e09e4187cfb1c6b98f3834b7c4f5", func := "lancet/lancetlaw05.SumsPlays", spec := "sumsPlays", unfollowed := true, recurses := true, apart := false, narrowed := true }
def SumsPlaysUptoSaid : Prop := sumsPlaysUptoRow.holds Try.pinned (OpenSpec.upto sumsPlaysSpec)

/-- 'lancetlaw05.SumsOne', WHERE WHAT IT READS IS OF BULK AT MOST 1048576: true; the input reads as it did. -/
def sumsOneUptoRow : OpenClaim := { program := "ytoocppfdcalmfaa", sum := "604b2dc9a46d06cfdb0be31cb351a9a891d8e09e4187cfb1c6b98f3834b7c4f5", func := "lancet/lancetlaw05.SumsOne", spec := "sumsOne", unfollowed := true, recurses := true, apart := false, narrowed := true }
def SumsOneUptoSaid : Prop := sumsOneUptoRow.holds Try.pinned (OpenSpec.upto sumsOneSpec)

/-- 'lancetlaw05.SumsZero', WHERE WHAT IT READS IS OF BULK AT MOST 1048576: true; the input reads as it did. -/
def sumsZeroUptoRow : OpenClaim := { program := "ytoocppfdcalmfaa", sum := "604b2dc9a46d06cfdb0be31cb351a9a891d8e09e4187cfb1c6b98f3834b7c4f5", func := "lancet/lancetlaw05.SumsZero", spec := "sumsZero", unfollowed := true, recurses := true, apart := false, narrowed := true }
def SumsZeroUptoSaid : Prop := sumsZeroUptoRow.holds Try.pinned (OpenSpec.upto sumsZeroSpec)

/-- 'lancetlaw05.SumsSizes', WHERE WHAT IT READS IS OF BULK AT MOST 1048576: true; the input reads as it did. -/
def sumsSizesUptoRow : OpenClaim := { program := "ytoocppfdcalmfaa", sum := "604b2dc9a46d06cfdb0be31cb351a9a891d8e09e4187cfb1c6b98f3834b7c4f5", func := "lancet/lancetlaw05.SumsSizes", spec := "sumsSizes", unfollowed := true, recurses := true, apart := false, narrowed := true }
def SumsSizesUptoSaid : Prop := sumsSizesUptoRow.holds Try.pinned (OpenSpec.upto sumsSizesSpec)

end Rows
end Go.Proofs.Ytoocppfdcalmfaa
