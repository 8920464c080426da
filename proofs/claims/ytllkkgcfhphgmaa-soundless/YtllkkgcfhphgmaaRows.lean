/-
  No cell of these rows narrows 'for every input' (looked for: loops, veiled, ifaces, maps, wideKeys, modest, calm, conditions, laid).
  DERIVED. THE GIVEN ROWS OF THIS SEAT. 3 by the template 'for every input the law returns true; each argument reads behind the call as it read before'; 0 by the template 'total and deterministic' (their statements: YtllkkgcfhphgmaaTotals.lean).
  GIVEN WITH THE SEED: the statements are not yours to turn. If you find one false, say at which input.
  Laid BY PROGRAM, IN A SANDBOX (cutbox-rows.mjs): the forced cells as the released guide's own fill.sh prints them over the translation ad0aae11de69618f… (all of the seat's roots in one cut). By AI agents, Wed Nov 11 2026. No macro, syntax, notation, axiom, sorry.
-/
import Derived.Test.YtllkkgcfhphgmaaChecked
import GoSem.Claim
import GoSem.ClaimJoined
import GoSem.ClaimMapViews
import Derived.JoinedTies
import Derived.KernelRfl
namespace Go.Proofs.Ytllkkgcfhphgmaa
/- THE CELL 'sum', in the pinned program and in every row, IS THE sha256 OF THE DUMP (.gsa) THAT YtllkkgcfhphgmaaProg.lean LOADS. Nothing in Lean hashes anything: it is a label: what it is worth is what the hold of that sum in a sandbox is worth. -/
noncomputable def Try.pinned : Pinned := { name := "ytllkkgcfhphgmaa", sum := "ad0aae11de69618f912c8d249963478fd27466ecfdf49e7c0fe6b7d781e2dcfd", checked := Try.checked }
namespace Rows
def none {H : Type} : Left H := { results := [], args := [] }

/-- 'lancetlaw09.SoundPlays': WHATEVER THE INPUT: true; the input reads as it did. -/
def soundPlaysSpec : ChangeSpec := { name := "soundPlays", fn := fun _ => fun
  | [d] => { results := [.lit (.bool true)], args := [d] }
  | _ => none }
def soundPlaysRow : OpenClaim := { program := "ytllkkgcfhphgmaa", sum := "ad0aae11de69618f912c8d249963478fd27466ecfdf49e7c0fe6b7d781e2dcfd", func := "lancet/lancetlaw09.SoundPlays", spec := "soundPlays", unfollowed := true, recurses := true, apart := false }
def SoundPlaysSaid : Prop := soundPlaysRow.holds Try.pinned (OpenSpec.ofChange soundPlaysSpec)

/-- ITS FALSE NEIGHBOUR: 'it returns false'. Refute it at one input. -/
def soundPlaysWrong : ChangeSpec := { name := "soundPlays", fn := fun _ => fun
  | [d] => { results := [.lit (.bool false)], args := [d] }
  | _ => none }
def SoundPlaysWrongFalsely : Prop := soundPlaysRow.holds Try.pinned (OpenSpec.ofChange soundPlaysWrong)

/-- 'lancetlaw09.SoundFields': WHATEVER THE INPUT: true; the input reads as it did. -/
def soundFieldsSpec : ChangeSpec := { name := "soundFields", fn := fun _ => fun
  | [d1, d2] => { results := [.lit (.bool true)], args := [d1, d2] }
  | _ => none }
def soundFieldsRow : OpenClaim := { program := "ytllkkgcfhphgmaa", sum := "ad0aae11de69618f912c8d249963478fd27466ecfdf49e7c0fe6b7d781e2dcfd", func := "lancet/lancetlaw09.SoundFields", spec := "soundFields", unfollowed := true, recurses := true, apart := false }
def SoundFieldsSaid : Prop := soundFieldsRow.holds Try.pinned (OpenSpec.ofChange soundFieldsSpec)

/-- ITS FALSE NEIGHBOUR: 'it returns false'. Refute it at one input. -/
def soundFieldsWrong : ChangeSpec := { name := "soundFields", fn := fun _ => fun
  | [d1, d2] => { results := [.lit (.bool false)], args := [d1, d2] }
  | _ => none }
def SoundFieldsWrongFalsely : Prop := soundFieldsRow.holds Try.pinned (OpenSpec.ofChange soundFieldsWrong)

/-- 'lancetlaw09.SoundLess': WHATEVER THE INPUT: true; the input reads as it did. -/
def soundLessSpec : ChangeSpec := { name := "soundLess", fn := fun _ => fun
  | [d1, d2] => { results := [.lit (.bool true)], args := [d1, d2] }
  | _ => none }
def soundLessRow : OpenClaim := { program := "ytllkkgcfhphgmaa", sum := "ad0aae11de69618f912c8d249963478fd27466ecfdf49e7c0fe6b7d781e2dcfd", func := "lancet/lancetlaw09.SoundLess", spec := "soundLess", unfollowed := true, recurses := true, apart := false }
def SoundLessSaid : Prop := soundLessRow.holds Try.pinned (OpenSpec.ofChange soundLessSpec)

/-- ITS FALSE NEIGHBOUR: 'it returns false'. Refute it at one input. -/
def soundLessWrong : ChangeSpec := { name := "soundLess", fn := fun _ => fun
  | [d1, d2] => { results := [.lit (.bool false)], args := [d1, d2] }
  | _ => none }
def SoundLessWrongFalsely : Prop := soundLessRow.holds Try.pinned (OpenSpec.ofChange soundLessWrong)

/- THE SECOND FORM. 'bulk': how many values and letters a reading holds, each counted each time it is reached (what is shared counts as often as it is met; a slice's spare places count too). A statement '..UptoSaid' is the law's where the arguments, and the package variables that the reading takes, are together of bulk at most 1048576: NARROWER than '..Said'. Prove '..Said' where nothing that the law and all that it calls make is longer than what came in: it says more and counts as full. Else prove '..UptoSaid'. A law counts once. -/
mutual
def uptoBulk {H : Type} : DataW H → Nat
  | .lit (.string bytes) => bytes.length + 1
  | .lit _ => 1
  | .nil => 1
  | .ptr d => uptoBulk d + 1
  | .slice elems spare => uptoBulkAll elems + uptoBulkAll spare + 1
  | .agg parts => uptoBulkAll parts + 1
  | .iface _ d => uptoBulk d + 1
  | .map entries => uptoBulkEntries entries + 1
  | .held _ => 1
def uptoBulkAll {H : Type} : List (DataW H) → Nat
  | [] => 0
  | d :: r => uptoBulk d + uptoBulkAll r
def uptoBulkEntries {H : Type} : List (Lit × DataW H) → Nat
  | [] => 0
  | x :: r => uptoBulkEntry x + uptoBulkEntries r
def uptoBulkEntry {H : Type} : Lit × DataW H → Nat
  | (.string bytes, d) => bytes.length + uptoBulk d + 1
  | (_, d) => uptoBulk d + 1
 end
def uptoSmall : (H : Type) → List (DataW H) → Bool := fun _ ds => decide (uptoBulkAll ds ≤ 1048576)
def OpenSpec.upto (s : _root_.Go.ChangeSpec) : _root_.Go.OpenSpec := { _root_.Go.OpenSpec.ofChange s with cond := some uptoSmall }

/-- 'lancetlaw09.SoundPlays', WHERE WHAT IT READS IS OF BULK AT MOST 1048576: true; the input reads as it did. -/
def soundPlaysUptoRow : OpenClaim := { program := "ytllkkgcfhphgmaa", sum := "ad0aae11de69618f912c8d249963478fd27466ecfdf49e7c0fe6b7d781e2dcfd", func := "lancet/lancetlaw09.SoundPlays", spec := "soundPlays", unfollowed := true, recurses := true, apart := false, narrowed := true }
def SoundPlaysUptoSaid : Prop := soundPlaysUptoRow.holds Try.pinned (OpenSpec.upto soundPlaysSpec)

/-- 'lancetlaw09.SoundFields', WHERE WHAT IT READS IS OF BULK AT MOST 1048576: true; the input reads as it did. -/
def soundFieldsUptoRow : OpenClaim := { program := "ytllkkgcfhphgmaa", sum := "ad0aae11de69618f912c8d249963478fd27466ecfdf49e7c0fe6b7d781e2dcfd", func := "lancet/lancetlaw09.SoundFields", spec := "soundFields", unfollowed := true, recurses := true, apart := false, narrowed := true }
def SoundFieldsUptoSaid : Prop := soundFieldsUptoRow.holds Try.pinned (OpenSpec.upto soundFieldsSpec)

/-- 'lancetlaw09.SoundLess', WHERE WHAT IT READS IS OF BULK AT MOST 1048576: true; the input reads as it did. -/
def soundLessUptoRow : OpenClaim := { program := "ytllkkgcfhphgmaa", sum := "ad0aae11de69618f912c8d249963478fd27466ecfdf49e7c0fe6b7d781e2dcfd", func := "lancet/lancetlaw09.SoundLess", spec := "soundLess", unfollowed := true, recurses := true, apart := false, narrowed := true }
def SoundLessUptoSaid : Prop := soundLessUptoRow.holds Try.pinned (OpenSpec.upto soundLessSpec)

end Rows
end Go.Proofs.Ytllkkgcfhphgmaa
