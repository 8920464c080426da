/-
  No cell of these rows narrows 'for every input' (looked for: loops, veiled, ifaces, maps, wideKeys, modest, calm, conditions, laid).
  DERIVED. THE GIVEN ROWS OF THIS SEAT. 5 by the template 'for every input the law returns true; each argument reads behind the call as it read before'; 0 by the template 'total and deterministic' (their statements: YtdnlobcfmibeoaaTotals.lean).
  GIVEN WITH THE SEED: the statements are not yours to turn. If you find one false, say at which input.
  Laid BY PROGRAM, IN A SANDBOX (cutbox-rows.mjs): the forced cells as the released guide's own fill.sh prints them over the translation 526ac54bc05870c9… (all of the seat's roots in one cut). By AI agents, Wed Nov 11 2026. No macro, syntax, notation, axiom, sorry.
-/
import Derived.Test.YtdnlobcfmibeoaaChecked
import GoSem.Claim
import GoSem.ClaimJoined
import GoSem.ClaimMapViews
import Derived.JoinedTies
import Derived.KernelRfl
namespace Go.Proofs.Ytdnlobcfmibeoaa
/- THE CELL 'sum', in the pinned program and in every row, IS THE sha256 OF THE DUMP (.gsa) THAT YtdnlobcfmibeoaaProg.lean LOADS. Nothing in Lean hashes anything: it is a label: what it is worth is what the hold of that sum in a sandbox is worth. -/
noncomputable def Try.pinned : Pinned := { name := "ytdnlobcfmibeoaa", sum := "526ac54bc05870c981a709d7cb9152c3005f402da99a36992c6828109df802a4", checked := Try.checked }
namespace Rows
def none {H : Type} : Left H := { results := [], args := [] }

/-- 'lancetlaw11.StuffBack': WHATEVER THE INPUT: true; the input reads as it did. -/
def stuffBackSpec : ChangeSpec := { name := "stuffBack", fn := fun _ => fun
  | [d1, d2, d3, d4] => { results := [.lit (.bool true)], args := [d1, d2, d3, d4] }
  | _ => none }
def stuffBackRow : OpenClaim := { program := "ytdnlobcfmibeoaa", sum := "526ac54bc05870c981a709d7cb9152c3005f402da99a36992c6828109df802a4", func := "lancet/lancetlaw11.StuffBack", spec := "stuffBack", unfollowed := true, recurses := true, apart := false }
def StuffBackSaid : Prop := stuffBackRow.holds Try.pinned (OpenSpec.ofChange stuffBackSpec)

/-- ITS FALSE NEIGHBOUR: 'it returns false'. Refute it at one input. -/
def stuffBackWrong : ChangeSpec := { name := "stuffBack", fn := fun _ => fun
  | [d1, d2, d3, d4] => { results := [.lit (.bool false)], args := [d1, d2, d3, d4] }
  | _ => none }
def StuffBackWrongFalsely : Prop := stuffBackRow.holds Try.pinned (OpenSpec.ofChange stuffBackWrong)

/-- 'lancetlaw11.StuffPlays': WHATEVER THE INPUT: true; the input reads as it did. -/
def stuffPlaysSpec : ChangeSpec := { name := "stuffPlays", fn := fun _ => fun
  | [d1, d2, d3, d4] => { results := [.lit (.bool true)], args := [d1, d2, d3, d4] }
  | _ => none }
def stuffPlaysRow : OpenClaim := { program := "ytdnlobcfmibeoaa", sum := "526ac54bc05870c981a709d7cb9152c3005f402da99a36992c6828109df802a4", func := "lancet/lancetlaw11.StuffPlays", spec := "stuffPlays", unfollowed := true, recurses := true, apart := false }
def StuffPlaysSaid : Prop := stuffPlaysRow.holds Try.pinned (OpenSpec.ofChange stuffPlaysSpec)

/-- ITS FALSE NEIGHBOUR: 'it returns false'. Refute it at one input. -/
def stuffPlaysWrong : ChangeSpec := { name := "stuffPlays", fn := fun _ => fun
  | [d1, d2, d3, d4] => { results := [.lit (.bool false)], args := [d1, d2, d3, d4] }
  | _ => none }
def StuffPlaysWrongFalsely : Prop := stuffPlaysRow.holds Try.pinned (OpenSpec.ofChange stuffPlaysWrong)

/-- 'lancetlaw11.StuffParts': WHATEVER THE INPUT: true; the input reads as it did. -/
def stuffPartsSpec : ChangeSpec := { name := "stuffParts", fn := fun _ => fun
  | [d1, d2, d3, d4, d5] => { results := [.lit (.bool true)], args := [d1, d2, d3, d4, d5] }
  | _ => none }
def stuffPartsRow : OpenClaim := { program := "ytdnlobcfmibeoaa", sum := "526ac54bc05870c981a709d7cb9152c3005f402da99a36992c6828109df802a4", func := "lancet/lancetlaw11.StuffParts", spec := "stuffParts", unfollowed := true, recurses := true, apart := false }
def StuffPartsSaid : Prop := stuffPartsRow.holds Try.pinned (OpenSpec.ofChange stuffPartsSpec)

/-- ITS FALSE NEIGHBOUR: 'it returns false'. Refute it at one input. -/
def stuffPartsWrong : ChangeSpec := { name := "stuffParts", fn := fun _ => fun
  | [d1, d2, d3, d4, d5] => { results := [.lit (.bool false)], args := [d1, d2, d3, d4, d5] }
  | _ => none }
def StuffPartsWrongFalsely : Prop := stuffPartsRow.holds Try.pinned (OpenSpec.ofChange stuffPartsWrong)

/-- 'lancetlaw11.StuffSizes': WHATEVER THE INPUT: true; the input reads as it did. -/
def stuffSizesSpec : ChangeSpec := { name := "stuffSizes", fn := fun _ => fun
  | [d1, d2, d3, d4] => { results := [.lit (.bool true)], args := [d1, d2, d3, d4] }
  | _ => none }
def stuffSizesRow : OpenClaim := { program := "ytdnlobcfmibeoaa", sum := "526ac54bc05870c981a709d7cb9152c3005f402da99a36992c6828109df802a4", func := "lancet/lancetlaw11.StuffSizes", spec := "stuffSizes", unfollowed := true, recurses := true, apart := false }
def StuffSizesSaid : Prop := stuffSizesRow.holds Try.pinned (OpenSpec.ofChange stuffSizesSpec)

/-- ITS FALSE NEIGHBOUR: 'it returns false'. Refute it at one input. -/
def stuffSizesWrong : ChangeSpec := { name := "stuffSizes", fn := fun _ => fun
  | [d1, d2, d3, d4] => { results := [.lit (.bool false)], args := [d1, d2, d3, d4] }
  | _ => none }
def StuffSizesWrongFalsely : Prop := stuffSizesRow.holds Try.pinned (OpenSpec.ofChange stuffSizesWrong)

/-- 'lancetlaw11.StuffUnlike': WHATEVER THE INPUT: true; the input reads as it did. -/
def stuffUnlikeSpec : ChangeSpec := { name := "stuffUnlike", fn := fun _ => fun
  | [d1, d2, d3, d4, d5] => { results := [.lit (.bool true)], args := [d1, d2, d3, d4, d5] }
  | _ => none }
def stuffUnlikeRow : OpenClaim := { program := "ytdnlobcfmibeoaa", sum := "526ac54bc05870c981a709d7cb9152c3005f402da99a36992c6828109df802a4", func := "lancet/lancetlaw11.StuffUnlike", spec := "stuffUnlike", unfollowed := true, recurses := true, apart := false }
def StuffUnlikeSaid : Prop := stuffUnlikeRow.holds Try.pinned (OpenSpec.ofChange stuffUnlikeSpec)

/-- ITS FALSE NEIGHBOUR: 'it returns false'. Refute it at one input. -/
def stuffUnlikeWrong : ChangeSpec := { name := "stuffUnlike", fn := fun _ => fun
  | [d1, d2, d3, d4, d5] => { results := [.lit (.bool false)], args := [d1, d2, d3, d4, d5] }
  | _ => none }
def StuffUnlikeWrongFalsely : Prop := stuffUnlikeRow.holds Try.pinned (OpenSpec.ofChange stuffUnlikeWrong)

/- THE SECOND FORM. 'bulk': how many values and letters a reading holds, each counted each time it is reached (what is shared counts as often as it is met; a slice's spare places count too). A statement '..UptoSaid' is the law's where the arguments, and the package variables that the reading takes, are together of bulk at most 1048576: NARROWER than '..Said'. Prove '..Said' where nothing that the law and all that it calls make is longer than what came in: it says more and counts as full. Else prove '..UptoSaid'. A law counts once. -/
mutual
def uptoBulk {H : Type} : DataW H → Nat
  | .lit (.string bytes) => bytes.length + 1
  | .lit _ => 1
  | .nil => 1
  | .ptr d => uptoBulk d + 1
  | .slice elems spare => uptoBulkAll elems + uptoBulkAll spare + 1
  | .agg parts => uptoBulkAll parts + 1
  | .iface _ d => uptoBulk d + 1
  | .map entries => uptoBulkEntries entries + 1
  | .held _ => 1
def uptoBulkAll {H : Type} : List (DataW H) → Nat
  | [] => 0
  | d :: r => uptoBulk d + uptoBulkAll r
def uptoBulkEntries {H : Type} : List (Lit × DataW H) → Nat
  | [] => 0
  | x :: r => uptoBulkEntry x + uptoBulkEntries r
def uptoBulkEntry {H : Type} : Lit × DataW H → Nat
  | (.string bytes, d) => bytes.length + uptoBulk d + 1
  | (_, d) => uptoBulk d + 1
 end
def uptoSmall : (H : Type) → List (DataW H) → Bool := fun _ ds => decide (uptoBulkAll ds ≤ 1048576)
def OpenSpec.upto (s : _root_.Go.ChangeSpec) : _root_.Go.OpenSpec := { _root_.Go.OpenSpec.ofChange s with cond := some uptoSmall }

/-- 'lancetlaw11.StuffBack', WHERE WHAT IT READS IS OF BULK AT MOST 1048576: true; the input reads as it did. -/
def stuffBackUptoRow : OpenClaim := { program := "ytdnlobcfmibeoaa", sum := "526ac54bc05870c981a709d7cb9152c3005f402da99a36992c6828109df802a4", func := "lancet/lancetlaw11.StuffBack", spec := "stuffBack", unfollowed := true, recurses := true, apart := false, narrowed := true }
def StuffBackUptoSaid : Prop := stuffBackUptoRow.holds Try.pinned (OpenSpec.upto stuffBackSpec)

/-- 'lancetlaw11.StuffPlays', WHERE WHAT IT READS IS OF BULK AT MOST 1048576: true; the input reads as it did. -/
def stuffPlaysUptoRow : OpenClaim := { program := "ytdnlobcfmibeoaa", sum := "526ac54bc05870c981a709d7cb9152c3005f402da99a36992c6828109df802a4", func := "lancet/lancetlaw11.StuffPlays", spec := "stuffPlays", unfollowed := true, recurses := true, apart := false, narrowed := true }
def StuffPlaysUptoSaid : Prop := stuffPlaysUptoRow.holds Try.pinned (OpenSpec.upto stuffPlaysSpec)

/-- 'lancetlaw11.StuffParts', WHERE WHAT IT READS IS OF BULK AT MOST 1048576: true; the input reads as it did. -/
def stuffPartsUptoRow : OpenClaim := { program := "ytdnlobcfmibeoaa", sum := "526ac54bc05870c981a709d7cb9152c3005f402da99a36992c6828109df802a4", func := "lancet/lancetlaw11.StuffParts", spec := "stuffParts", unfollowed := true, recurses := true, apart := false, narrowed := true }
def StuffPartsUptoSaid : Prop := stuffPartsUptoRow.holds Try.pinned (OpenSpec.upto stuffPartsSpec)

/-- 'lancetlaw11.StuffSizes', WHERE WHAT IT READS IS OF BULK AT MOST 1048576: true; the input reads as it did. -/
def stuffSizesUptoRow : OpenClaim := { program := "ytdnlobcfmibeoaa", sum := "526ac54bc05870c981a709d7cb9152c3005f402da99a36992c6828109df802a4", func := "lancet/lancetlaw11.StuffSizes", spec := "stuffSizes", unfollowed := true, recurses := true, apart := false, narrowed := true }
def StuffSizesUptoSaid : Prop := stuffSizesUptoRow.holds Try.pinned (OpenSpec.upto stuffSizesSpec)

/-- 'lancetlaw11.StuffUnlike', WHERE WHAT IT READS IS OF BULK AT MOST 1048576: true; the input reads as it did. -/
def stuffUnlikeUptoRow : OpenClaim := { program := "ytdnlobcfmibeoaa", sum := "526ac54bc05870c981a709d7cb9152c3005f402da99a36992c6828109df802a4", func := "lancet/lancetlaw11.StuffUnlike", spec := "stuffUnlike", unfollowed := true, recurses := true, apart := false, narrowed := true }
def StuffUnlikeUptoSaid : Prop := stuffUnlikeUptoRow.holds Try.pinned (OpenSpec.upto stuffUnlikeSpec)

end Rows
end Go.Proofs.Ytdnlobcfmibeoaa
