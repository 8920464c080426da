/-
  No cell of these rows narrows 'for every input' (looked for: loops, veiled, ifaces, maps, wideKeys, modest, calm, conditions, laid).
  DERIVED. THE GIVEN ROWS OF THIS SEAT. 5 by the template 'for every input the law returns true; each argument reads behind the call as it read before'; 0 by the template 'total and deterministic' (their statements: YtbojdlagacanoaaTotals.lean).
  GIVEN WITH THE SEED: the statements are not yours to turn. If you find one false, say at which input.
  Laid BY PROGRAM, IN A SANDBOX (cutbox-rows.mjs): the forced cells as the released guide's own fill.sh prints them over the translation cdd383e1cceef44b… (all of the seat's roots in one cut). By AI agents, Wed Nov 11 2026. No macro, syntax, notation, axiom, sorry.
-/
import Derived.Test.YtbojdlagacanoaaChecked
import GoSem.Claim
import GoSem.ClaimJoined
import GoSem.ClaimMapViews
import Derived.JoinedTies
import Derived.KernelRfl
namespace Go.Proofs.Ytbojdlagacanoaa
/- THE CELL 'sum', in the pinned program and in every row, IS THE sha256 OF THE DUMP (.gsa) THAT YtbojdlagacanoaaProg.lean LOADS. Nothing in Lean hashes anything: it is a label: what it is worth is what the hold of that sum in a sandbox is worth. -/
noncomputable def Try.pinned : Pinned := { name := "ytbojdlagacanoaa", sum := "cdd383e1cceef44b9b00ddd3c1878dea3ea35c438b30e9d2d99d3db55c019b25", checked := Try.checked }
namespace Rows
def none {H : Type} : Left H := { results := [], args := [] }

/-- 'lancetlaw03.UnitPlays': WHATEVER THE INPUT: true; the input reads as it did. -/
def unitPlaysSpec : ChangeSpec := { name := "unitPlays", fn := fun _ => fun
  | [d1, d2] => { results := [.lit (.bool true)], args := [d1, d2] }
  | _ => none }
def unitPlaysRow : OpenClaim := { program := "ytbojdlagacanoaa", sum := "cdd383e1cceef44b9b00ddd3c1878dea3ea35c438b30e9d2d99d3db55c019b25", func := "lancet/lancetlaw03.UnitPlays", spec := "unitPlays", unfollowed := true, recurses := true, apart := false }
def UnitPlaysSaid : Prop := unitPlaysRow.holds Try.pinned (OpenSpec.ofChange unitPlaysSpec)

/-- ITS FALSE NEIGHBOUR: 'it returns false'. Refute it at one input. -/
def unitPlaysWrong : ChangeSpec := { name := "unitPlays", fn := fun _ => fun
  | [d1, d2] => { results := [.lit (.bool false)], args := [d1, d2] }
  | _ => none }
def UnitPlaysWrongFalsely : Prop := unitPlaysRow.holds Try.pinned (OpenSpec.ofChange unitPlaysWrong)

/-- 'lancetlaw03.UnitConverts': WHATEVER THE INPUT: true; the input reads as it did. -/
def unitConvertsSpec : ChangeSpec := { name := "unitConverts", fn := fun _ => fun
  | [d1, d2, d3] => { results := [.lit (.bool true)], args := [d1, d2, d3] }
  | _ => none }
def unitConvertsRow : OpenClaim := { program := "ytbojdlagacanoaa", sum := "cdd383e1cceef44b9b00ddd3c1878dea3ea35c438b30e9d2d99d3db55c019b25", func := "lancet/lancetlaw03.UnitConverts", spec := "unitConverts", unfollowed := true, recurses := true, apart := false }
def UnitConvertsSaid : Prop := unitConvertsRow.holds Try.pinned (OpenSpec.ofChange unitConvertsSpec)

/-- ITS FALSE NEIGHBOUR: 'it returns false'. Refute it at one input. -/
def unitConvertsWrong : ChangeSpec := { name := "unitConverts", fn := fun _ => fun
  | [d1, d2, d3] => { results := [.lit (.bool false)], args := [d1, d2, d3] }
  | _ => none }
def UnitConvertsWrongFalsely : Prop := unitConvertsRow.holds Try.pinned (OpenSpec.ofChange unitConvertsWrong)

/-- 'lancetlaw03.UnitBack': WHATEVER THE INPUT: true; the input reads as it did. -/
def unitBackSpec : ChangeSpec := { name := "unitBack", fn := fun _ => fun
  | [d1, d2, d3, d4] => { results := [.lit (.bool true)], args := [d1, d2, d3, d4] }
  | _ => none }
def unitBackRow : OpenClaim := { program := "ytbojdlagacanoaa", sum := "cdd383e1cceef44b9b00ddd3c1878dea3ea35c438b30e9d2d99d3db55c019b25", func := "lancet/lancetlaw03.UnitBack", spec := "unitBack", unfollowed := true, recurses := true, apart := false }
def UnitBackSaid : Prop := unitBackRow.holds Try.pinned (OpenSpec.ofChange unitBackSpec)

/-- ITS FALSE NEIGHBOUR: 'it returns false'. Refute it at one input. -/
def unitBackWrong : ChangeSpec := { name := "unitBack", fn := fun _ => fun
  | [d1, d2, d3, d4] => { results := [.lit (.bool false)], args := [d1, d2, d3, d4] }
  | _ => none }
def UnitBackWrongFalsely : Prop := unitBackRow.holds Try.pinned (OpenSpec.ofChange unitBackWrong)

/-- 'lancetlaw03.UnitThird': WHATEVER THE INPUT: true; the input reads as it did. -/
def unitThirdSpec : ChangeSpec := { name := "unitThird", fn := fun _ => fun
  | [d1, d2, d3, d4] => { results := [.lit (.bool true)], args := [d1, d2, d3, d4] }
  | _ => none }
def unitThirdRow : OpenClaim := { program := "ytbojdlagacanoaa", sum := "cdd383e1cceef44b9b00ddd3c1878dea3ea35c438b30e9d2d99d3db55c019b25", func := "lancet/lancetlaw03.UnitThird", spec := "unitThird", unfollowed := true, recurses := true, apart := false }
def UnitThirdSaid : Prop := unitThirdRow.holds Try.pinned (OpenSpec.ofChange unitThirdSpec)

/-- ITS FALSE NEIGHBOUR: 'it returns false'. Refute it at one input. -/
def unitThirdWrong : ChangeSpec := { name := "unitThird", fn := fun _ => fun
  | [d1, d2, d3, d4] => { results := [.lit (.bool false)], args := [d1, d2, d3, d4] }
  | _ => none }
def UnitThirdWrongFalsely : Prop := unitThirdRow.holds Try.pinned (OpenSpec.ofChange unitThirdWrong)

/-- 'lancetlaw03.UnitLikes': WHATEVER THE INPUT: true; the input reads as it did. -/
def unitLikesSpec : ChangeSpec := { name := "unitLikes", fn := fun _ => fun
  | [d1, d2, d3, d4] => { results := [.lit (.bool true)], args := [d1, d2, d3, d4] }
  | _ => none }
def unitLikesRow : OpenClaim := { program := "ytbojdlagacanoaa", sum := "cdd383e1cceef44b9b00ddd3c1878dea3ea35c438b30e9d2d99d3db55c019b25", func := "lancet/lancetlaw03.UnitLikes", spec := "unitLikes", unfollowed := true, recurses := true, apart := false }
def UnitLikesSaid : Prop := unitLikesRow.holds Try.pinned (OpenSpec.ofChange unitLikesSpec)

/-- ITS FALSE NEIGHBOUR: 'it returns false'. Refute it at one input. -/
def unitLikesWrong : ChangeSpec := { name := "unitLikes", fn := fun _ => fun
  | [d1, d2, d3, d4] => { results := [.lit (.bool false)], args := [d1, d2, d3, d4] }
  | _ => none }
def UnitLikesWrongFalsely : Prop := unitLikesRow.holds Try.pinned (OpenSpec.ofChange unitLikesWrong)

/- THE SECOND FORM. 'bulk': how many values and letters a reading holds, each counted each time it is reached (what is shared counts as often as it is met; a slice's spare places count too). A statement '..UptoSaid' is the law's where the arguments, and the package variables that the reading takes, are together of bulk at most 1048576: NARROWER than '..Said'. Prove '..Said' where nothing that the law and all that it calls make is longer than what came in: it says more and counts as full. Else prove '..UptoSaid'. A law counts once. -/
mutual
def uptoBulk {H : Type} : DataW H → Nat
  | .lit (.string bytes) => bytes.length + 1
  | .lit _ => 1
  | .nil => 1
  | .ptr d => uptoBulk d + 1
  | .slice elems spare => uptoBulkAll elems + uptoBulkAll spare + 1
  | .agg parts => uptoBulkAll parts + 1
  | .iface _ d => uptoBulk d + 1
  | .map entries => uptoBulkEntries entries + 1
  | .held _ => 1
def uptoBulkAll {H : Type} : List (DataW H) → Nat
  | [] => 0
  | d :: r => uptoBulk d + uptoBulkAll r
def uptoBulkEntries {H : Type} : List (Lit × DataW H) → Nat
  | [] => 0
  | x :: r => uptoBulkEntry x + uptoBulkEntries r
def uptoBulkEntry {H : Type} : Lit × DataW H → Nat
  | (.string bytes, d) => bytes.length + uptoBulk d + 1
  | (_, d) => uptoBulk d + 1
 end
def uptoSmall : (H : Type) → List (DataW H) → Bool := fun _ ds => decide (uptoBulkAll ds ≤ 1048576)
def OpenSpec.upto (s : _root_.Go.ChangeSpec) : _root_.Go.OpenSpec := { _root_.Go.OpenSpec.ofChange s with cond := some uptoSmall }

/-- 'lancetlaw03.UnitPlays', WHERE WHAT IT READS IS OF BULK AT MOST 1048576: true; the input reads as it did. -/
def unitPlaysUptoRow : OpenClaim := { program := "ytbojdlagacanoaa", sum := "cdd383e1cceef44b9b00ddd3c1878dea3ea35c438b30e9d2d99d3db55c019b25", func := "lancet/lancetlaw03.UnitPlays", spec := "unitPlays", unfollowed := true, recurses := true, apart := false, narrowed := true }
def UnitPlaysUptoSaid : Prop := unitPlaysUptoRow.holds Try.pinned (OpenSpec.upto unitPlaysSpec)

/-- 'lancetlaw03.UnitConverts', WHERE WHAT IT READS IS OF BULK AT MOST 1048576: true; the input reads as it did. -/
def unitConvertsUptoRow : OpenClaim := { program := "ytbojdlagacanoaa", sum := "cdd383e1cceef44b9b00ddd3c1878dea3ea35c438b30e9d2d99d3db55c019b25", func := "lancet/lancetlaw03.UnitConverts", spec := "unitConverts", unfollowed := true, recurses := true, apart := false, narrowed := true }
def UnitConvertsUptoSaid : Prop := unitConvertsUptoRow.holds Try.pinned (OpenSpec.upto unitConvertsSpec)

/-- 'lancetlaw03.UnitBack', WHERE WHAT IT READS IS OF BULK AT MOST 1048576: true; the input reads as it did. -/
def unitBackUptoRow : OpenClaim := { program := "ytbojdlagacanoaa", sum := "cdd383e1cceef44b9b00ddd3c1878dea3ea35c438b30e9d2d99d3db55c019b25", func := "lancet/lancetlaw03.UnitBack", spec := "unitBack", unfollowed := true, recurses := true, apart := false, narrowed := true }
def UnitBackUptoSaid : Prop := unitBackUptoRow.holds Try.pinned (OpenSpec.upto unitBackSpec)

/-- 'lancetlaw03.UnitThird', WHERE WHAT IT READS IS OF BULK AT MOST 1048576: true; the input reads as it did. -/
def unitThirdUptoRow : OpenClaim := { program := "ytbojdlagacanoaa", sum := "cdd383e1cceef44b9b00ddd3c1878dea3ea35c438b30e9d2d99d3db55c019b25", func := "lancet/lancetlaw03.UnitThird", spec := "unitThird", unfollowed := true, recurses := true, apart := false, narrowed := true }
def UnitThirdUptoSaid : Prop := unitThirdUptoRow.holds Try.pinned (OpenSpec.upto unitThirdSpec)

/-- 'lancetlaw03.UnitLikes', WHERE WHAT IT READS IS OF BULK AT MOST 1048576: true; the input reads as it did. -/
def unitLikesUptoRow : OpenClaim := { program := "ytbojdlagacanoaa", sum := "cdd383e1cceef44b9b00ddd3c1878dea3ea35c438b30e9d2d99d3db55c019b25", func := "lancet/lancetlaw03.UnitLikes", spec := "unitLikes", unfollowed := true, recurses := true, apart := false, narrowed := true }
def UnitLikesUptoSaid : Prop := unitLikesUptoRow.holds Try.pinned (OpenSpec.upto unitLikesSpec)

end Rows
end Go.Proofs.Ytbojdlagacanoaa
