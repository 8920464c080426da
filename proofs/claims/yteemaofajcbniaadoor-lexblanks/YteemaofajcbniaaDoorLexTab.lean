/-
  The library's table of white space, as the program's text lays it: kept where only what is new is written (layer 7). No conditions but those that each says.
-/
import Derived.Test.YteemaofajcbniaaDoorBytesKit
import Derived.Lib.Strings
import Derived.Lib.Space
import Derived.Lib.LaidTab
namespace Go.Proofs.YteemaofajcbniaaDoor
open Go.RowKit
set_option linter.unusedVariables false

/-- strings.asciiSpace holds what its initialiser lays -/
def Tab7 (w : World) : Prop := ∀ c : Nat, c < 256 → w.cell? ⟨0, c, none⟩ = some (.int .u8 (if Lib.isSp (UInt8.ofNat c) then 1 else 0))
theorem Tab7.below {w x : World} (h : Tab7 w) (hb : Below w.heap.size w x) : Tab7 x := fun c hc => by
  have hk := h c hc
  exact (hb.cell (World.block_lt_of_cell? _ _ hk)).trans hk
theorem Tab7.of {w : World} (h : Lib.TabIs Tryd.prog w "strings.asciiSpace" .u8 Lib.asciiSpaceTab) : Tab7 w := fun c hc => by
  rw [h.cell (by kernel_rfl) c (by rw [Lib.asciiSpaceTab_length]; exact hc), Lib.asciiSpaceTab_at c hc]
end Go.Proofs.YteemaofajcbniaaDoor
