/-
  Texts that belong together, one behind the other: LexTab, LexConK. Conditions: as each says.
-/
import Derived.Lib.LaidTab
import Derived.Lib.Space
import Derived.Lib.Strings
import Derived.Test.YtagkgneijdbkoaaDoorJn13
import Derived.Test.YtagkgneijdbkoaaDoorJn2
/-
  The library's table of white space, as the program's text lays it: kept where only what is new is written (layer 7). No conditions but those that each says.
-/
namespace Go.Proofs.YtagkgneijdbkoaaDoor
open Go.RowKit
set_option linter.unusedVariables false

/-- strings.asciiSpace holds what its initialiser lays -/
def Tab7 (w : World) : Prop := ∀ c : Nat, c < 256 → w.cell? ⟨0, c, none⟩ = some (.int .u8 (if Lib.isSp (UInt8.ofNat c) then 1 else 0))
theorem Tab7.below {w x : World} (h : Tab7 w) (hb : Below w.heap.size w x) : Tab7 x := fun c hc => by
  have hk := h c hc
  exact (hb.cell (World.block_lt_of_cell? _ _ hk)).trans hk
theorem Tab7.of {w : World} (h : Lib.TabIs Tryd.prog w "strings.asciiSpace" .u8 Lib.asciiSpaceTab) : Tab7 w := fun c hc => by
  rw [h.cell (by kernel_rfl) c (by rw [Lib.asciiSpaceTab_length]; exact hc), Lib.asciiSpaceTab_at c hc]
end Go.Proofs.YtagkgneijdbkoaaDoor
/-
  What is asked of the program's own Rows (layer 7), as a contract. The contract is under the condition that the library's table of white space is as laid.
-/
namespace Go.Proofs.YtagkgneijdbkoaaDoor
open Go.RowKit
set_option linter.unusedVariables false

def RowsP : Prop := ∀ (s : ByteArray) (w : World), Tab7 w → Calls Tryd.prog 16 #[.string s] w fun e w' => ∃ v, e = .returned (.tuple #[v, .int .i64 ((lexLine s.data.toList : Nat) : Int), .int .i64 ((lexErr s.data.toList : Nat) : Int)]) ∧ RowsAt w' v (lexRows s.data.toList) ∧ Below w.heap.size w w'
/-- the same, with the words' room -/
def RowsPC : Prop := ∀ (s : ByteArray) (w : World), Tab7 w → Calls Tryd.prog 16 #[.string s] w fun e w' => ∃ v, e = .returned (.tuple #[v, .int .i64 ((lexLine s.data.toList : Nat) : Int), .int .i64 ((lexErr s.data.toList : Nat) : Int)]) ∧ RowsAtC w' v (lexRows s.data.toList) ∧ Below w.heap.size w w'
def RoC (w : World) (s : ByteArray) (L E : Int) (rs : List Ln) : Prop := ∀ x, Below w.heap.size w x → Calls Tryd.prog 16 #[.string s] x fun e w' => ∃ v, e = .returned (.tuple #[v, .int .i64 L, .int .i64 E]) ∧ RowsAt w' v rs ∧ Below x.heap.size x w'
def rRoC (s : ByteArray) (L E : Int) (rs : List Ln) : Prop := ∀ x, Calls Tryd.prog 9 #[.string s] x fun e w' => ∃ v, e = .returned (.tuple #[v, .int .i64 L, .int .i64 E]) ∧ RowsAt w' v rs ∧ Below x.heap.size x w'
end Go.Proofs.YtagkgneijdbkoaaDoor
