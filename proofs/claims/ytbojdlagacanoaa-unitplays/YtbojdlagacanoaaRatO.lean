/-
  What the statements' own two turns (Of, Plain) return. No conditions.
-/
import Derived.Test.YtbojdlagacanoaaQMore
namespace Go.Proofs.Ytbojdlagacanoaa
open Go.RowKit
set_option linter.unusedVariables false

set_option maxHeartbeats 400000 in
theorem of_any (n d : Int) (w : World) : Calls Try.prog 15 #[rv n d] w fun e w' => e = .returned (rv n d) ∧ Below w.heap.size w w' := by
  go_enter Try.func15, Try.ntmps15
  go_wp2
  go_returns
  exact ⟨rfl, by go_grown⟩
set_option maxHeartbeats 400000 in
theorem plain_any (n d : Int) (w : World) : Calls Try.prog 11 #[rv n d] w fun e w' => e = .returned (rv n d) ∧ Below w.heap.size w w' := by
  go_enter Try.func11, Try.ntmps11
  go_wp2
  go_returns
  exact ⟨rfl, by go_grown⟩

end Go.Proofs.Ytbojdlagacanoaa
