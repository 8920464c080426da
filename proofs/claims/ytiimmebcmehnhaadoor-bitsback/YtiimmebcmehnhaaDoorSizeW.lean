/-
  What whole.size returns, called with any number of 64 bits: how much it is, without its sign. Condition: the argument is a number of 64 bits.
-/
import Derived.Test.YtiimmebcmehnhaaDoorProg
import Derived.Test.YtiimmebcmehnhaaDoorNums
import Derived.WalkKit
import Derived.ProofKit
import Derived.OpenShut
import Derived.WalkSpells
import Derived.WalkLawsBesides
namespace Go.Proofs.YtiimmebcmehnhaaDoor
open Go.RowKit
set_option linter.unusedVariables false

set_option maxHeartbeats 400000 in
theorem size_any (a : Int) (w : World) (ha : -9223372036854775808 ≤ a ∧ a ≤ 9223372036854775807) :
    Calls Tryd.prog 33 #[.int .i64 a] w fun e w' => e = .returned (.int .u64 (a.natAbs : Int)) ∧ w' = w := by
  go_enter Tryd.func33, Tryd.ntmps33
  go_wp2
  all_goals
    go_ret
    refine ⟨ret_n ?_, rfl⟩
    try simp only [IntKind.wrap_u64]
    omega
end Go.Proofs.YtiimmebcmehnhaaDoor
