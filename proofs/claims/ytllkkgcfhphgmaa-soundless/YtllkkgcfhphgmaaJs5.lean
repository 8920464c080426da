/-
  Texts that belong together, one behind the other: SizeW, RsizeW. Conditions: as each says.
-/
import Derived.OpenShut
import Derived.ProofKit
import Derived.Test.YtllkkgcfhphgmaaJs3
import Derived.Test.YtllkkgcfhphgmaaProg
import Derived.WalkKit
import Derived.WalkLawsBesides
import Derived.WalkSpells
/-
  What whole.size returns, called with any number of 64 bits: how much it is, without its sign. Condition: the argument is a number of 64 bits.
-/
namespace Go.Proofs.Ytllkkgcfhphgmaa
open Go.RowKit
set_option linter.unusedVariables false

set_option maxHeartbeats 400000 in
theorem size_any (a : Int) (w : World) (ha : -9223372036854775808 ≤ a ∧ a ≤ 9223372036854775807) :
    Calls Try.prog 66 #[.int .i64 a] w fun e w' => e = .returned (.int .u64 (a.natAbs : Int)) ∧ w' = w := by
  go_enter Try.func66, Try.ntmps66
  go_wp2
  all_goals
    go_ret
    refine ⟨ret_n ?_, rfl⟩
    try simp only [IntKind.wrap_u64]
    omega
end Go.Proofs.Ytllkkgcfhphgmaa
/-
  What the document's own Size returns, called with any number of 64 bits. Condition: the argument is a number of 64 bits.
-/
namespace Go.Proofs.Ytllkkgcfhphgmaa
open Go.RowKit
set_option linter.unusedVariables false

set_option maxHeartbeats 400000 in
theorem rsize_any (a : Int) (w : World) (ha : -9223372036854775808 ≤ a ∧ a ≤ 9223372036854775807) :
    Calls Try.prog 56 #[.int .i64 a] w fun e w' => e = .returned (.int .u64 (a.natAbs : Int)) ∧ w' = w := by
  go_enter Try.func56, Try.ntmps56
  go_wp2
  all_goals
    go_ret
    refine ⟨ret_n ?_, rfl⟩
    try simp only [IntKind.wrap_u64]
    omega
end Go.Proofs.Ytllkkgcfhphgmaa
