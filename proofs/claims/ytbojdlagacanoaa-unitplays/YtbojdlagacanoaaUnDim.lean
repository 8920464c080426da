/-
  Arrays of four numbers, compared. No conditions.
-/
import Derived.ChangeKeysEq
import Derived.Test.YtbojdlagacanoaaUnTab
namespace Go.Proofs.Ytbojdlagacanoaa
open Go.RowKit
set_option linter.unusedVariables false

/-- are they of one kind? -/
def dimB (u v : U) : Bool := decide (u.m = v.m ∧ u.l = v.l ∧ u.t = v.t ∧ u.k = v.k)

theorem eq_dims (a b c d a' b' c' d' : Int) (w : World) :
    (Op.equalIn 10000 23 (.agg #[.int .i64 a, .int .i64 b, .int .i64 c, .int .i64 d]) (.agg #[.int .i64 a', .int .i64 b', .int .i64 c', .int .i64 d'])).run Try.prog w = .ok (decide (a = a' ∧ b = b' ∧ c = c' ∧ d = d')) w := by
  have hu : Try.prog.underlying 23 = some (.array 4 3) := by kernel_rfl
  obtain ⟨i, hi⟩ : ∃ i, Try.prog.info? 3 = some i := Option.isSome_iff_exists.1 (by kernel_rfl)
  have hc : Try.prog.cellsOf 3 = 1 := by kernel_rfl
  have hint : Try.prog.underlying 3 = some (.int .i64) := by kernel_rfl
  rw [show (10000 : Nat) = 9999 + 1 from rfl, run_equalIn_array w 9999 _ _ hu hi, hc]
  have hp : ∀ (x y z t : Value) (w : World), (part 3 #[x, y, z, t] 0).run Try.prog w = .ok x w ∧ (part 3 #[x, y, z, t] 1).run Try.prog w = .ok y w ∧ (part 3 #[x, y, z, t] 2).run Try.prog w = .ok z w ∧ (part 3 #[x, y, z, t] 3).run Try.prog w = .ok t w := fun x y z t w => by
    refine ⟨?_, ?_, ?_, ?_⟩ <;> simp [go_sem]
  have heq : ∀ (x y : Int) (w : World), (Op.equalIn 9999 3 (.int .i64 x) (.int .i64 y)).run Try.prog w = .ok (x == y) w := fun x y w => run_equalIn_int w 9998 _ _ _ x y hint
  by_cases h1 : a = a' <;> by_cases h2 : b = b' <;> by_cases h3 : c = c' <;> by_cases h4 : d = d' <;>
    simp [show List.range 4 = [0, 1, 2, 3] from rfl, Op.eqItems, (hp _ _ _ _ _).1, (hp _ _ _ _ _).2.1, (hp _ _ _ _ _).2.2.1, (hp _ _ _ _ _).2.2.2, heq, h1, h2, h3, h4]
end Go.Proofs.Ytbojdlagacanoaa
