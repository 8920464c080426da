/-
  What unit.Like returns, called with any two texts: whether both are there, of one kind. No conditions.
-/
import Derived.Test.YtbojdlagacanoaaUnFind
import Derived.Test.YtbojdlagacanoaaUnDim
import Derived.Test.YtbojdlagacanoaaRatC
namespace Go.Proofs.Ytbojdlagacanoaa
open Go.RowKit
set_option linter.unusedVariables false

def likeB (a b : ByteArray) : Bool := isU a && isU b && dimB (atU a) (atU b)

set_option maxRecDepth 100000 in
set_option maxHeartbeats 4000000 in
theorem like_any (a b : ByteArray) (w : World) :
    Calls Try.prog 12 #[.string a, .string b] w fun e w' => e = .returned (.bool (likeB a b)) ∧ Below w.heap.size w w' := by
  have fa : Hid (∀ w, Calls Try.prog 9 #[.string a] w fun e w' => e = .returned (.tuple #[encU (atU a), .bool (isU a)]) ∧ Below w.heap.size w w') := fun w => find_any a w
  have fb : Hid (∀ w, Calls Try.prog 9 #[.string b] w fun e w' => e = .returned (.tuple #[encU (atU b), .bool (isU b)]) ∧ Below w.heap.size w w') := fun w => find_any b w
  unfold likeB
  generalize isU a = p at *
  generalize isU b = q at *
  generalize atU a = u at *
  generalize atU b = v at *
  obtain ⟨R, hR⟩ : ∃ R, R = (p && q && dimB u v) := ⟨_, rfl⟩
  rw [← hR]
  have HR : Hid (R = (p && q && dimB u v)) := hR
  clear hR
  have hed : ∀ w : World, (Op.equalIn 10000 23 (.agg #[.int .i64 u.m, .int .i64 u.l, .int .i64 u.t, .int .i64 u.k]) (.agg #[.int .i64 v.m, .int .i64 v.l, .int .i64 v.t, .int .i64 v.k])).run Try.prog w = .ok (dimB u v) w := fun w => eq_dims _ _ _ _ _ _ _ _ w
  generalize dimB u v = dd at *
  cases p <;> cases q
  all_goals
    go_enter Try.func12, Try.ntmps12
    go_wp2_with fail
    refine (fa.out _).mono ?_
    rintro e w1 ⟨rfl, hb1⟩
    have U1 : Hid (HasU (w1.alloc (.cells #[.string u.nm, .int .i64 u.m, .int .i64 u.l, .int .i64 u.t, .int .i64 u.k, .int .i64 u.fn, .int .i64 u.fd, .int .i64 u.on, .int .i64 u.od, .int .i64 u.code] 27)) w1.heap.size 27 u) := hasU_new w1 _ u
    have B1 : Hid (Below w.heap.size w w1) := hb1
    clear hb1 fa
    go_wp2_with fail
    refine (fb.out _).mono ?_
    rintro e w2 ⟨rfl, hb2⟩
    have U2 := (U1.out.below hb2).alloc (.cells #[.string v.nm, .int .i64 v.m, .int .i64 v.l, .int .i64 v.t, .int .i64 v.k, .int .i64 v.fn, .int .i64 v.fd, .int .i64 v.on, .int .i64 v.od, .int .i64 v.code] 27)
    have B2 : Hid (Below w.heap.size w w2) := below_trans (B1.out.alloc B1.out.size _) hb2
    obtain ⟨x0, x1, x2, x3, x4, -⟩ := U2.cells
    clear hb2 fb U1 B1 U2 x0
    go_wp2
    go_ret
    exact ⟨ret_b (by rw [HR.out]; simp), B2.out.alloc B2.out.size _⟩
end Go.Proofs.Ytbojdlagacanoaa
