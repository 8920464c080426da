/-
  A second region that draws its order, behind a first one: the contract of a callee that only reads, or draws. No conditions.
-/
import Derived.Test.YtbojdlagacanoaaRatR
namespace Go.Proofs.Ytbojdlagacanoaa
open Go.RowKit
set_option linter.unusedVariables false

theorem quiet_more {P : Program} {f : FuncId} {args : Array Value} {W : World} {a n : Nat} {v : Value}
    (h : Calls P f args (W.drewN (a + n)) fun e w' => e = .returned v ∧ w' = W.drewN (a + n)) : Calls P f args (W.drewN (a + n)) fun e w'' => e = .returned v ∧ ∃ m, w'' = W.drewN (a + m) :=
  h.mono fun _ _ ⟨he, hm⟩ => ⟨he, n, hm⟩
theorem quiet_more_drew {P : Program} {f : FuncId} {args : Array Value} {W : World} {a n : Nat} {v : Value}
    (h : Calls P f args (W.drewN (a + n)) fun e w' => e = .returned v ∧ ∃ k, w' = (W.drewN (a + n)).drewN k) : Calls P f args (W.drewN (a + n)) fun e w'' => e = .returned v ∧ ∃ m, w'' = W.drewN (a + m) :=
  h.mono fun _ _ ⟨he, k, hm⟩ => ⟨he, n + k, by rw [hm, World.drewN_drewN, Nat.add_assoc]⟩

theorem has_lit {w : World} {b : Nat} (x y : Value) (t : TypeId) (h : b = w.heap.size) : Has (w.alloc (.cells #[x, y] t)) b x y := by subst h; exact has_new w x y t
theorem has_drewN {w : World} {b : Nat} {x y : Value} (h : Has w b x y) (k : Nat) : Has (w.drewN k) b x y := h.below (below_drewN (Below.refl _ _) k)
end Go.Proofs.Ytbojdlagacanoaa
