/-
  Texts that belong together, one behind the other: RatRR, QMoreK, RatOf. Conditions: as each says.
-/
import Derived.Deep.RegionWith
import Derived.Test.YtllkkgcfhphgmaaJs7
/-
  What the document's own Right returns, called with any fraction of numbers of 64 bits. Condition: the arguments are numbers of their kinds.
-/
namespace Go.Proofs.Ytllkkgcfhphgmaa
open Go.RowKit
set_option linter.unusedVariables false

theorem natAbs_bd {n : Int} (h : I64 n) : (n.natAbs : Int) ≤ 18446744073709551615 := by unfold I64 at h; omega

set_option maxHeartbeats 1000000 in
theorem rright_any (n d : Int) (w : World) (hn : I64 n) (hd : I64 d) :
    Calls Try.prog 41 #[rv n d] w fun e w' => e = .returned (.bool (rightB n d)) ∧ Below w.heap.size w w' := by
  have fa : Hid (∀ w, Calls Try.prog 56 #[.int .i64 n] w fun e w' => e = .returned (.int .u64 (n.natAbs : Int)) ∧ w' = w) := fun w => rsize_any n w hn
  have fb : Hid (∀ w, Calls Try.prog 56 #[.int .i64 d] w fun e w' => e = .returned (.int .u64 (d.natAbs : Int)) ∧ w' = w) := fun w => rsize_any d w hd
  have fg : Hid (∀ w, Calls Try.prog 55 #[.int .u64 (n.natAbs : Int), .int .u64 (d.natAbs : Int)] w fun e w' => e = .returned (.int .u64 (gcdN n d : Int)) ∧ ∃ k, w' = w.drewN k) := fun w => rgcd_any _ _ w (natAbs_bd hn) (natAbs_bd hd)
  have H : Hid (rightB n d = (decide (0 < d) && ((gcdN n d : Int) == 1))) := by
    show _ = _
    unfold rightB
    congr 1
    rw [Bool.eq_iff_iff]; simp; omega
  generalize rightB n d = r at *
  generalize (gcdN n d : Int) = g at *
  generalize (n.natAbs : Int) = p at *
  generalize (d.natAbs : Int) = q at *
  by_cases h : 0 < d
  · replace H : Hid (r = (g == 1)) := by show _ = _; rw [H.out]; simp [h]
    clear hn hd
    go_enter Try.func41, Try.ntmps41
    go_wp2_with fail
    go_quiet (first
      | (go_at_call_of 56 n; refine Calls.quiet_of_same (fa.out _))
      | (go_at_call_of 56 d; refine Calls.quiet_of_same (fb.out _))
      | (go_at_call 55; refine Calls.quiet_of (fg.out _)))
    go_wp2
    go_ret
    exact ⟨ret_b H.out, below_drewN (by go_grown) _⟩
  · replace H : Hid (r = false) := by show _ = _; rw [H.out]; simp [h]
    have h2 : decide (0 < d) = false := by simp [h]
    clear hn hd
    go_enter Try.func41, Try.ntmps41
    go_wp2_with fail
    go_quiet (fail)
    go_wp2
    go_ret
    exact ⟨ret_b H.out, below_drewN (by go_grown) _⟩

end Go.Proofs.Ytllkkgcfhphgmaa
/-
  A second region that draws its order, behind a first one: the contract of a callee that only reads, or draws. No conditions but those that each says.
-/
namespace Go.Proofs.Ytllkkgcfhphgmaa
open Go.RowKit
set_option linter.unusedVariables false

theorem quiet_more {P : Program} {f : FuncId} {args : Array Value} {W : World} {a n : Nat} {v : Value}
    (h : Calls P f args (W.drewN (a + n)) fun e w' => e = .returned v ∧ w' = W.drewN (a + n)) : Calls P f args (W.drewN (a + n)) fun e w'' => e = .returned v ∧ ∃ m, w'' = W.drewN (a + m) :=
  h.mono fun _ _ ⟨he, hm⟩ => ⟨he, n, hm⟩
theorem quiet_more_drew {P : Program} {f : FuncId} {args : Array Value} {W : World} {a n : Nat} {v : Value}
    (h : Calls P f args (W.drewN (a + n)) fun e w' => e = .returned v ∧ ∃ k, w' = (W.drewN (a + n)).drewN k) : Calls P f args (W.drewN (a + n)) fun e w'' => e = .returned v ∧ ∃ m, w'' = W.drewN (a + m) :=
  h.mono fun _ _ ⟨he, k, hm⟩ => ⟨he, n + k, by rw [hm, World.drewN_drewN, Nat.add_assoc]⟩

theorem has_lit {w : World} {b : Nat} (x y : Value) (t : TypeId) (h : b = w.heap.size) : Has (w.alloc (.cells #[x, y] t)) b x y := by subst h; exact has_new w x y t
theorem has_drewN {w : World} {b : Nat} {x y : Value} (h : Has w b x y) (k : Nat) : Has (w.drewN k) b x y := h.below (below_drewN (Below.refl _ _) k)
end Go.Proofs.Ytllkkgcfhphgmaa
/-
  What the statements' own turn Of returns. No conditions.
-/
namespace Go.Proofs.Ytllkkgcfhphgmaa
open Go.RowKit
set_option linter.unusedVariables false

set_option maxHeartbeats 400000 in
theorem of_any (n d : Int) (w : World) : Calls Try.prog 29 #[rv n d] w fun e w' => e = .returned (rv n d) ∧ Below w.heap.size w w' := by
  go_enter Try.func29, Try.ntmps29
  go_wp2
  go_returns
  exact ⟨rfl, by go_grown⟩
end Go.Proofs.Ytllkkgcfhphgmaa
