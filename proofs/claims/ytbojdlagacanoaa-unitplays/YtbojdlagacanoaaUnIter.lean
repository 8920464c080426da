/-
  What unit.units hands on, one by one: the table's rows in their order; it stops where a round says so. Conditions: as the contract of a range over a function has them.
-/
import Derived.RangeFuncNested
import Derived.RangeFuncBound
import Derived.RangeFuncCalls
import Derived.RangeFuncLeaves
import Derived.Shelf.Abstract
import Derived.Shelf.RegionOpen
import Derived.WalkKit
import Derived.OwnWalkIn
import Derived.TacticsInMore
import Derived.LoopNIn
import Derived.LoopIn
import Derived.Test.YtbojdlagacanoaaUnTab
namespace Go.Proofs.Ytbojdlagacanoaa
open Go.RowKit Go.Shelf
set_option linter.unusedVariables false
attribute [local go_sem] Oper.semAt_some

theorem upon_eq {F : Fence} {n : Nat} {P : Program} {o : Oper} {a : Act} {K : Act → World → Prop} {Q : Exit → Act → World → Prop} {R R' : Result Next} (h : R = R') (k : Oper.uponIn F n P o a K Q R') : Oper.uponIn F n P o a K Q R := h ▸ k

set_option maxRecDepth 100000 in
set_option maxHeartbeats 4000000 in
theorem units_in (F : Fence) (n : Nat) (hf : F.fn 19) (hro : F.round = none) (hn : 1 ≤ n) (l : Nat) (J Jx : List U → World → Prop) (W : World)
    (hJ : AbidesFrom W.heap.size J)
    (hY : ∀ pre x W1, J pre W1 → pre.length < 25 → YieldAt F (n - 1) Try.prog l #[encU x] W1 fun e W' =>
      (e = .returned (.bool true) ∧ J (pre ++ [x]) W' ∧ True) ∨ (e = .returned (.bool false) ∧ Jx (pre ++ [x]) W'))
    (h0 : J [] W) :
    CallsIn F n Try.prog 19 #[.func (.yield l) #[] #[]] W fun e W' => (∃ v, e = .returned v) ∧ ((∃ xs, xs = tab ∧ J xs W') ∨ (∃ pre, pre <+: tab ∧ Jx pre W')) := by
  refine callsIn_of_wp Try.func19 rfl hf ?_ hro
  simp only [Try.ntmps19, List.size_toArray, List.length_cons, List.length_nil, Nat.reduceAdd, Nat.reduceSub, Array.replicate_succ, Array.replicate_zero, List.push_toArray, List.append_toArray, List.nil_append, List.cons_append]
  gi_wp2
  refine upon_eq (R' := .ok (.value (.agg bigA)) (W.alloc (.cells #[.int .i64 0, .int .i64 1] 25))) (by kernel_rfl) ?_
  gi_wp2
  gi_loopw [107] (fun p wr => ∃ k : Nat, k ≤ tab.length ∧ p = .int .i64 (k : Int) ∧ J (tab.take k) wr) (fun p _ => tab.length - (intOf p).toNat)
  case atStart => exact ⟨0, Nat.zero_le _, rfl, hJ _ _ _ none h0 (World.grownBy_alloc W _ none) (fun r e => by cases e)⟩
  case round =>
    obtain ⟨k, hk, rfl, hJs⟩ := hrel
    by_cases hlt : k < tab.length
    · have hk25 : (k : Int) < 25 := by rw [tab_len] at hlt; omega
      have hix : ∀ w : World, (Instr.index 69 (.agg bigA) (.int .i64 (k : Int))).run Try.prog w = .ok (encU tab[k]) w := fun w => index_big w k hlt
      have htake : tab.take (k + 1) = tab.take k ++ [tab[k]] := by rw [List.take_append_getElem]
      generalize tab[k] = x at hix htake
      obtain ⟨fn, tmps, assign, body, hy, hR⟩ := hY _ x (wr.alloc (.cells #[.string x.nm, .int .i64 x.m, .int .i64 x.l, .int .i64 x.t, .int .i64 x.k, .int .i64 x.fn, .int .i64 x.fd, .int .i64 x.on, .int .i64 x.od, .int .i64 x.code] 27)) (hJ _ _ _ none hJs (World.grownBy_alloc wr _ none) (fun r e => by cases e)) (by rw [List.length_take]; rw [tab_len] at *; omega)
      gi_wp2
      refine hR.mono ?_
      rintro e W3 (⟨rfl, hJ3, _⟩ | ⟨rfl, hJx3⟩)
      · gi_wp2
        go_roundw
        case rel => exact ⟨k + 1, by omega, by simp, by rw [htake]; exact hJ3⟩
        case measure => simp [intOf]; omega
      · gi_wp2
        refine bodyPost_ret (results_none rfl _ _ _) rfl ?_
        exact ⟨⟨_, rfl⟩, .inr ⟨_, by rw [← htake]; exact List.take_prefix _ _, hJx3⟩⟩
    · obtain rfl : k = tab.length := by omega
      rw [List.take_length] at hJs
      have hk25 : ¬ ((tab.length : Nat) : Int) < 25 := by rw [tab_len]; decide
      gi_wp2
      go_end0
      exact ⟨⟨_, rfl⟩, .inl hJs⟩

theorem units_stops (F : Fence) (n : Nat) (hf : F.fn 19) (hro : F.round = none) (hn : 1 ≤ n) (w : World) :
    SeqStopsK F n Try.prog 19 #[] (fun x : U => #[encU x]) (fun _ _ => True) (fun xs => xs = tab) (fun pre => pre <+: tab) 25 w := fun l J Jx W _ hJ _ hY h0 =>
  units_in F n hf hro hn l J Jx W hJ hY h0
end Go.Proofs.Ytbojdlagacanoaa
