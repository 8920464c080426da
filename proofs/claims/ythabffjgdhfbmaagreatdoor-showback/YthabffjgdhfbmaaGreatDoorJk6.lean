/-
  Texts that belong together, one behind the other: DsMkA. Conditions: as each says.
-/
import Derived.BigQuiet
import Derived.Deep.CutRange
import Derived.Deep.QuietTactic
import Derived.Lib.QuietBelowIn
import Derived.Maps.AppendAt
import Derived.RangeFuncCalls
import Derived.Sort.BigQuietIn
import Derived.Test.YthabffjgdhfbmaaGreatDoorProg
import Derived.Test.YthabffjgdhfbmaaGreatDoorJk1
import Derived.Test.YthabffjgdhfbmaaGreatDoorJk2
import Derived.Test.YthabffjgdhfbmaaGreatDoorJk3
import Derived.Test.YthabffjgdhfbmaaGreatDoorJk4
import Derived.Test.YthabffjgdhfbmaaGreatDoorJk5
set_option maxRecDepth 100000
set_option maxHeartbeats 32000000
set_option linter.unusedVariables false
namespace Go.Proofs.YthabffjgdhfbmaaGreatDoor
open Go.RowKit
theorem rep_getD (n j : Nat) : (Array.replicate n false).getD j false = false := by
 rw [Array.getD_eq_getD_getElem?, Array.getElem?_replicate]
 split <;> rfl
theorem nm_new {H : Nat} (B k : Nat) (z : World) (hH : H ≤ z.heap.size) : NmG H B (z.alloc (.cells #[.pointer (some ⟨B, k, none⟩)] 177)) k (.func (.func 125) #[] #[.pointer (some ⟨z.heap.size, 0, none⟩)]) := ⟨z.heap.size, rfl, by simp, hH⟩
theorem new_cell (W : World) (v : Value) (t : TypeId) : (W.alloc (.cells #[v] t)).cell? ⟨W.heap.size, 0, none⟩ = some v := by simp
theorem nu_below (B k : Nat) (lo hi : Int) (z : World) : Below z.heap.size z (((z.alloc (.cells #[.pointer (some ⟨B, k, none⟩)] 179)).alloc (.cells #[.int .i64 lo] 3)).alloc (.cells #[.int .i64 hi] 3)) :=
 (((Below.refl _ _).alloc (Nat.le_refl _) _).alloc (by rw [World.size_alloc]; omega) _).alloc (by rw [World.size_alloc, World.size_alloc]; omega) _
theorem nu_new {H : Nat} (B k : Nat) (lo hi : Int) (z : World) (hH : H ≤ z.heap.size) : NuG H B (((z.alloc (.cells #[.pointer (some ⟨B, k, none⟩)] 179)).alloc (.cells #[.int .i64 lo] 3)).alloc (.cells #[.int .i64 hi] 3)) k lo hi (.func (.func 127) #[] #[.pointer (some ⟨z.heap.size + 1, 0, none⟩), .pointer (some ⟨z.heap.size + 2, 0, none⟩), .pointer (some ⟨z.heap.size, 0, none⟩)]) := by
 refine ⟨z.heap.size + 1, z.heap.size + 2, z.heap.size, rfl, ?_, ?_, ?_, by omega, by omega, hH⟩
 · have e : z.heap.size + 1 = (z.alloc (.cells #[.pointer (some ⟨B, k, none⟩)] 179)).heap.size := by rw [World.size_alloc]
   rw [World.cell?_alloc_lt _ _ _ (by simp), e]
   exact new_cell _ _ _
 · have e : z.heap.size + 2 = ((z.alloc (.cells #[.pointer (some ⟨B, k, none⟩)] 179)).alloc (.cells #[.int .i64 lo] 3)).heap.size := by rw [World.size_alloc, World.size_alloc]
   rw [e]
   exact new_cell _ _ _
 · rw [World.cell?_alloc_lt _ _ _ (by simp; omega), World.cell?_alloc_lt _ _ _ (by simp)]
   simp
theorem meanings_any (B : Nat) (w : World) : Calls Tryz.prog 75 #[.pointer (some ⟨B, 0, none⟩)] w fun e z => ∃ G ms c x, e = .returned (.map (some G)) ∧ MkMap w.heap.size B x z G ms c ∧ (∀ j f, insK j = some f → x.getD j false = true) ∧ Below w.heap.size w z := by
 have hmf : ∀ (fn : Fn) (first cap : Array Value) (w : World), (Instr.makeFunc fn first cap).run Tryz.prog w = .ok (.func fn first cap) w := fun _ _ _ _ => rfl
 have hmm := @run_makeMap Tryz.prog
 go_enter Tryz.func75, Tryz.ntmps75
 go_upto_region 2 with fail
 refine region_props (MkP w.heap.size B) (MkW w B) (by kernel_rfl) (by kernel_rfl) ?_ ?_ ?_
 · intro x a z i op ho hI haf hx hxi hW
   have hi : i < 50 := (List.getElem?_eq_some_iff.1 ho).1
   have hxs : x.size = 50 := hx
   have xi := getD_false hxi
   match i, hi with
   | 0, _ =>
    obtain rfl := Option.some.inj (show some _ = some op from ho)
    go_simp
    exact ⟨_, rfl, ⟨_, rfl, hW.b.size, _, _, World.alloc_heap_new z _⟩, MkP.keep (.of_below ((Below.refl _ _).alloc (Nat.le_refl _) _)), hW.made xi (by omega)⟩
   | 1, _ =>
    obtain rfl := Option.some.inj (show some _ = some op from ho)
    have e1 : a.tmps.getD 3 undef = .pointer (some ⟨B, 0, none⟩) := (hI.was (by kernel_rfl)).trans rfl
    go_simp
    exact ⟨_, rfl, rfl, RegK.refl _ _ _, (hW.other (by decide) rfl)⟩
   | 2, _ =>
    obtain rfl := Option.some.inj (show some _ = some op from ho)
    have e1 : a.tmps.getD 8 undef = .pointer (some ⟨B, 0, none⟩) := hI.val 1 _ 8 rfl rfl (dep_at haf (by kernel_rfl))
    go_simp
    exact ⟨_, rfl, rfl, RegK.refl _ _ _, (hW.other (by decide) rfl)⟩
   | 3, _ =>
    obtain rfl := Option.some.inj (show some _ = some op from ho)
    have e1 : a.tmps.getD 9 undef = .pointer (some ⟨B, 0, none⟩) := hI.val 2 _ 9 rfl rfl (dep_at haf (by kernel_rfl))
    go_simp
    exact ⟨_, rfl, rfl, RegK.refl _ _ _, (hW.other (by decide) rfl)⟩
   | 4, _ =>
    obtain rfl := Option.some.inj (show some _ = some op from ho)
    have e1 : a.tmps.getD 10 undef = .pointer (some ⟨B, 0, none⟩) := hI.val 3 _ 10 rfl rfl (dep_at haf (by kernel_rfl))
    go_simp
    refine (pname_any B 0 z).mono ?_
    rintro e z' ⟨rfl, rfl⟩
    have hb : Below z.heap.size z (z.alloc (.cells #[.pointer (some ⟨B, 0, none⟩)] 177)) := (Below.refl _ _).alloc (Nat.le_refl _) _
    exact ⟨_, rfl, nm_new B 0 z hW.b.size, MkP.keep (.of_below hb), (hW.cells _ _).other (by decide) rfl⟩
   | 5, _ =>
    obtain rfl := Option.some.inj (show some _ = some op from ho)
    have e2 := hI.val 4 _ 11 rfl rfl (dep_at haf (by kernel_rfl))
    obtain ⟨g, Z, e1, up, km, W'⟩ := hW.put (i := 5) (f := kDev) rfl xi (by omega) (dep_at haf (by kernel_rfl)) (hI.val 0 _ 7 rfl rfl (dep_at haf (by kernel_rfl))) (v := a.tmps.getD 11 undef) (.inl ⟨rfl, e2⟩)
    replace up : (Instr.mapUpdate 139 (.map (some g)) (.string ⟨#[100, 101, 118, 105, 99, 101]⟩) (a.tmps.getD 11 undef)).run Tryz.prog z = .ok () Z := up
    generalize hv : a.tmps.getD 11 undef = v at *
    go_simp
    first
     | exact ⟨MkP.keep km, W'⟩
     | exact MkP.keep km
   | 6, _ =>
    obtain rfl := Option.some.inj (show some _ = some op from ho)
    have e1 : a.tmps.getD 0 undef = .pointer (some ⟨B, 0, none⟩) := (hI.was (by kernel_rfl)).trans rfl
    go_simp
    exact ⟨_, rfl, rfl, RegK.refl _ _ _, (hW.other (by decide) rfl)⟩
   | 7, _ =>
    obtain rfl := Option.some.inj (show some _ = some op from ho)
    have e1 : a.tmps.getD 12 undef = .pointer (some ⟨B, 0, none⟩) := hI.val 6 _ 12 rfl rfl (dep_at haf (by kernel_rfl))
    go_simp
    exact ⟨_, rfl, rfl, RegK.refl _ _ _, (hW.other (by decide) rfl)⟩
   | 8, _ =>
    obtain rfl := Option.some.inj (show some _ = some op from ho)
    have e2 : a.tmps.getD 13 undef = .func (.func 103) #[.pointer (some ⟨B, 0, none⟩)] #[] := hI.val 7 _ 13 rfl rfl (dep_at haf (by kernel_rfl))
    obtain ⟨g, Z, e1, up, km, W'⟩ := hW.put (i := 8) (f := kSta) rfl xi (by omega) (dep_at haf (by kernel_rfl)) (hI.val 0 _ 7 rfl rfl (dep_at haf (by kernel_rfl))) (v := a.tmps.getD 13 undef) (.inr (.inr (.inr (.inr (.inr (.inr (.inr (.inl ⟨rfl, e2⟩))))))))
    replace up : (Instr.mapUpdate 139 (.map (some g)) (.string ⟨#[115, 116, 97, 114, 116]⟩) (a.tmps.getD 13 undef)).run Tryz.prog z = .ok () Z := up
    rw [e2] at up
    go_simp
    first
     | exact ⟨MkP.keep km, W'⟩
     | exact MkP.keep km
   | 9, _ =>
    obtain rfl := Option.some.inj (show some _ = some op from ho)
    have e1 : a.tmps.getD 0 undef = .pointer (some ⟨B, 0, none⟩) := (hI.was (by kernel_rfl)).trans rfl
    go_simp
    exact ⟨_, rfl, rfl, RegK.refl _ _ _, (hW.other (by decide) rfl)⟩
   | 10, _ =>
    obtain rfl := Option.some.inj (show some _ = some op from ho)
    have e1 : a.tmps.getD 14 undef = .pointer (some ⟨B, 0, none⟩) := hI.val 9 _ 14 rfl rfl (dep_at haf (by kernel_rfl))
    go_simp
    exact ⟨_, rfl, rfl, RegK.refl _ _ _, (hW.other (by decide) rfl)⟩
   | 11, _ =>
    obtain rfl := Option.some.inj (show some _ = some op from ho)
    have e2 : a.tmps.getD 15 undef = .func (.func 104) #[.pointer (some ⟨B, 0, none⟩)] #[] := hI.val 10 _ 15 rfl rfl (dep_at haf (by kernel_rfl))
    obtain ⟨g, Z, e1, up, km, W'⟩ := hW.put (i := 11) (f := kEsc) rfl xi (by omega) (dep_at haf (by kernel_rfl)) (hI.val 0 _ 7 rfl rfl (dep_at haf (by kernel_rfl))) (v := a.tmps.getD 15 undef) (.inr (.inr (.inr (.inr (.inr (.inr (.inr (.inr (.inl ⟨rfl, e2⟩)))))))))
    replace up : (Instr.mapUpdate 139 (.map (some g)) (.string ⟨#[101, 115, 99, 97, 112, 101]⟩) (a.tmps.getD 15 undef)).run Tryz.prog z = .ok () Z := up
    rw [e2] at up
    go_simp
    first
     | exact ⟨MkP.keep km, W'⟩
     | exact MkP.keep km
   | 12, _ =>
    obtain rfl := Option.some.inj (show some _ = some op from ho)
    have e1 : a.tmps.getD 3 undef = .pointer (some ⟨B, 0, none⟩) := (hI.was (by kernel_rfl)).trans rfl
    go_simp
    exact ⟨_, rfl, rfl, RegK.refl _ _ _, (hW.other (by decide) rfl)⟩
   | 13, _ =>
    obtain rfl := Option.some.inj (show some _ = some op from ho)
    have e1 : a.tmps.getD 16 undef = .pointer (some ⟨B, 0, none⟩) := hI.val 12 _ 16 rfl rfl (dep_at haf (by kernel_rfl))
    go_simp
    exact ⟨_, rfl, rfl, RegK.refl _ _ _, (hW.other (by decide) rfl)⟩
   | 14, _ =>
    obtain rfl := Option.some.inj (show some _ = some op from ho)
    have e1 : a.tmps.getD 17 undef = .pointer (some ⟨B, 0, none⟩) := hI.val 13 _ 17 rfl rfl (dep_at haf (by kernel_rfl))
    go_simp
    exact ⟨_, rfl, rfl, RegK.refl _ _ _, (hW.other (by decide) rfl)⟩
   | 15, _ =>
    obtain rfl := Option.some.inj (show some _ = some op from ho)
    have e1 : a.tmps.getD 18 undef = .pointer (some ⟨B, 4, none⟩) := hI.val 14 _ 18 rfl rfl (dep_at haf (by kernel_rfl))
    go_simp
    refine (pnumber_any B 4 1 32 z).mono ?_
    rintro e z' ⟨rfl, rfl⟩
    exact ⟨_, rfl, nu_new B 4 1 32 z hW.b.size, MkP.keep (.of_below (nu_below B 4 1 32 z)), (((hW.cells _ _).cells _ _).cells _ _).other (by decide) rfl⟩
   | 16, _ =>
    obtain rfl := Option.some.inj (show some _ = some op from ho)
    have e2 := hI.val 15 _ 19 rfl rfl (dep_at haf (by kernel_rfl))
    obtain ⟨g, Z, e1, up, km, W'⟩ := hW.put (i := 16) (f := kSiz) rfl xi (by omega) (dep_at haf (by kernel_rfl)) (hI.val 0 _ 7 rfl rfl (dep_at haf (by kernel_rfl))) (v := a.tmps.getD 19 undef) (.inr (.inr (.inl ⟨rfl, e2⟩)))
    replace up : (Instr.mapUpdate 139 (.map (some g)) (.string ⟨#[115, 105, 122, 101]⟩) (a.tmps.getD 19 undef)).run Tryz.prog z = .ok () Z := up
    generalize hv : a.tmps.getD 19 undef = v at *
    go_simp
    first
     | exact ⟨MkP.keep km, W'⟩
     | exact MkP.keep km
   | 17, _ =>
    obtain rfl := Option.some.inj (show some _ = some op from ho)
    have e1 : a.tmps.getD 3 undef = .pointer (some ⟨B, 0, none⟩) := (hI.was (by kernel_rfl)).trans rfl
    go_simp
    exact ⟨_, rfl, rfl, RegK.refl _ _ _, (hW.other (by decide) rfl)⟩
   | 18, _ =>
    obtain rfl := Option.some.inj (show some _ = some op from ho)
    have e1 : a.tmps.getD 20 undef = .pointer (some ⟨B, 0, none⟩) := hI.val 17 _ 20 rfl rfl (dep_at haf (by kernel_rfl))
    go_simp
    exact ⟨_, rfl, rfl, RegK.refl _ _ _, (hW.other (by decide) rfl)⟩
   | 19, _ =>
    obtain rfl := Option.some.inj (show some _ = some op from ho)
    have e1 : a.tmps.getD 21 undef = .pointer (some ⟨B, 0, none⟩) := hI.val 18 _ 21 rfl rfl (dep_at haf (by kernel_rfl))
    go_simp
    exact ⟨_, rfl, rfl, RegK.refl _ _ _, (hW.other (by decide) rfl)⟩
   | 20, _ =>
    obtain rfl := Option.some.inj (show some _ = some op from ho)
    have e1 : a.tmps.getD 22 undef = .pointer (some ⟨B, 5, none⟩) := hI.val 19 _ 22 rfl rfl (dep_at haf (by kernel_rfl))
    go_simp
    refine (pname_any B 5 z).mono ?_
    rintro e z' ⟨rfl, rfl⟩
    have hb : Below z.heap.size z (z.alloc (.cells #[.pointer (some ⟨B, 5, none⟩)] 177)) := (Below.refl _ _).alloc (Nat.le_refl _) _
    exact ⟨_, rfl, nm_new B 5 z hW.b.size, MkP.keep (.of_below hb), (hW.cells _ _).other (by decide) rfl⟩
   | 21, _ =>
    obtain rfl := Option.some.inj (show some _ = some op from ho)
    have e2 := hI.val 20 _ 23 rfl rfl (dep_at haf (by kernel_rfl))
    obtain ⟨g, Z, e1, up, km, W'⟩ := hW.put (i := 21) (f := kSum) rfl xi (by omega) (dep_at haf (by kernel_rfl)) (hI.val 0 _ 7 rfl rfl (dep_at haf (by kernel_rfl))) (v := a.tmps.getD 23 undef) (.inr (.inl ⟨rfl, e2⟩))
    replace up : (Instr.mapUpdate 139 (.map (some g)) (.string ⟨#[115, 117, 109]⟩) (a.tmps.getD 23 undef)).run Tryz.prog z = .ok () Z := up
    generalize hv : a.tmps.getD 23 undef = v at *
    go_simp
    first
     | exact ⟨MkP.keep km, W'⟩
     | exact MkP.keep km
   | 22, _ =>
    obtain rfl := Option.some.inj (show some _ = some op from ho)
    have e1 : a.tmps.getD 0 undef = .pointer (some ⟨B, 0, none⟩) := (hI.was (by kernel_rfl)).trans rfl
    go_simp
    exact ⟨_, rfl, rfl, RegK.refl _ _ _, (hW.other (by decide) rfl)⟩
   | 23, _ =>
    obtain rfl := Option.some.inj (show some _ = some op from ho)
    have e1 : a.tmps.getD 24 undef = .pointer (some ⟨B, 0, none⟩) := hI.val 22 _ 24 rfl rfl (dep_at haf (by kernel_rfl))
    go_simp
    exact ⟨_, rfl, rfl, RegK.refl _ _ _, (hW.other (by decide) rfl)⟩
   | 24, _ =>
    obtain rfl := Option.some.inj (show some _ = some op from ho)
    have e2 : a.tmps.getD 25 undef = .func (.func 106) #[.pointer (some ⟨B, 0, none⟩)] #[] := hI.val 23 _ 25 rfl rfl (dep_at haf (by kernel_rfl))
    obtain ⟨g, Z, e1, up, km, W'⟩ := hW.put (i := 24) (f := kFie) rfl xi (by omega) (dep_at haf (by kernel_rfl)) (hI.val 0 _ 7 rfl rfl (dep_at haf (by kernel_rfl))) (v := a.tmps.getD 25 undef) (.inr (.inr (.inr (.inr (.inr (.inr (.inr (.inr (.inr (.inr (⟨rfl, e2⟩)))))))))))
    replace up : (Instr.mapUpdate 139 (.map (some g)) (.string ⟨#[102, 105, 101, 108, 100]⟩) (a.tmps.getD 25 undef)).run Tryz.prog z = .ok () Z := up
    rw [e2] at up
    go_simp
    first
     | exact ⟨MkP.keep km, W'⟩
     | exact MkP.keep km
   | 25, _ =>
    obtain rfl := Option.some.inj (show some _ = some op from ho)
    have e1 : a.tmps.getD 0 undef = .pointer (some ⟨B, 0, none⟩) := (hI.was (by kernel_rfl)).trans rfl
    go_simp
    exact ⟨_, rfl, rfl, RegK.refl _ _ _, (hW.other (by decide) rfl)⟩
   | 26, _ =>
    obtain rfl := Option.some.inj (show some _ = some op from ho)
    have e1 : a.tmps.getD 26 undef = .pointer (some ⟨B, 0, none⟩) := hI.val 25 _ 26 rfl rfl (dep_at haf (by kernel_rfl))
    go_simp
    exact ⟨_, rfl, rfl, RegK.refl _ _ _, (hW.other (by decide) rfl)⟩
   | 27, _ =>
    obtain rfl := Option.some.inj (show some _ = some op from ho)
    have e2 : a.tmps.getD 27 undef = .func (.func 107) #[.pointer (some ⟨B, 0, none⟩)] #[] := hI.val 26 _ 27 rfl rfl (dep_at haf (by kernel_rfl))
    obtain ⟨g, Z, e1, up, km, W'⟩ := hW.put (i := 27) (f := kReq) rfl xi (by omega) (dep_at haf (by kernel_rfl)) (hI.val 0 _ 7 rfl rfl (dep_at haf (by kernel_rfl))) (v := a.tmps.getD 27 undef) (.inr (.inr (.inr (.inr (.inr (.inr (.inr (.inr (.inr (.inl ⟨rfl, e2⟩))))))))))
    replace up : (Instr.mapUpdate 139 (.map (some g)) (.string ⟨#[114, 101, 113, 117, 101, 115, 116]⟩) (a.tmps.getD 27 undef)).run Tryz.prog z = .ok () Z := up
    rw [e2] at up
    go_simp
    first
     | exact ⟨MkP.keep km, W'⟩
     | exact MkP.keep km
   | 28, _ =>
    obtain rfl := Option.some.inj (show some _ = some op from ho)
    have e1 : a.tmps.getD 3 undef = .pointer (some ⟨B, 0, none⟩) := (hI.was (by kernel_rfl)).trans rfl
    go_simp
    exact ⟨_, rfl, rfl, RegK.refl _ _ _, (hW.other (by decide) rfl)⟩
   | 29, _ =>
    obtain rfl := Option.some.inj (show some _ = some op from ho)
    have e1 : a.tmps.getD 28 undef = .pointer (some ⟨B, 0, none⟩) := hI.val 28 _ 28 rfl rfl (dep_at haf (by kernel_rfl))
    go_simp
    exact ⟨_, rfl, rfl, RegK.refl _ _ _, (hW.other (by decide) rfl)⟩
   | 30, _ =>
    obtain rfl := Option.some.inj (show some _ = some op from ho)
    have e1 : a.tmps.getD 29 undef = .pointer (some ⟨B, 0, none⟩) := hI.val 29 _ 29 rfl rfl (dep_at haf (by kernel_rfl))
    go_simp
    exact ⟨_, rfl, rfl, RegK.refl _ _ _, (hW.other (by decide) rfl)⟩
   | 31, _ =>
    obtain rfl := Option.some.inj (show some _ = some op from ho)
    have e1 : a.tmps.getD 30 undef = .pointer (some ⟨B, 8, none⟩) := hI.val 30 _ 30 rfl rfl (dep_at haf (by kernel_rfl))
    go_simp
    refine (pnumber_any B 8 1 1000 z).mono ?_
    rintro e z' ⟨rfl, rfl⟩
    exact ⟨_, rfl, nu_new B 8 1 1000 z hW.b.size, MkP.keep (.of_below (nu_below B 8 1 1000 z)), (((hW.cells _ _).cells _ _).cells _ _).other (by decide) rfl⟩
   | 32, _ =>
    obtain rfl := Option.some.inj (show some _ = some op from ho)
    have e2 := hI.val 31 _ 31 rfl rfl (dep_at haf (by kernel_rfl))
    obtain ⟨g, Z, e1, up, km, W'⟩ := hW.put (i := 32) (f := kPol) rfl xi (by omega) (dep_at haf (by kernel_rfl)) (hI.val 0 _ 7 rfl rfl (dep_at haf (by kernel_rfl))) (v := a.tmps.getD 31 undef) (.inr (.inr (.inr (.inl ⟨rfl, e2⟩))))
    replace up : (Instr.mapUpdate 139 (.map (some g)) (.string ⟨#[112, 111, 108, 108]⟩) (a.tmps.getD 31 undef)).run Tryz.prog z = .ok () Z := up
    generalize hv : a.tmps.getD 31 undef = v at *
    go_simp
    first
     | exact ⟨MkP.keep km, W'⟩
     | exact MkP.keep km
   | 33, _ =>
    obtain rfl := Option.some.inj (show some _ = some op from ho)
    have e1 : a.tmps.getD 3 undef = .pointer (some ⟨B, 0, none⟩) := (hI.was (by kernel_rfl)).trans rfl
    go_simp
    exact ⟨_, rfl, rfl, RegK.refl _ _ _, (hW.other (by decide) rfl)⟩
   | 34, _ =>
    obtain rfl := Option.some.inj (show some _ = some op from ho)
    have e1 : a.tmps.getD 32 undef = .pointer (some ⟨B, 0, none⟩) := hI.val 33 _ 32 rfl rfl (dep_at haf (by kernel_rfl))
    go_simp
    exact ⟨_, rfl, rfl, RegK.refl _ _ _, (hW.other (by decide) rfl)⟩
   | 35, _ =>
    obtain rfl := Option.some.inj (show some _ = some op from ho)
    have e1 : a.tmps.getD 33 undef = .pointer (some ⟨B, 0, none⟩) := hI.val 34 _ 33 rfl rfl (dep_at haf (by kernel_rfl))
    go_simp
    exact ⟨_, rfl, rfl, RegK.refl _ _ _, (hW.other (by decide) rfl)⟩
   | 36, _ =>
    obtain rfl := Option.some.inj (show some _ = some op from ho)
    have e1 : a.tmps.getD 34 undef = .pointer (some ⟨B, 9, none⟩) := hI.val 35 _ 34 rfl rfl (dep_at haf (by kernel_rfl))
    go_simp
    refine (pnumber_any B 9 1 1000 z).mono ?_
    rintro e z' ⟨rfl, rfl⟩
    exact ⟨_, rfl, nu_new B 9 1 1000 z hW.b.size, MkP.keep (.of_below (nu_below B 9 1 1000 z)), (((hW.cells _ _).cells _ _).cells _ _).other (by decide) rfl⟩
   | 37, _ =>
    obtain rfl := Option.some.inj (show some _ = some op from ho)
    have e2 := hI.val 36 _ 35 rfl rfl (dep_at haf (by kernel_rfl))
    obtain ⟨g, Z, e1, up, km, W'⟩ := hW.put (i := 37) (f := kTim) rfl xi (by omega) (dep_at haf (by kernel_rfl)) (hI.val 0 _ 7 rfl rfl (dep_at haf (by kernel_rfl))) (v := a.tmps.getD 35 undef) (.inr (.inr (.inr (.inr (.inl ⟨rfl, e2⟩)))))
    replace up : (Instr.mapUpdate 139 (.map (some g)) (.string ⟨#[116, 105, 109, 101, 111, 117, 116]⟩) (a.tmps.getD 35 undef)).run Tryz.prog z = .ok () Z := up
    generalize hv : a.tmps.getD 35 undef = v at *
    go_simp
    first
     | exact ⟨MkP.keep km, W'⟩
     | exact MkP.keep km
   | 38, _ =>
    obtain rfl := Option.some.inj (show some _ = some op from ho)
    have e1 : a.tmps.getD 3 undef = .pointer (some ⟨B, 0, none⟩) := (hI.was (by kernel_rfl)).trans rfl
    go_simp
    exact ⟨_, rfl, rfl, RegK.refl _ _ _, (hW.other (by decide) rfl)⟩
   | 39, _ =>
    obtain rfl := Option.some.inj (show some _ = some op from ho)
    have e1 : a.tmps.getD 36 undef = .pointer (some ⟨B, 0, none⟩) := hI.val 38 _ 36 rfl rfl (dep_at haf (by kernel_rfl))
    go_simp
    exact ⟨_, rfl, rfl, RegK.refl _ _ _, (hW.other (by decide) rfl)⟩
   | 40, _ =>
    obtain rfl := Option.some.inj (show some _ = some op from ho)
    have e1 : a.tmps.getD 37 undef = .pointer (some ⟨B, 0, none⟩) := hI.val 39 _ 37 rfl rfl (dep_at haf (by kernel_rfl))
    go_simp
    exact ⟨_, rfl, rfl, RegK.refl _ _ _, (hW.other (by decide) rfl)⟩
   | 41, _ =>
    obtain rfl := Option.some.inj (show some _ = some op from ho)
    have e1 : a.tmps.getD 38 undef = .pointer (some ⟨B, 10, none⟩) := hI.val 40 _ 38 rfl rfl (dep_at haf (by kernel_rfl))
    go_simp
    refine (pnumber_any B 10 0 10 z).mono ?_
    rintro e z' ⟨rfl, rfl⟩
    exact ⟨_, rfl, nu_new B 10 0 10 z hW.b.size, MkP.keep (.of_below (nu_below B 10 0 10 z)), (((hW.cells _ _).cells _ _).cells _ _).other (by decide) rfl⟩
   | 42, _ =>
    obtain rfl := Option.some.inj (show some _ = some op from ho)
    have e2 := hI.val 41 _ 39 rfl rfl (dep_at haf (by kernel_rfl))
    obtain ⟨g, Z, e1, up, km, W'⟩ := hW.put (i := 42) (f := kRet) rfl xi (by omega) (dep_at haf (by kernel_rfl)) (hI.val 0 _ 7 rfl rfl (dep_at haf (by kernel_rfl))) (v := a.tmps.getD 39 undef) (.inr (.inr (.inr (.inr (.inr (.inl ⟨rfl, e2⟩))))))
    replace up : (Instr.mapUpdate 139 (.map (some g)) (.string ⟨#[114, 101, 116, 114, 105, 101, 115]⟩) (a.tmps.getD 39 undef)).run Tryz.prog z = .ok () Z := up
    generalize hv : a.tmps.getD 39 undef = v at *
    go_simp
    first
     | exact ⟨MkP.keep km, W'⟩
     | exact MkP.keep km
   | 43, _ =>
    obtain rfl := Option.some.inj (show some _ = some op from ho)
    have e1 : a.tmps.getD 3 undef = .pointer (some ⟨B, 0, none⟩) := (hI.was (by kernel_rfl)).trans rfl
    go_simp
    exact ⟨_, rfl, rfl, RegK.refl _ _ _, (hW.other (by decide) rfl)⟩
   | 44, _ =>
    obtain rfl := Option.some.inj (show some _ = some op from ho)
    have e1 : a.tmps.getD 40 undef = .pointer (some ⟨B, 0, none⟩) := hI.val 43 _ 40 rfl rfl (dep_at haf (by kernel_rfl))
    go_simp
    exact ⟨_, rfl, rfl, RegK.refl _ _ _, (hW.other (by decide) rfl)⟩
   | 45, _ =>
    obtain rfl := Option.some.inj (show some _ = some op from ho)
    have e1 : a.tmps.getD 41 undef = .pointer (some ⟨B, 0, none⟩) := hI.val 44 _ 41 rfl rfl (dep_at haf (by kernel_rfl))
    go_simp
    exact ⟨_, rfl, rfl, RegK.refl _ _ _, (hW.other (by decide) rfl)⟩
   | 46, _ =>
    obtain rfl := Option.some.inj (show some _ = some op from ho)
    have e1 : a.tmps.getD 42 undef = .pointer (some ⟨B, 11, none⟩) := hI.val 45 _ 42 rfl rfl (dep_at haf (by kernel_rfl))
    go_simp
    refine (pnumber_any B 11 1 1000 z).mono ?_
    rintro e z' ⟨rfl, rfl⟩
    exact ⟨_, rfl, nu_new B 11 1 1000 z hW.b.size, MkP.keep (.of_below (nu_below B 11 1 1000 z)), (((hW.cells _ _).cells _ _).cells _ _).other (by decide) rfl⟩
   | 47, _ =>
    obtain rfl := Option.some.inj (show some _ = some op from ho)
    have e2 := hI.val 46 _ 43 rfl rfl (dep_at haf (by kernel_rfl))
    obtain ⟨g, Z, e1, up, km, W'⟩ := hW.put (i := 47) (f := kAge) rfl xi (by omega) (dep_at haf (by kernel_rfl)) (hI.val 0 _ 7 rfl rfl (dep_at haf (by kernel_rfl))) (v := a.tmps.getD 43 undef) (.inr (.inr (.inr (.inr (.inr (.inr (.inl ⟨rfl, e2⟩)))))))
    replace up : (Instr.mapUpdate 139 (.map (some g)) (.string ⟨#[97, 103, 101]⟩) (a.tmps.getD 43 undef)).run Tryz.prog z = .ok () Z := up
    generalize hv : a.tmps.getD 43 undef = v at *
    go_simp
    first
     | exact ⟨MkP.keep km, W'⟩
     | exact MkP.keep km
   | 48, _ =>
    obtain rfl := Option.some.inj (show some _ = some op from ho)
    have e1 := hI.val 0 _ 7 rfl rfl (dep_at haf (by kernel_rfl))
    obtain ⟨g, e2, r⟩ := e1
    go_simp
    exact ⟨_, rfl, ⟨g, rfl, r⟩, RegK.refl _ _ _, (hW.other (by decide) rfl)⟩
   | 49, _ =>
    obtain rfl := Option.some.inj (show some _ = some op from ho)
    have e1 := hI.val 48 _ 44 rfl rfl (dep_at haf (by kernel_rfl))
    obtain ⟨g, e2, r⟩ := e1
    go_simp
    exact ⟨_, rfl, ⟨g, rfl, r⟩, RegK.refl _ _ _, (hW.other (by decide) rfl)⟩
 · intro x a z hx hall hI hW
   obtain ⟨G, ms, c, h1, h2⟩ := hW.mp (hall 0 (by decide))
   obtain ⟨g, e1, hg, es, c', he⟩ := hI.val 49 _ 2 rfl rfl (hall 49 (by decide))
   obtain rfl := h2 g es c' hg he
   have hA : Hid (∀ j f, insK j = some f → x.getD j false = true) := fun j f hj => hall j (by unfold insK at hj; split at hj <;> first | decide | cases hj)
   have hb : Hid (Below w.heap.size w z) := hW.b
   replace h1 : Hid (MkMap w.heap.size B x z g ms c) := h1
   have df := hI.dfr
   clear hI hW hall h2 he
   obtain ⟨T, ds⟩ := a
   simp only at df e1
   subst df
   go_wp2
   refine bodyPost_ret (results_tmp rfl _ _ _) rfl ?_
   exact ⟨g, ms, c, x, by rw [e1], h1.out, hA.out, hb.out⟩
 · refine ⟨(Below.refl _ _).drew, fun _ => ⟨fun j f hj => rep_getD _ _, fun g es c hg hc => ?_⟩, fun h => (by rw [rep_getD] at h; cases h)⟩
   have := (Array.getElem?_eq_some_iff.1 hc).1
   exact Nat.lt_irrefl _ (Nat.lt_of_lt_of_le this hg)
end Go.Proofs.YthabffjgdhfbmaaGreatDoor
