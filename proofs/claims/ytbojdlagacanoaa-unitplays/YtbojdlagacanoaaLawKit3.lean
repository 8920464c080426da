/-
  What stays of three fractions that lie in blocks of their own while calls come that lay new blocks alone. No conditions.
-/
import Derived.Test.YtbojdlagacanoaaQMore
import Derived.Test.YtbojdlagacanoaaRatO
import Derived.Deep.RegionHeld3
import Derived.Lib.QuietBelow
import Derived.BigQuiet
namespace Go.Proofs.Ytbojdlagacanoaa
open Go.RowKit
set_option linter.unusedVariables false

def Three (w : World) (n0 d0 n1 d1 n2 d2 : Int) (x : World) : Prop :=
  Has x w.heap.size (.int .i64 n0) (.int .i64 d0) ∧ Has x (w.heap.size + 1) (.int .i64 n1) (.int .i64 d1) ∧ Has x (w.heap.size + 1 + 1) (.int .i64 n2) (.int .i64 d2) ∧ Below w.heap.size w x
theorem Three.below {w y x : World} {n0 d0 n1 d1 n2 d2 : Int} (h : Three w n0 d0 n1 d1 n2 d2 y) (hb : Below y.heap.size y x) : Three w n0 d0 n1 d1 n2 d2 x :=
  ⟨h.1.below hb, h.2.1.below hb, h.2.2.1.below hb, below_trans h.2.2.2 hb⟩
theorem Three.drew {w y : World} {n0 d0 n1 d1 n2 d2 : Int} (h : Three w n0 d0 n1 d1 n2 d2 y) : Three w n0 d0 n1 d1 n2 d2 y.drew := h.below (Below.refl _ _).drew
theorem Three.drewN {w y : World} {n0 d0 n1 d1 n2 d2 : Int} (h : Three w n0 d0 n1 d1 n2 d2 y) (k : Nat) : Three w n0 d0 n1 d1 n2 d2 (y.drewN k) := h.below (below_drewN (Below.refl _ _) k)
theorem Three.alloc {w y : World} {n0 d0 n1 d1 n2 d2 : Int} (h : Three w n0 d0 n1 d1 n2 d2 y) (o : Obj) : Three w n0 d0 n1 d1 n2 d2 (y.alloc o) := h.below ((Below.refl _ _).alloc (Nat.le_refl _) _)
theorem three_new (w : World) (n0 d0 n1 d1 n2 d2 : Int) (t u v : TypeId) :
    Three w n0 d0 n1 d1 n2 d2 (((w.alloc (.cells #[.int .i64 n0, .int .i64 d0] t)).alloc (.cells #[.int .i64 n1, .int .i64 d1] u)).alloc (.cells #[.int .i64 n2, .int .i64 d2] v)) :=
  ⟨((has_new w _ _ t).alloc _).alloc _, (has_lit _ _ _ (by simp)).alloc _, has_lit _ _ _ (by simp), by go_grown⟩

def Pair2 (w : World) (n0 d0 n1 d1 : Int) (x : World) : Prop :=
  Has x w.heap.size (.int .i64 n0) (.int .i64 d0) ∧ Has x (w.heap.size + 1) (.int .i64 n1) (.int .i64 d1) ∧ Below w.heap.size w x
theorem Pair2.below {w y x : World} {n0 d0 n1 d1 : Int} (h : Pair2 w n0 d0 n1 d1 y) (hb : Below y.heap.size y x) : Pair2 w n0 d0 n1 d1 x :=
  ⟨h.1.below hb, h.2.1.below hb, below_trans h.2.2 hb⟩
theorem Pair2.drew {w y : World} {n0 d0 n1 d1 : Int} (h : Pair2 w n0 d0 n1 d1 y) : Pair2 w n0 d0 n1 d1 y.drew := h.below (Below.refl _ _).drew
theorem Pair2.alloc {w y : World} {n0 d0 n1 d1 : Int} (h : Pair2 w n0 d0 n1 d1 y) (o : Obj) : Pair2 w n0 d0 n1 d1 (y.alloc o) := h.below ((Below.refl _ _).alloc (Nat.le_refl _) _)
theorem pair2_new (w : World) (n0 d0 n1 d1 : Int) (t u : TypeId) :
    Pair2 w n0 d0 n1 d1 ((w.alloc (.cells #[.int .i64 n0, .int .i64 d0] t)).alloc (.cells #[.int .i64 n1, .int .i64 d1] u)) :=
  ⟨(has_new w _ _ t).alloc _, has_lit _ _ _ (by simp), by go_grown⟩
end Go.Proofs.Ytbojdlagacanoaa
