/-
  What unit.Convert returns where a name is not there, or the kinds are unlike. Conditions: as each says.
-/
import Derived.Test.YtbojdlagacanoaaUnConvK
namespace Go.Proofs.Ytbojdlagacanoaa
open Go.RowKit
set_option linter.unusedVariables false

set_option maxRecDepth 100000 in
set_option maxHeartbeats 4000000 in
theorem conv_n1 (q : Bool) (n d : Int) (a b : ByteArray) (u v : U) (w : World) (fa : Hid (∀ w, Calls Try.prog 9 #[.string a] w fun e w' => e = .returned (.tuple #[encU u, .bool false]) ∧ Below w.heap.size w w')) (fb : Hid (∀ w, Calls Try.prog 9 #[.string b] w fun e w' => e = .returned (.tuple #[encU v, .bool q]) ∧ Below w.heap.size w w')) :
    Calls Try.prog 14 #[rv n d, .string a, .string b] w fun e w' => e = .returned (.tuple #[rv 0 0, .int .i64 4]) ∧ Below w.heap.size w w' := by
  have G0 : Hid (Below w.heap.size w ((w.alloc (.cells #[.int .i64 n, .int .i64 d] 25)).alloc (.cells #[.int .i64 0, .int .i64 0] 25))) := by unfold Hid; go_grown
  have V0 : Hid (Has ((w.alloc (.cells #[.int .i64 n, .int .i64 d] 25)).alloc (.cells #[.int .i64 0, .int .i64 0] 25)) w.heap.size (.int .i64 n) (.int .i64 d)) := (has_new w _ _ _).alloc _
  have R0 : Hid (Has ((w.alloc (.cells #[.int .i64 n, .int .i64 d] 25)).alloc (.cells #[.int .i64 0, .int .i64 0] 25)) (w.heap.size + 1) (.int .i64 0) (.int .i64 0)) := has_at _ _ _ (by simp)
  go_enter Try.func14, Try.ntmps14
  go_wp2_with fail
  refine (fa.out _).mono ?_
  rintro e w1 ⟨rfl, hb1⟩
  have U1 : Hid (HasU (w1.alloc (.cells #[.string u.nm, .int .i64 u.m, .int .i64 u.l, .int .i64 u.t, .int .i64 u.k, .int .i64 u.fn, .int .i64 u.fd, .int .i64 u.on, .int .i64 u.od, .int .i64 u.code] 27)) w1.heap.size 27 u) := hasU_new w1 _ u
  have G1 : Hid (Below w.heap.size w (w1.alloc (.cells #[.string u.nm, .int .i64 u.m, .int .i64 u.l, .int .i64 u.t, .int .i64 u.k, .int .i64 u.fn, .int .i64 u.fd, .int .i64 u.on, .int .i64 u.od, .int .i64 u.code] 27))) := (below_trans G0.out hb1).alloc (below_trans G0.out hb1).size _
  have V1 : Hid (Has (w1.alloc (.cells #[.string u.nm, .int .i64 u.m, .int .i64 u.l, .int .i64 u.t, .int .i64 u.k, .int .i64 u.fn, .int .i64 u.fd, .int .i64 u.on, .int .i64 u.od, .int .i64 u.code] 27)) w.heap.size (.int .i64 n) (.int .i64 d)) := (V0.out.below hb1).alloc _
  have R1 : Hid (Has (w1.alloc (.cells #[.string u.nm, .int .i64 u.m, .int .i64 u.l, .int .i64 u.t, .int .i64 u.k, .int .i64 u.fn, .int .i64 u.fd, .int .i64 u.on, .int .i64 u.od, .int .i64 u.code] 27)) (w.heap.size + 1) (.int .i64 0) (.int .i64 0)) := (R0.out.below hb1).alloc _
  have L1 : Hid (w.heap.size + 1 < w1.heap.size) := (R0.out.below hb1).2.2.2.2
  clear hb1 fa G0 V0 R0
  go_wp2_with fail
  refine (fb.out _).mono ?_
  rintro e w2 ⟨rfl, hb2⟩
  have U2 : Hid (HasU (w2.alloc (.cells #[.string v.nm, .int .i64 v.m, .int .i64 v.l, .int .i64 v.t, .int .i64 v.k, .int .i64 v.fn, .int .i64 v.fd, .int .i64 v.on, .int .i64 v.od, .int .i64 v.code] 27)) w1.heap.size 27 u) := (U1.out.below hb2).alloc _
  have Y2 : Hid (HasU (w2.alloc (.cells #[.string v.nm, .int .i64 v.m, .int .i64 v.l, .int .i64 v.t, .int .i64 v.k, .int .i64 v.fn, .int .i64 v.fd, .int .i64 v.on, .int .i64 v.od, .int .i64 v.code] 27)) w2.heap.size 27 v) := hasU_new w2 _ v
  have G2 : Hid (Below w.heap.size w (w2.alloc (.cells #[.string v.nm, .int .i64 v.m, .int .i64 v.l, .int .i64 v.t, .int .i64 v.k, .int .i64 v.fn, .int .i64 v.fd, .int .i64 v.on, .int .i64 v.od, .int .i64 v.code] 27))) := (below_trans G1.out hb2).alloc (below_trans G1.out hb2).size _
  have V2 : Hid (Has (w2.alloc (.cells #[.string v.nm, .int .i64 v.m, .int .i64 v.l, .int .i64 v.t, .int .i64 v.k, .int .i64 v.fn, .int .i64 v.fd, .int .i64 v.on, .int .i64 v.od, .int .i64 v.code] 27)) w.heap.size (.int .i64 n) (.int .i64 d)) := (V1.out.below hb2).alloc _
  have R2 : Hid (Has (w2.alloc (.cells #[.string v.nm, .int .i64 v.m, .int .i64 v.l, .int .i64 v.t, .int .i64 v.k, .int .i64 v.fn, .int .i64 v.fd, .int .i64 v.on, .int .i64 v.od, .int .i64 v.code] 27)) (w.heap.size + 1) (.int .i64 0) (.int .i64 0)) := (R1.out.below hb2).alloc _
  have L2 : Hid (w.heap.size + 1 < w2.heap.size) := (R1.out.below hb2).2.2.2.2
  clear fb U1 G1 V1 R1 hb2
  obtain ⟨q0, q1, r0, r1, rl⟩ := R2.out
  clear U2 Y2 V2
  go_wp2
  have hq := fun x y => wrote2 (x := x) (y := y) q0 q1
  refine bodyPost_ret (res_pair Try.results14 rfl rfl (hq _ _).1 (hq _ _).2) rfl ?_
  exact ⟨rfl, below_set2 G2.out (by simp) (by simp)⟩

set_option maxRecDepth 100000 in
set_option maxHeartbeats 4000000 in
theorem conv_n2 (n d : Int) (a b : ByteArray) (u v : U) (w : World) (fa : Hid (∀ w, Calls Try.prog 9 #[.string a] w fun e w' => e = .returned (.tuple #[encU u, .bool true]) ∧ Below w.heap.size w w')) (fb : Hid (∀ w, Calls Try.prog 9 #[.string b] w fun e w' => e = .returned (.tuple #[encU v, .bool false]) ∧ Below w.heap.size w w')) :
    Calls Try.prog 14 #[rv n d, .string a, .string b] w fun e w' => e = .returned (.tuple #[rv 0 0, .int .i64 4]) ∧ Below w.heap.size w w' := by
  have G0 : Hid (Below w.heap.size w ((w.alloc (.cells #[.int .i64 n, .int .i64 d] 25)).alloc (.cells #[.int .i64 0, .int .i64 0] 25))) := by unfold Hid; go_grown
  have V0 : Hid (Has ((w.alloc (.cells #[.int .i64 n, .int .i64 d] 25)).alloc (.cells #[.int .i64 0, .int .i64 0] 25)) w.heap.size (.int .i64 n) (.int .i64 d)) := (has_new w _ _ _).alloc _
  have R0 : Hid (Has ((w.alloc (.cells #[.int .i64 n, .int .i64 d] 25)).alloc (.cells #[.int .i64 0, .int .i64 0] 25)) (w.heap.size + 1) (.int .i64 0) (.int .i64 0)) := has_at _ _ _ (by simp)
  go_enter Try.func14, Try.ntmps14
  go_wp2_with fail
  refine (fa.out _).mono ?_
  rintro e w1 ⟨rfl, hb1⟩
  have U1 : Hid (HasU (w1.alloc (.cells #[.string u.nm, .int .i64 u.m, .int .i64 u.l, .int .i64 u.t, .int .i64 u.k, .int .i64 u.fn, .int .i64 u.fd, .int .i64 u.on, .int .i64 u.od, .int .i64 u.code] 27)) w1.heap.size 27 u) := hasU_new w1 _ u
  have G1 : Hid (Below w.heap.size w (w1.alloc (.cells #[.string u.nm, .int .i64 u.m, .int .i64 u.l, .int .i64 u.t, .int .i64 u.k, .int .i64 u.fn, .int .i64 u.fd, .int .i64 u.on, .int .i64 u.od, .int .i64 u.code] 27))) := (below_trans G0.out hb1).alloc (below_trans G0.out hb1).size _
  have V1 : Hid (Has (w1.alloc (.cells #[.string u.nm, .int .i64 u.m, .int .i64 u.l, .int .i64 u.t, .int .i64 u.k, .int .i64 u.fn, .int .i64 u.fd, .int .i64 u.on, .int .i64 u.od, .int .i64 u.code] 27)) w.heap.size (.int .i64 n) (.int .i64 d)) := (V0.out.below hb1).alloc _
  have R1 : Hid (Has (w1.alloc (.cells #[.string u.nm, .int .i64 u.m, .int .i64 u.l, .int .i64 u.t, .int .i64 u.k, .int .i64 u.fn, .int .i64 u.fd, .int .i64 u.on, .int .i64 u.od, .int .i64 u.code] 27)) (w.heap.size + 1) (.int .i64 0) (.int .i64 0)) := (R0.out.below hb1).alloc _
  have L1 : Hid (w.heap.size + 1 < w1.heap.size) := (R0.out.below hb1).2.2.2.2
  clear hb1 fa G0 V0 R0
  go_wp2_with fail
  refine (fb.out _).mono ?_
  rintro e w2 ⟨rfl, hb2⟩
  have U2 : Hid (HasU (w2.alloc (.cells #[.string v.nm, .int .i64 v.m, .int .i64 v.l, .int .i64 v.t, .int .i64 v.k, .int .i64 v.fn, .int .i64 v.fd, .int .i64 v.on, .int .i64 v.od, .int .i64 v.code] 27)) w1.heap.size 27 u) := (U1.out.below hb2).alloc _
  have Y2 : Hid (HasU (w2.alloc (.cells #[.string v.nm, .int .i64 v.m, .int .i64 v.l, .int .i64 v.t, .int .i64 v.k, .int .i64 v.fn, .int .i64 v.fd, .int .i64 v.on, .int .i64 v.od, .int .i64 v.code] 27)) w2.heap.size 27 v) := hasU_new w2 _ v
  have G2 : Hid (Below w.heap.size w (w2.alloc (.cells #[.string v.nm, .int .i64 v.m, .int .i64 v.l, .int .i64 v.t, .int .i64 v.k, .int .i64 v.fn, .int .i64 v.fd, .int .i64 v.on, .int .i64 v.od, .int .i64 v.code] 27))) := (below_trans G1.out hb2).alloc (below_trans G1.out hb2).size _
  have V2 : Hid (Has (w2.alloc (.cells #[.string v.nm, .int .i64 v.m, .int .i64 v.l, .int .i64 v.t, .int .i64 v.k, .int .i64 v.fn, .int .i64 v.fd, .int .i64 v.on, .int .i64 v.od, .int .i64 v.code] 27)) w.heap.size (.int .i64 n) (.int .i64 d)) := (V1.out.below hb2).alloc _
  have R2 : Hid (Has (w2.alloc (.cells #[.string v.nm, .int .i64 v.m, .int .i64 v.l, .int .i64 v.t, .int .i64 v.k, .int .i64 v.fn, .int .i64 v.fd, .int .i64 v.on, .int .i64 v.od, .int .i64 v.code] 27)) (w.heap.size + 1) (.int .i64 0) (.int .i64 0)) := (R1.out.below hb2).alloc _
  have L2 : Hid (w.heap.size + 1 < w2.heap.size) := (R1.out.below hb2).2.2.2.2
  clear fb U1 G1 V1 R1 hb2
  obtain ⟨q0, q1, r0, r1, rl⟩ := R2.out
  clear U2 Y2 V2
  go_wp2
  have hq := fun x y => wrote2 (x := x) (y := y) q0 q1
  refine bodyPost_ret (res_pair Try.results14 rfl rfl (hq _ _).1 (hq _ _).2) rfl ?_
  exact ⟨rfl, below_set2 G2.out (by simp) (by simp)⟩

set_option maxRecDepth 100000 in
set_option maxHeartbeats 4000000 in
theorem conv_kind (n d : Int) (a b : ByteArray) (u v : U) (w : World) (fa : Hid (∀ w, Calls Try.prog 9 #[.string a] w fun e w' => e = .returned (.tuple #[encU u, .bool true]) ∧ Below w.heap.size w w')) (fb : Hid (∀ w, Calls Try.prog 9 #[.string b] w fun e w' => e = .returned (.tuple #[encU v, .bool true]) ∧ Below w.heap.size w w')) (hed : ∀ w : World, (Op.equalIn 10000 23 (.agg #[.int .i64 u.m, .int .i64 u.l, .int .i64 u.t, .int .i64 u.k]) (.agg #[.int .i64 v.m, .int .i64 v.l, .int .i64 v.t, .int .i64 v.k])).run Try.prog w = .ok false w) :
    Calls Try.prog 14 #[rv n d, .string a, .string b] w fun e w' => e = .returned (.tuple #[rv 0 0, .int .i64 5]) ∧ Below w.heap.size w w' := by
  have G0 : Hid (Below w.heap.size w ((w.alloc (.cells #[.int .i64 n, .int .i64 d] 25)).alloc (.cells #[.int .i64 0, .int .i64 0] 25))) := by unfold Hid; go_grown
  have V0 : Hid (Has ((w.alloc (.cells #[.int .i64 n, .int .i64 d] 25)).alloc (.cells #[.int .i64 0, .int .i64 0] 25)) w.heap.size (.int .i64 n) (.int .i64 d)) := (has_new w _ _ _).alloc _
  have R0 : Hid (Has ((w.alloc (.cells #[.int .i64 n, .int .i64 d] 25)).alloc (.cells #[.int .i64 0, .int .i64 0] 25)) (w.heap.size + 1) (.int .i64 0) (.int .i64 0)) := has_at _ _ _ (by simp)
  go_enter Try.func14, Try.ntmps14
  go_wp2_with fail
  refine (fa.out _).mono ?_
  rintro e w1 ⟨rfl, hb1⟩
  have U1 : Hid (HasU (w1.alloc (.cells #[.string u.nm, .int .i64 u.m, .int .i64 u.l, .int .i64 u.t, .int .i64 u.k, .int .i64 u.fn, .int .i64 u.fd, .int .i64 u.on, .int .i64 u.od, .int .i64 u.code] 27)) w1.heap.size 27 u) := hasU_new w1 _ u
  have G1 : Hid (Below w.heap.size w (w1.alloc (.cells #[.string u.nm, .int .i64 u.m, .int .i64 u.l, .int .i64 u.t, .int .i64 u.k, .int .i64 u.fn, .int .i64 u.fd, .int .i64 u.on, .int .i64 u.od, .int .i64 u.code] 27))) := (below_trans G0.out hb1).alloc (below_trans G0.out hb1).size _
  have V1 : Hid (Has (w1.alloc (.cells #[.string u.nm, .int .i64 u.m, .int .i64 u.l, .int .i64 u.t, .int .i64 u.k, .int .i64 u.fn, .int .i64 u.fd, .int .i64 u.on, .int .i64 u.od, .int .i64 u.code] 27)) w.heap.size (.int .i64 n) (.int .i64 d)) := (V0.out.below hb1).alloc _
  have R1 : Hid (Has (w1.alloc (.cells #[.string u.nm, .int .i64 u.m, .int .i64 u.l, .int .i64 u.t, .int .i64 u.k, .int .i64 u.fn, .int .i64 u.fd, .int .i64 u.on, .int .i64 u.od, .int .i64 u.code] 27)) (w.heap.size + 1) (.int .i64 0) (.int .i64 0)) := (R0.out.below hb1).alloc _
  have L1 : Hid (w.heap.size + 1 < w1.heap.size) := (R0.out.below hb1).2.2.2.2
  clear hb1 fa G0 V0 R0
  go_wp2_with fail
  refine (fb.out _).mono ?_
  rintro e w2 ⟨rfl, hb2⟩
  have U2 : Hid (HasU (w2.alloc (.cells #[.string v.nm, .int .i64 v.m, .int .i64 v.l, .int .i64 v.t, .int .i64 v.k, .int .i64 v.fn, .int .i64 v.fd, .int .i64 v.on, .int .i64 v.od, .int .i64 v.code] 27)) w1.heap.size 27 u) := (U1.out.below hb2).alloc _
  have Y2 : Hid (HasU (w2.alloc (.cells #[.string v.nm, .int .i64 v.m, .int .i64 v.l, .int .i64 v.t, .int .i64 v.k, .int .i64 v.fn, .int .i64 v.fd, .int .i64 v.on, .int .i64 v.od, .int .i64 v.code] 27)) w2.heap.size 27 v) := hasU_new w2 _ v
  have G2 : Hid (Below w.heap.size w (w2.alloc (.cells #[.string v.nm, .int .i64 v.m, .int .i64 v.l, .int .i64 v.t, .int .i64 v.k, .int .i64 v.fn, .int .i64 v.fd, .int .i64 v.on, .int .i64 v.od, .int .i64 v.code] 27))) := (below_trans G1.out hb2).alloc (below_trans G1.out hb2).size _
  have V2 : Hid (Has (w2.alloc (.cells #[.string v.nm, .int .i64 v.m, .int .i64 v.l, .int .i64 v.t, .int .i64 v.k, .int .i64 v.fn, .int .i64 v.fd, .int .i64 v.on, .int .i64 v.od, .int .i64 v.code] 27)) w.heap.size (.int .i64 n) (.int .i64 d)) := (V1.out.below hb2).alloc _
  have R2 : Hid (Has (w2.alloc (.cells #[.string v.nm, .int .i64 v.m, .int .i64 v.l, .int .i64 v.t, .int .i64 v.k, .int .i64 v.fn, .int .i64 v.fd, .int .i64 v.on, .int .i64 v.od, .int .i64 v.code] 27)) (w.heap.size + 1) (.int .i64 0) (.int .i64 0)) := (R1.out.below hb2).alloc _
  have L2 : Hid (w.heap.size + 1 < w2.heap.size) := (R1.out.below hb2).2.2.2.2
  clear fb U1 G1 V1 R1 hb2
  obtain ⟨q0, q1, r0, r1, rl⟩ := R2.out
  obtain ⟨x0, x1, x2, x3, x4, -⟩ := U2.out.cells
  clear x0
  clear U2 Y2 V2
  go_wp2
  have hq := fun x y => wrote2 (x := x) (y := y) q0 q1
  refine bodyPost_ret (res_pair Try.results14 rfl rfl (hq _ _).1 (hq _ _).2) rfl ?_
  exact ⟨rfl, below_set2 G2.out (by simp) (by simp)⟩
end Go.Proofs.Ytbojdlagacanoaa
