/-
  A way of the statement UnitConverts. Conditions: as each says.
-/
import Derived.Test.YtbojdlagacanoaaUnLaw
namespace Go.Proofs.Ytbojdlagacanoaa.unitConverts
open Go.RowKit
set_option linter.unusedVariables false

set_option maxHeartbeats 2000000 in
theorem uc_good (n0 d0 : Int) (a1 a2 : ByteArray) (u v : U) (X Y : Int) (w : World) (l1 : ¬ (50 : Int) < (a1.size : Int)) (l2 : ¬ (50 : Int) < (a2.size : Int)) (hs1 : a1.size ≤ 140737488351232) (hs2 : a2.size ≤ 140737488351232)
    (c1 : Hid (∀ w, Calls Try.prog 14 #[rv n0 d0, .string a1, .string a2] w fun e w' => e = .returned (.tuple #[rv X Y, .int .i64 0]) ∧ Below w.heap.size w w')) (g1 : Hid (∀ w, Calls Try.prog 10 #[.string a1] w fun e w' => e = .returned (.tuple #[encU u, .bool true]) ∧ Below w.heap.size w w')) (g2 : Hid (∀ w, Calls Try.prog 10 #[.string a2] w fun e w' => e = .returned (.tuple #[encU v, .bool true]) ∧ Below w.heap.size w w')) (hed : ∀ w : World, (Op.equalIn 10000 23 (.agg #[.int .i64 u.m, .int .i64 u.l, .int .i64 u.t, .int .i64 u.k]) (.agg #[.int .i64 v.m, .int .i64 v.l, .int .i64 v.t, .int .i64 v.k])).run Try.prog w = .ok true w) (fr : Hid (∀ w, Calls Try.prog 16 #[rv n0 d0] w fun e w' => e = .returned (.bool true) ∧ Below w.heap.size w w')) (c4 : Hid (∀ w, Calls Try.prog 17 #[rv n0 d0, encU u, encU v] w fun e w' => e = .returned (.tuple #[rv X Y, .bool true]) ∧ Below w.heap.size w w')) :
    Calls Try.prog 4 #[rv n0 d0, .string a1, .string a2] w fun e w' => e = .returned (.bool true) ∧ Below w.heap.size w w' := by
  have K0 : Hid (Has (w.alloc (.cells #[.int .i64 n0, .int .i64 d0] 30)) (w.heap.size) (.int .i64 n0) (.int .i64 d0)) := has_new w _ _ _
  have B : Hid (Below w.heap.size w (w.alloc (.cells #[.int .i64 n0, .int .i64 d0] 30))) := by unfold Hid; go_grown
  go_enter Try.func4, Try.ntmps4
  go_wp2_with fail
  refine (awake3_any _).mono ?_
  rintro e w1 ⟨rfl, hb⟩
  replace K0 : Hid (Has w1 (w.heap.size) (.int .i64 n0) (.int .i64 d0)) := K0.out.below hb
  replace B : Hid (Below w.heap.size w w1) := below_trans B.out hb
  clear hb 
  obtain ⟨K0a, K0b, K0c, K0d, K0e⟩ := K0.out
  go_wp2_with fail
  refine (of_any n0 d0 _).mono ?_
  rintro e w2 ⟨rfl, hb⟩
  clear K0a K0b K0c K0d K0e
  replace K0 : Hid (Has w2 (w.heap.size) (.int .i64 n0) (.int .i64 d0)) := K0.out.below hb
  replace B : Hid (Below w.heap.size w w2) := below_trans B.out hb
  clear hb 
  go_wp2_with fail
  refine (c1.out _).mono ?_
  rintro e w3 ⟨rfl, hb⟩
  replace K0 : Hid (Has w3 (w.heap.size) (.int .i64 n0) (.int .i64 d0)) := K0.out.below hb
  replace B : Hid (Below w.heap.size w w3) := below_trans B.out hb
  clear hb c1
  replace K0 : Hid (Has (w3.alloc (.cells #[.int .i64 X, .int .i64 Y] 25)) (w.heap.size) (.int .i64 n0) (.int .i64 d0)) := K0.out.alloc _
  replace B : Hid (Below w.heap.size w (w3.alloc (.cells #[.int .i64 X, .int .i64 Y] 25))) := B.out.alloc B.out.size _
  have KX : Hid (Has (w3.alloc (.cells #[.int .i64 X, .int .i64 Y] 25)) (w3.heap.size) (.int .i64 X) (.int .i64 Y)) := has_new w3 _ _ _
  go_wp2_with fail
  refine (g1.out _).mono ?_
  rintro e w4 ⟨rfl, hb⟩
  replace K0 : Hid (Has w4 (w.heap.size) (.int .i64 n0) (.int .i64 d0)) := K0.out.below hb
  replace KX : Hid (Has w4 (w3.heap.size) (.int .i64 X) (.int .i64 Y)) := KX.out.below hb
  replace B : Hid (Below w.heap.size w w4) := below_trans B.out hb
  clear hb g1
  replace K0 : Hid (Has (w4.alloc (.cells #[.string u.nm, .int .i64 u.m, .int .i64 u.l, .int .i64 u.t, .int .i64 u.k, .int .i64 u.fn, .int .i64 u.fd, .int .i64 u.on, .int .i64 u.od, .int .i64 u.code] 32)) (w.heap.size) (.int .i64 n0) (.int .i64 d0)) := K0.out.alloc _
  replace KX : Hid (Has (w4.alloc (.cells #[.string u.nm, .int .i64 u.m, .int .i64 u.l, .int .i64 u.t, .int .i64 u.k, .int .i64 u.fn, .int .i64 u.fd, .int .i64 u.on, .int .i64 u.od, .int .i64 u.code] 32)) (w3.heap.size) (.int .i64 X) (.int .i64 Y)) := KX.out.alloc _
  replace B : Hid (Below w.heap.size w (w4.alloc (.cells #[.string u.nm, .int .i64 u.m, .int .i64 u.l, .int .i64 u.t, .int .i64 u.k, .int .i64 u.fn, .int .i64 u.fd, .int .i64 u.on, .int .i64 u.od, .int .i64 u.code] 32))) := B.out.alloc B.out.size _
  have KU : Hid (HasU (w4.alloc (.cells #[.string u.nm, .int .i64 u.m, .int .i64 u.l, .int .i64 u.t, .int .i64 u.k, .int .i64 u.fn, .int .i64 u.fd, .int .i64 u.on, .int .i64 u.od, .int .i64 u.code] 32)) (w4.heap.size) 32 u) := hasU_new w4 _ u
  go_wp2_with fail
  refine (g2.out _).mono ?_
  rintro e w5 ⟨rfl, hb⟩
  replace K0 : Hid (Has w5 (w.heap.size) (.int .i64 n0) (.int .i64 d0)) := K0.out.below hb
  replace KX : Hid (Has w5 (w3.heap.size) (.int .i64 X) (.int .i64 Y)) := KX.out.below hb
  replace KU : Hid (HasU w5 (w4.heap.size) 32 u) := KU.out.below hb
  replace B : Hid (Below w.heap.size w w5) := below_trans B.out hb
  clear hb g2
  replace K0 : Hid (Has (w5.alloc (.cells #[.string v.nm, .int .i64 v.m, .int .i64 v.l, .int .i64 v.t, .int .i64 v.k, .int .i64 v.fn, .int .i64 v.fd, .int .i64 v.on, .int .i64 v.od, .int .i64 v.code] 32)) (w.heap.size) (.int .i64 n0) (.int .i64 d0)) := K0.out.alloc _
  replace KX : Hid (Has (w5.alloc (.cells #[.string v.nm, .int .i64 v.m, .int .i64 v.l, .int .i64 v.t, .int .i64 v.k, .int .i64 v.fn, .int .i64 v.fd, .int .i64 v.on, .int .i64 v.od, .int .i64 v.code] 32)) (w3.heap.size) (.int .i64 X) (.int .i64 Y)) := KX.out.alloc _
  replace KU : Hid (HasU (w5.alloc (.cells #[.string v.nm, .int .i64 v.m, .int .i64 v.l, .int .i64 v.t, .int .i64 v.k, .int .i64 v.fn, .int .i64 v.fd, .int .i64 v.on, .int .i64 v.od, .int .i64 v.code] 32)) (w4.heap.size) 32 u) := KU.out.alloc _
  replace B : Hid (Below w.heap.size w (w5.alloc (.cells #[.string v.nm, .int .i64 v.m, .int .i64 v.l, .int .i64 v.t, .int .i64 v.k, .int .i64 v.fn, .int .i64 v.fd, .int .i64 v.on, .int .i64 v.od, .int .i64 v.code] 32))) := B.out.alloc B.out.size _
  have KV : Hid (HasU (w5.alloc (.cells #[.string v.nm, .int .i64 v.m, .int .i64 v.l, .int .i64 v.t, .int .i64 v.k, .int .i64 v.fn, .int .i64 v.fd, .int .i64 v.on, .int .i64 v.od, .int .i64 v.code] 32)) (w5.heap.size) 32 v) := hasU_new w5 _ v
  obtain ⟨-, KU1, KU2, KU3, KU4, -⟩ := KU.out.cells
  obtain ⟨K0a, K0b, K0c, K0d, K0e⟩ := K0.out
  go_wp2_with fail
  refine (fr.out _).mono ?_
  rintro e w6 ⟨rfl, hb⟩
  clear K0a K0b K0c K0d K0e
  replace K0 : Hid (Has w6 (w.heap.size) (.int .i64 n0) (.int .i64 d0)) := K0.out.below hb
  replace KX : Hid (Has w6 (w3.heap.size) (.int .i64 X) (.int .i64 Y)) := KX.out.below hb
  replace KU : Hid (HasU w6 (w4.heap.size) 32 u) := KU.out.below hb
  replace KV : Hid (HasU w6 (w5.heap.size) 32 v) := KV.out.below hb
  replace B : Hid (Below w.heap.size w w6) := below_trans B.out hb
  clear hb fr hed KU1 KU2 KU3 KU4
  obtain ⟨K0a, K0b, K0c, K0d, K0e⟩ := K0.out
  obtain ⟨KU0, KU1, KU2, KU3, KU4, KU5, KU6, KU7, KU8, KU9⟩ := KU.out.cells
  obtain ⟨KV0, KV1, KV2, KV3, KV4, KV5, KV6, KV7, KV8, KV9⟩ := KV.out.cells
  go_wp2_with fail
  refine (c4.out _).mono ?_
  rintro e w7 ⟨rfl, hb⟩
  clear K0a K0b K0c K0d K0e KU0 KU1 KU2 KU3 KU4 KU5 KU6 KU7 KU8 KU9 KV0 KV1 KV2 KV3 KV4 KV5 KV6 KV7 KV8 KV9
  replace K0 : Hid (Has w7 (w.heap.size) (.int .i64 n0) (.int .i64 d0)) := K0.out.below hb
  replace KX : Hid (Has w7 (w3.heap.size) (.int .i64 X) (.int .i64 Y)) := KX.out.below hb
  replace KU : Hid (HasU w7 (w4.heap.size) 32 u) := KU.out.below hb
  replace KV : Hid (HasU w7 (w5.heap.size) 32 v) := KV.out.below hb
  replace B : Hid (Below w.heap.size w w7) := below_trans B.out hb
  clear hb c4
  replace K0 : Hid (Has (w7.alloc (.cells #[.int .i64 X, .int .i64 Y] 30)) (w.heap.size) (.int .i64 n0) (.int .i64 d0)) := K0.out.alloc _
  replace KX : Hid (Has (w7.alloc (.cells #[.int .i64 X, .int .i64 Y] 30)) (w3.heap.size) (.int .i64 X) (.int .i64 Y)) := KX.out.alloc _
  replace KU : Hid (HasU (w7.alloc (.cells #[.int .i64 X, .int .i64 Y] 30)) (w4.heap.size) 32 u) := KU.out.alloc _
  replace KV : Hid (HasU (w7.alloc (.cells #[.int .i64 X, .int .i64 Y] 30)) (w5.heap.size) 32 v) := KV.out.alloc _
  replace B : Hid (Below w.heap.size w (w7.alloc (.cells #[.int .i64 X, .int .i64 Y] 30))) := B.out.alloc B.out.size _
  have KY : Hid (Has (w7.alloc (.cells #[.int .i64 X, .int .i64 Y] 30)) (w7.heap.size) (.int .i64 X) (.int .i64 Y)) := has_new w7 _ _ _
  clear KU KV K0
  go_wp2_with fail
  have KXqa := cell_regrown KX.out.1
  have KXqb := cell_regrown KX.out.2.1
  have KYqa := cell_regrown KY.out.1
  have KYqb := cell_regrown KY.out.2.1
  refine wp_region_quiet_below (by kernel_rfl) (by kernel_rfl) ?_
  repeat (go_big_quiet_step (first
    | (go_at_call 11; first | with_reducible exact Calls.regrown_of (plain_any X Y _))))
  refine wpQuiet_nil ?_
  intro _ hw'
  obtain ⟨⟨dq, osq⟩, hw''⟩ := hw'
  subst hw''
  clear KXqa KXqb KYqa KYqb 
  have hb := below_regrown (w7.alloc (.cells #[.int .i64 X, .int .i64 Y] 30)) dq osq
  replace KX : Hid (Has (Sort.grow (redrawn (w7.alloc (.cells #[.int .i64 X, .int .i64 Y] 30)) dq) osq) (w3.heap.size) (.int .i64 X) (.int .i64 Y)) := KX.out.below hb
  replace KY : Hid (Has (Sort.grow (redrawn (w7.alloc (.cells #[.int .i64 X, .int .i64 Y] 30)) dq) osq) (w7.heap.size) (.int .i64 X) (.int .i64 Y)) := KY.out.below hb
  replace B : Hid (Below w.heap.size w (Sort.grow (redrawn (w7.alloc (.cells #[.int .i64 X, .int .i64 Y] 30)) dq) osq)) := below_trans B.out hb
  clear hb
  generalize Sort.grow (redrawn (w7.alloc (.cells #[.int .i64 X, .int .i64 Y] 30)) dq) osq = w8 at *
  go_wp2
  go_ret
  exact ⟨rfl, B.out⟩

end Go.Proofs.Ytbojdlagacanoaa.unitConverts
