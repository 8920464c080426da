/-
  Ways through the law on three texts (layer 4). Conditions: as each says.
-/
import Derived.Test.YtjbgjiodmhpbbaaCrcLineK
namespace Go.Proofs.Ytjbgjiodmhpbbaa
open Go.RowKit
set_option linter.unusedVariables false

set_option maxRecDepth 100000 in
set_option maxHeartbeats 4000000 in
theorem line_NNN (w : World) (W : Int) (p f : Nat) (t : Bool) (z : Nat) (X Y Z V q : Nat) (e1 : Hid (bits .xor .u32 (X : Int) (Y : Int) = (q : Int))) (e2 : Hid (bits .xor .u32 (q : Int) (Z : Int) = (V : Int))) (aw : AwC) (cO : OfC W p f t z) (cR : RightC W p f t z true)
    (cX : SumAt w W p f t z (.slice none 0 0) X 0) (cY : SumAt w W p f t z (.slice none 0 0) Y 0) (cZ : SumAt w W p f t z (.slice none 0 0) Z 0) (cB : SumCp (kv W p f t z) [] 0 V) :
    Calls Try.prog 6 #[kv W p f t z, .slice none 0 0, .slice none 0 0, .slice none 0 0] w fun e w' => e = .returned (.bool true) ∧ Below w.heap.size w w' := by
  have Q : Hid (KBx (w.alloc (.cells #[.int .i64 W, .int .u32 (p : Int), .int .u32 (f : Int), .bool t, .int .u32 (z : Int)] 24)) w.heap.size 24 W p f t z) := KBx.new _ _ _ _ _ _ _
  have B : Hid (Below w.heap.size w (w.alloc (.cells #[.int .i64 W, .int .u32 (p : Int), .int .u32 (f : Int), .bool t, .int .u32 (z : Int)] 24))) := (Below.refl _ _).alloc (Nat.le_refl _) _
  have hmk : ∀ w, (Instr.makeSlice 25 (.int .i64 (0 : Int)) (.int .i64 (0 : Int))).run Try.prog w = .ok (.slice (some ⟨w.heap.size, 0, none⟩) 0 0) (w.alloc (.cells (madeCells #[.int .u8 0] 0) 5)) := fun w => run_make_row' (P := Try.prog) 25 5 (.int .u8 0) 1 Try.underlying25 info_u8 rfl .i64 .i64 0 (by omega) (by omega) w
  go_enter Try.func6, Try.ntmps6
  go_wp2_with fail
  refine (aw _).mono ?_
  rintro e w1 ⟨rfl, hb⟩
  replace Q : Hid (KBx w1 w.heap.size 24 W p f t z) := Q.out.below hb
  replace B : Hid (Below w.heap.size w w1) := belowT B.out hb
  clear hb
  obtain ⟨k0, k1, k2, k3, k4⟩ := Q.out.cells
  go_wp2_with fail
  refine (cR _).mono ?_
  rintro e w2 ⟨rfl, hb⟩
  replace Q : Hid (KBx w2 w.heap.size 24 W p f t z) := Q.out.below hb
  replace B : Hid (Below w.heap.size w w2) := belowT B.out hb
  clear hb k0 k1 k2 k3 k4
  have st0 : Hid (LineSt w (w2.alloc (.cells (madeCells #[.int .u8 0] 0) 5)) W p f t z w2.heap.size [] 0) := line_start (zs := []) Q.out B.out (by unfold maxLen; simp)
  go_wp2
  clear hmk
  go_loopw [11] (fun i wr => ∃ k : Nat, (k : Int) ≤ 0 ∧ i = .int .i64 (k : Int) ∧ Hid (LineSt w wr W p f t z w2.heap.size [] k)) (fun i _ => 0 - (intOf i).toNat)
  case atStart => exact ⟨0, by omega, rfl, st0⟩
  case round =>
    obtain ⟨k, hk, rfl, st⟩ := hrel
    clear st0 Q B
    obtain rfl : k = 0 := by omega
    · clear hk
      obtain ⟨k0, k1, k2, k3, k4⟩ := st.out.k.cells
      go_wp2_with fail
      have a0 := cell_regrown k0
      have a1 := cell_regrown k1
      have a2 := cell_regrown k2
      have a3 := cell_regrown k3
      have a4 := cell_regrown k4
      have cO2 : Hid (∀ d os, Calls Try.prog 10 #[kv W p f t z] (Sort.grow (redrawn wr d) os) fun e w' => e = .returned (kv W p f t z) ∧ Below (Sort.grow (redrawn wr d) os).heap.size (Sort.grow (redrawn wr d) os) w') := fun d os => cO _
      have c2 : Hid (∀ d os, Calls Try.prog 9 #[kv W p f t z, .slice none 0 0] (Sort.grow (redrawn wr d) os) fun e w' => e = .returned (.tuple #[.int .u32 (X : Int), .int .i64 0]) ∧ Below (Sort.grow (redrawn wr d) os).heap.size (Sort.grow (redrawn wr d) os) w') := fun d os => cX _ (belowT st.out.b (below_regrown wr d os))
      refine wp_region_quiet_below (by kernel_rfl) (by kernel_rfl) ?_
      repeat (go_big_quiet_step (first
        | (go_at_call 10; with_reducible exact Calls.regrown_of (cO2.out _ _))
        | (go_at_call 9; with_reducible exact Calls.regrown_of (c2.out _ _))))
      refine wpQuiet_nil ?_
      intro _ hw'
      obtain ⟨⟨dq, osq⟩, hw''⟩ := hw'
      subst hw''
      replace st : Hid (LineSt w (Sort.grow (redrawn wr dq) osq) W p f t z w2.heap.size [] 0) := st.out.below (below_regrown wr dq osq)
      clear a0 a1 a2 a3 a4 cO2 c2 k0 k1 k2 k3 k4
      generalize Sort.grow (redrawn wr dq) osq = wx at *
      obtain ⟨k0, k1, k2, k3, k4⟩ := st.out.k.cells
      go_wp2_with fail
      have a0 := cell_regrown k0
      have a1 := cell_regrown k1
      have a2 := cell_regrown k2
      have a3 := cell_regrown k3
      have a4 := cell_regrown k4
      have cO2 : Hid (∀ d os, Calls Try.prog 10 #[kv W p f t z] (Sort.grow (redrawn wx d) os) fun e w' => e = .returned (kv W p f t z) ∧ Below (Sort.grow (redrawn wx d) os).heap.size (Sort.grow (redrawn wx d) os) w') := fun d os => cO _
      have c2 : Hid (∀ d os, Calls Try.prog 9 #[kv W p f t z, .slice none 0 0] (Sort.grow (redrawn wx d) os) fun e w' => e = .returned (.tuple #[.int .u32 (Y : Int), .int .i64 0]) ∧ Below (Sort.grow (redrawn wx d) os).heap.size (Sort.grow (redrawn wx d) os) w') := fun d os => cY _ (belowT st.out.b (below_regrown wx d os))
      refine wp_region_quiet_below (by kernel_rfl) (by kernel_rfl) ?_
      repeat (go_big_quiet_step (first
        | (go_at_call 10; with_reducible exact Calls.regrown_of (cO2.out _ _))
        | (go_at_call 9; with_reducible exact Calls.regrown_of (c2.out _ _))))
      refine wpQuiet_nil ?_
      intro _ hw'
      obtain ⟨⟨dq, osq⟩, hw''⟩ := hw'
      subst hw''
      replace st : Hid (LineSt w (Sort.grow (redrawn wx dq) osq) W p f t z w2.heap.size [] 0) := st.out.below (below_regrown wx dq osq)
      clear a0 a1 a2 a3 a4 cO2 c2 k0 k1 k2 k3 k4
      generalize Sort.grow (redrawn wx dq) osq = wy at *
      obtain ⟨k0, k1, k2, k3, k4⟩ := st.out.k.cells
      go_wp2_with fail
      have a0 := cell_regrown k0
      have a1 := cell_regrown k1
      have a2 := cell_regrown k2
      have a3 := cell_regrown k3
      have a4 := cell_regrown k4
      have cO2 : Hid (∀ d os, Calls Try.prog 10 #[kv W p f t z] (Sort.grow (redrawn wy d) os) fun e w' => e = .returned (kv W p f t z) ∧ Below (Sort.grow (redrawn wy d) os).heap.size (Sort.grow (redrawn wy d) os) w') := fun d os => cO _
      have c2 : Hid (∀ d os, Calls Try.prog 9 #[kv W p f t z, .slice none 0 0] (Sort.grow (redrawn wy d) os) fun e w' => e = .returned (.tuple #[.int .u32 (Z : Int), .int .i64 0]) ∧ Below (Sort.grow (redrawn wy d) os).heap.size (Sort.grow (redrawn wy d) os) w') := fun d os => cZ _ (belowT st.out.b (below_regrown wy d os))
      refine wp_region_quiet_below (by kernel_rfl) (by kernel_rfl) ?_
      repeat (go_big_quiet_step (first
        | (go_at_call 10; with_reducible exact Calls.regrown_of (cO2.out _ _))
        | (go_at_call 9; with_reducible exact Calls.regrown_of (c2.out _ _))))
      refine wpQuiet_nil ?_
      intro _ hw'
      obtain ⟨⟨dq, osq⟩, hw''⟩ := hw'
      subst hw''
      replace st : Hid (LineSt w (Sort.grow (redrawn wy dq) osq) W p f t z w2.heap.size [] 0) := st.out.below (below_regrown wy dq osq)
      clear a0 a1 a2 a3 a4 cO2 c2 k0 k1 k2 k3 k4
      generalize Sort.grow (redrawn wy dq) osq = wz at *
      obtain ⟨k0, k1, k2, k3, k4⟩ := st.out.k.cells
      go_wp2_with fail
      refine (cO _).mono ?_
      rintro e w6 ⟨rfl, hb⟩
      replace st : Hid (LineSt w w6 W p f t z w2.heap.size [] 0) := st.out.below hb
      clear hb k0 k1 k2 k3 k4
      have rw6 : Hid (RowU w6 w2.heap.size 0 []) := st.out.row
      go_wp2_with fail
      refine (cB _ _ _ rw6.out).mono ?_
      rintro e w7 ⟨rfl, hb⟩
      have B7 : Hid (Below w.heap.size w w7) := belowT st.out.b hb
      clear hb st rw6
      have e1' := e1.out
      have e2' := e2.out
      go_wp2
      go_ret
      exact ⟨rfl, B7.out⟩

set_option maxRecDepth 100000 in
set_option maxHeartbeats 4000000 in
theorem line_NNR (w : World) (W : Int) (p f : Nat) (t : Bool) (z : Nat) (g3 o3 L3 c3 : Nat) (X Y Z V q : Nat) (hc3 : (L3 : Int) ≤ (c3 : Int)) (hm3 : (c3 : Int) ≤ 9223372036854775807) (e1 : Hid (bits .xor .u32 (X : Int) (Y : Int) = (q : Int))) (e2 : Hid (bits .xor .u32 (q : Int) (Z : Int) = (V : Int))) (aw : AwC) (cO : OfC W p f t z) (cR : RightC W p f t z true)
    (cX : SumAt w W p f t z (.slice none 0 0) X 0) (cY : SumAt w W p f t z (.slice none 0 0) Y 0) (cZ : SumAt w W p f t z (.slice (some ⟨g3, o3, none⟩) 0 c3) Z 0) (cB : SumCp (kv W p f t z) [] 0 V) :
    Calls Try.prog 6 #[kv W p f t z, .slice none 0 0, .slice none 0 0, .slice (some ⟨g3, o3, none⟩) L3 c3] w fun e w' => e = .returned (.bool true) ∧ Below w.heap.size w w' := by
  have Q : Hid (KBx (w.alloc (.cells #[.int .i64 W, .int .u32 (p : Int), .int .u32 (f : Int), .bool t, .int .u32 (z : Int)] 24)) w.heap.size 24 W p f t z) := KBx.new _ _ _ _ _ _ _
  have B : Hid (Below w.heap.size w (w.alloc (.cells #[.int .i64 W, .int .u32 (p : Int), .int .u32 (f : Int), .bool t, .int .u32 (z : Int)] 24))) := (Below.refl _ _).alloc (Nat.le_refl _) _
  have hmk : ∀ w, (Instr.makeSlice 25 (.int .i64 (0 : Int)) (.int .i64 (0 : Int))).run Try.prog w = .ok (.slice (some ⟨w.heap.size, 0, none⟩) 0 0) (w.alloc (.cells (madeCells #[.int .u8 0] 0) 5)) := fun w => run_make_row' (P := Try.prog) 25 5 (.int .u8 0) 1 Try.underlying25 info_u8 rfl .i64 .i64 0 (by omega) (by omega) w
  go_enter Try.func6, Try.ntmps6
  go_wp2_with fail
  refine (aw _).mono ?_
  rintro e w1 ⟨rfl, hb⟩
  replace Q : Hid (KBx w1 w.heap.size 24 W p f t z) := Q.out.below hb
  replace B : Hid (Below w.heap.size w w1) := belowT B.out hb
  clear hb
  obtain ⟨k0, k1, k2, k3, k4⟩ := Q.out.cells
  go_wp2_with fail
  refine (cR _).mono ?_
  rintro e w2 ⟨rfl, hb⟩
  replace Q : Hid (KBx w2 w.heap.size 24 W p f t z) := Q.out.below hb
  replace B : Hid (Below w.heap.size w w2) := belowT B.out hb
  clear hb k0 k1 k2 k3 k4
  have st0 : Hid (LineSt w (w2.alloc (.cells (madeCells #[.int .u8 0] 0) 5)) W p f t z w2.heap.size [] 0) := line_start (zs := []) Q.out B.out (by unfold maxLen; simp)
  go_wp2
  clear hmk
  go_loopw [11] (fun i wr => ∃ k : Nat, (k : Int) ≤ 0 ∧ i = .int .i64 (k : Int) ∧ Hid (LineSt w wr W p f t z w2.heap.size [] k)) (fun i _ => 0 - (intOf i).toNat)
  case atStart => exact ⟨0, by omega, rfl, st0⟩
  case round =>
    obtain ⟨k, hk, rfl, st⟩ := hrel
    clear st0 Q B
    obtain rfl : k = 0 := by omega
    · clear hk
      obtain ⟨k0, k1, k2, k3, k4⟩ := st.out.k.cells
      go_wp2_with fail
      have a0 := cell_regrown k0
      have a1 := cell_regrown k1
      have a2 := cell_regrown k2
      have a3 := cell_regrown k3
      have a4 := cell_regrown k4
      have cO2 : Hid (∀ d os, Calls Try.prog 10 #[kv W p f t z] (Sort.grow (redrawn wr d) os) fun e w' => e = .returned (kv W p f t z) ∧ Below (Sort.grow (redrawn wr d) os).heap.size (Sort.grow (redrawn wr d) os) w') := fun d os => cO _
      have c2 : Hid (∀ d os, Calls Try.prog 9 #[kv W p f t z, .slice none 0 0] (Sort.grow (redrawn wr d) os) fun e w' => e = .returned (.tuple #[.int .u32 (X : Int), .int .i64 0]) ∧ Below (Sort.grow (redrawn wr d) os).heap.size (Sort.grow (redrawn wr d) os) w') := fun d os => cX _ (belowT st.out.b (below_regrown wr d os))
      refine wp_region_quiet_below (by kernel_rfl) (by kernel_rfl) ?_
      repeat (go_big_quiet_step (first
        | (go_at_call 10; with_reducible exact Calls.regrown_of (cO2.out _ _))
        | (go_at_call 9; with_reducible exact Calls.regrown_of (c2.out _ _))))
      refine wpQuiet_nil ?_
      intro _ hw'
      obtain ⟨⟨dq, osq⟩, hw''⟩ := hw'
      subst hw''
      replace st : Hid (LineSt w (Sort.grow (redrawn wr dq) osq) W p f t z w2.heap.size [] 0) := st.out.below (below_regrown wr dq osq)
      clear a0 a1 a2 a3 a4 cO2 c2 k0 k1 k2 k3 k4
      generalize Sort.grow (redrawn wr dq) osq = wx at *
      obtain ⟨k0, k1, k2, k3, k4⟩ := st.out.k.cells
      go_wp2_with fail
      have a0 := cell_regrown k0
      have a1 := cell_regrown k1
      have a2 := cell_regrown k2
      have a3 := cell_regrown k3
      have a4 := cell_regrown k4
      have cO2 : Hid (∀ d os, Calls Try.prog 10 #[kv W p f t z] (Sort.grow (redrawn wx d) os) fun e w' => e = .returned (kv W p f t z) ∧ Below (Sort.grow (redrawn wx d) os).heap.size (Sort.grow (redrawn wx d) os) w') := fun d os => cO _
      have c2 : Hid (∀ d os, Calls Try.prog 9 #[kv W p f t z, .slice none 0 0] (Sort.grow (redrawn wx d) os) fun e w' => e = .returned (.tuple #[.int .u32 (Y : Int), .int .i64 0]) ∧ Below (Sort.grow (redrawn wx d) os).heap.size (Sort.grow (redrawn wx d) os) w') := fun d os => cY _ (belowT st.out.b (below_regrown wx d os))
      refine wp_region_quiet_below (by kernel_rfl) (by kernel_rfl) ?_
      repeat (go_big_quiet_step (first
        | (go_at_call 10; with_reducible exact Calls.regrown_of (cO2.out _ _))
        | (go_at_call 9; with_reducible exact Calls.regrown_of (c2.out _ _))))
      refine wpQuiet_nil ?_
      intro _ hw'
      obtain ⟨⟨dq, osq⟩, hw''⟩ := hw'
      subst hw''
      replace st : Hid (LineSt w (Sort.grow (redrawn wx dq) osq) W p f t z w2.heap.size [] 0) := st.out.below (below_regrown wx dq osq)
      clear a0 a1 a2 a3 a4 cO2 c2 k0 k1 k2 k3 k4
      generalize Sort.grow (redrawn wx dq) osq = wy at *
      obtain ⟨k0, k1, k2, k3, k4⟩ := st.out.k.cells
      go_wp2_with fail
      have a0 := cell_regrown k0
      have a1 := cell_regrown k1
      have a2 := cell_regrown k2
      have a3 := cell_regrown k3
      have a4 := cell_regrown k4
      have cO2 : Hid (∀ d os, Calls Try.prog 10 #[kv W p f t z] (Sort.grow (redrawn wy d) os) fun e w' => e = .returned (kv W p f t z) ∧ Below (Sort.grow (redrawn wy d) os).heap.size (Sort.grow (redrawn wy d) os) w') := fun d os => cO _
      have c2 : Hid (∀ d os, Calls Try.prog 9 #[kv W p f t z, .slice (some ⟨g3, o3, none⟩) 0 c3] (Sort.grow (redrawn wy d) os) fun e w' => e = .returned (.tuple #[.int .u32 (Z : Int), .int .i64 0]) ∧ Below (Sort.grow (redrawn wy d) os).heap.size (Sort.grow (redrawn wy d) os) w') := fun d os => cZ _ (belowT st.out.b (below_regrown wy d os))
      refine wp_region_quiet_below (by kernel_rfl) (by kernel_rfl) ?_
      repeat (go_big_quiet_step (first
        | (go_at_call 10; with_reducible exact Calls.regrown_of (cO2.out _ _))
        | (go_at_call 9; with_reducible exact Calls.regrown_of (c2.out _ _))))
      refine wpQuiet_nil ?_
      intro _ hw'
      obtain ⟨⟨dq, osq⟩, hw''⟩ := hw'
      subst hw''
      replace st : Hid (LineSt w (Sort.grow (redrawn wy dq) osq) W p f t z w2.heap.size [] 0) := st.out.below (below_regrown wy dq osq)
      clear a0 a1 a2 a3 a4 cO2 c2 k0 k1 k2 k3 k4
      generalize Sort.grow (redrawn wy dq) osq = wz at *
      obtain ⟨k0, k1, k2, k3, k4⟩ := st.out.k.cells
      go_wp2_with fail
      refine (cO _).mono ?_
      rintro e w6 ⟨rfl, hb⟩
      replace st : Hid (LineSt w w6 W p f t z w2.heap.size [] 0) := st.out.below hb
      clear hb k0 k1 k2 k3 k4
      have rw6 : Hid (RowU w6 w2.heap.size 0 []) := st.out.row
      go_wp2_with fail
      refine (cB _ _ _ rw6.out).mono ?_
      rintro e w7 ⟨rfl, hb⟩
      have B7 : Hid (Below w.heap.size w w7) := belowT st.out.b hb
      clear hb st rw6
      have e1' := e1.out
      have e2' := e2.out
      go_wp2
      go_ret
      exact ⟨rfl, B7.out⟩

set_option maxRecDepth 100000 in
set_option maxHeartbeats 4000000 in
theorem line_NRN (w : World) (W : Int) (p f : Nat) (t : Bool) (z : Nat) (g2 o2 L2 c2 : Nat) (X Y Z V q : Nat) (hc2 : (L2 : Int) ≤ (c2 : Int)) (hm2 : (c2 : Int) ≤ 9223372036854775807) (e1 : Hid (bits .xor .u32 (X : Int) (Y : Int) = (q : Int))) (e2 : Hid (bits .xor .u32 (q : Int) (Z : Int) = (V : Int))) (aw : AwC) (cO : OfC W p f t z) (cR : RightC W p f t z true)
    (cX : SumAt w W p f t z (.slice none 0 0) X 0) (cY : SumAt w W p f t z (.slice (some ⟨g2, o2, none⟩) 0 c2) Y 0) (cZ : SumAt w W p f t z (.slice none 0 0) Z 0) (cB : SumCp (kv W p f t z) [] 0 V) :
    Calls Try.prog 6 #[kv W p f t z, .slice none 0 0, .slice (some ⟨g2, o2, none⟩) L2 c2, .slice none 0 0] w fun e w' => e = .returned (.bool true) ∧ Below w.heap.size w w' := by
  have Q : Hid (KBx (w.alloc (.cells #[.int .i64 W, .int .u32 (p : Int), .int .u32 (f : Int), .bool t, .int .u32 (z : Int)] 24)) w.heap.size 24 W p f t z) := KBx.new _ _ _ _ _ _ _
  have B : Hid (Below w.heap.size w (w.alloc (.cells #[.int .i64 W, .int .u32 (p : Int), .int .u32 (f : Int), .bool t, .int .u32 (z : Int)] 24))) := (Below.refl _ _).alloc (Nat.le_refl _) _
  have hmk : ∀ w, (Instr.makeSlice 25 (.int .i64 (0 : Int)) (.int .i64 (0 : Int))).run Try.prog w = .ok (.slice (some ⟨w.heap.size, 0, none⟩) 0 0) (w.alloc (.cells (madeCells #[.int .u8 0] 0) 5)) := fun w => run_make_row' (P := Try.prog) 25 5 (.int .u8 0) 1 Try.underlying25 info_u8 rfl .i64 .i64 0 (by omega) (by omega) w
  go_enter Try.func6, Try.ntmps6
  go_wp2_with fail
  refine (aw _).mono ?_
  rintro e w1 ⟨rfl, hb⟩
  replace Q : Hid (KBx w1 w.heap.size 24 W p f t z) := Q.out.below hb
  replace B : Hid (Below w.heap.size w w1) := belowT B.out hb
  clear hb
  obtain ⟨k0, k1, k2, k3, k4⟩ := Q.out.cells
  go_wp2_with fail
  refine (cR _).mono ?_
  rintro e w2 ⟨rfl, hb⟩
  replace Q : Hid (KBx w2 w.heap.size 24 W p f t z) := Q.out.below hb
  replace B : Hid (Below w.heap.size w w2) := belowT B.out hb
  clear hb k0 k1 k2 k3 k4
  have st0 : Hid (LineSt w (w2.alloc (.cells (madeCells #[.int .u8 0] 0) 5)) W p f t z w2.heap.size [] 0) := line_start (zs := []) Q.out B.out (by unfold maxLen; simp)
  go_wp2
  clear hmk
  go_loopw [11] (fun i wr => ∃ k : Nat, (k : Int) ≤ 0 ∧ i = .int .i64 (k : Int) ∧ Hid (LineSt w wr W p f t z w2.heap.size [] k)) (fun i _ => 0 - (intOf i).toNat)
  case atStart => exact ⟨0, by omega, rfl, st0⟩
  case round =>
    obtain ⟨k, hk, rfl, st⟩ := hrel
    clear st0 Q B
    obtain rfl : k = 0 := by omega
    · clear hk
      obtain ⟨k0, k1, k2, k3, k4⟩ := st.out.k.cells
      go_wp2_with fail
      have a0 := cell_regrown k0
      have a1 := cell_regrown k1
      have a2 := cell_regrown k2
      have a3 := cell_regrown k3
      have a4 := cell_regrown k4
      have cO2 : Hid (∀ d os, Calls Try.prog 10 #[kv W p f t z] (Sort.grow (redrawn wr d) os) fun e w' => e = .returned (kv W p f t z) ∧ Below (Sort.grow (redrawn wr d) os).heap.size (Sort.grow (redrawn wr d) os) w') := fun d os => cO _
      have c2 : Hid (∀ d os, Calls Try.prog 9 #[kv W p f t z, .slice none 0 0] (Sort.grow (redrawn wr d) os) fun e w' => e = .returned (.tuple #[.int .u32 (X : Int), .int .i64 0]) ∧ Below (Sort.grow (redrawn wr d) os).heap.size (Sort.grow (redrawn wr d) os) w') := fun d os => cX _ (belowT st.out.b (below_regrown wr d os))
      refine wp_region_quiet_below (by kernel_rfl) (by kernel_rfl) ?_
      repeat (go_big_quiet_step (first
        | (go_at_call 10; with_reducible exact Calls.regrown_of (cO2.out _ _))
        | (go_at_call 9; with_reducible exact Calls.regrown_of (c2.out _ _))))
      refine wpQuiet_nil ?_
      intro _ hw'
      obtain ⟨⟨dq, osq⟩, hw''⟩ := hw'
      subst hw''
      replace st : Hid (LineSt w (Sort.grow (redrawn wr dq) osq) W p f t z w2.heap.size [] 0) := st.out.below (below_regrown wr dq osq)
      clear a0 a1 a2 a3 a4 cO2 c2 k0 k1 k2 k3 k4
      generalize Sort.grow (redrawn wr dq) osq = wx at *
      obtain ⟨k0, k1, k2, k3, k4⟩ := st.out.k.cells
      go_wp2_with fail
      have a0 := cell_regrown k0
      have a1 := cell_regrown k1
      have a2 := cell_regrown k2
      have a3 := cell_regrown k3
      have a4 := cell_regrown k4
      have cO2 : Hid (∀ d os, Calls Try.prog 10 #[kv W p f t z] (Sort.grow (redrawn wx d) os) fun e w' => e = .returned (kv W p f t z) ∧ Below (Sort.grow (redrawn wx d) os).heap.size (Sort.grow (redrawn wx d) os) w') := fun d os => cO _
      have c2 : Hid (∀ d os, Calls Try.prog 9 #[kv W p f t z, .slice (some ⟨g2, o2, none⟩) 0 c2] (Sort.grow (redrawn wx d) os) fun e w' => e = .returned (.tuple #[.int .u32 (Y : Int), .int .i64 0]) ∧ Below (Sort.grow (redrawn wx d) os).heap.size (Sort.grow (redrawn wx d) os) w') := fun d os => cY _ (belowT st.out.b (below_regrown wx d os))
      refine wp_region_quiet_below (by kernel_rfl) (by kernel_rfl) ?_
      repeat (go_big_quiet_step (first
        | (go_at_call 10; with_reducible exact Calls.regrown_of (cO2.out _ _))
        | (go_at_call 9; with_reducible exact Calls.regrown_of (c2.out _ _))))
      refine wpQuiet_nil ?_
      intro _ hw'
      obtain ⟨⟨dq, osq⟩, hw''⟩ := hw'
      subst hw''
      replace st : Hid (LineSt w (Sort.grow (redrawn wx dq) osq) W p f t z w2.heap.size [] 0) := st.out.below (below_regrown wx dq osq)
      clear a0 a1 a2 a3 a4 cO2 c2 k0 k1 k2 k3 k4
      generalize Sort.grow (redrawn wx dq) osq = wy at *
      obtain ⟨k0, k1, k2, k3, k4⟩ := st.out.k.cells
      go_wp2_with fail
      have a0 := cell_regrown k0
      have a1 := cell_regrown k1
      have a2 := cell_regrown k2
      have a3 := cell_regrown k3
      have a4 := cell_regrown k4
      have cO2 : Hid (∀ d os, Calls Try.prog 10 #[kv W p f t z] (Sort.grow (redrawn wy d) os) fun e w' => e = .returned (kv W p f t z) ∧ Below (Sort.grow (redrawn wy d) os).heap.size (Sort.grow (redrawn wy d) os) w') := fun d os => cO _
      have c2 : Hid (∀ d os, Calls Try.prog 9 #[kv W p f t z, .slice none 0 0] (Sort.grow (redrawn wy d) os) fun e w' => e = .returned (.tuple #[.int .u32 (Z : Int), .int .i64 0]) ∧ Below (Sort.grow (redrawn wy d) os).heap.size (Sort.grow (redrawn wy d) os) w') := fun d os => cZ _ (belowT st.out.b (below_regrown wy d os))
      refine wp_region_quiet_below (by kernel_rfl) (by kernel_rfl) ?_
      repeat (go_big_quiet_step (first
        | (go_at_call 10; with_reducible exact Calls.regrown_of (cO2.out _ _))
        | (go_at_call 9; with_reducible exact Calls.regrown_of (c2.out _ _))))
      refine wpQuiet_nil ?_
      intro _ hw'
      obtain ⟨⟨dq, osq⟩, hw''⟩ := hw'
      subst hw''
      replace st : Hid (LineSt w (Sort.grow (redrawn wy dq) osq) W p f t z w2.heap.size [] 0) := st.out.below (below_regrown wy dq osq)
      clear a0 a1 a2 a3 a4 cO2 c2 k0 k1 k2 k3 k4
      generalize Sort.grow (redrawn wy dq) osq = wz at *
      obtain ⟨k0, k1, k2, k3, k4⟩ := st.out.k.cells
      go_wp2_with fail
      refine (cO _).mono ?_
      rintro e w6 ⟨rfl, hb⟩
      replace st : Hid (LineSt w w6 W p f t z w2.heap.size [] 0) := st.out.below hb
      clear hb k0 k1 k2 k3 k4
      have rw6 : Hid (RowU w6 w2.heap.size 0 []) := st.out.row
      go_wp2_with fail
      refine (cB _ _ _ rw6.out).mono ?_
      rintro e w7 ⟨rfl, hb⟩
      have B7 : Hid (Below w.heap.size w w7) := belowT st.out.b hb
      clear hb st rw6
      have e1' := e1.out
      have e2' := e2.out
      go_wp2
      go_ret
      exact ⟨rfl, B7.out⟩

set_option maxRecDepth 100000 in
set_option maxHeartbeats 4000000 in
theorem line_NRR (w : World) (W : Int) (p f : Nat) (t : Bool) (z : Nat) (g2 o2 L2 c2 : Nat) (g3 o3 L3 c3 : Nat) (X Y Z V q : Nat) (hc2 : (L2 : Int) ≤ (c2 : Int)) (hm2 : (c2 : Int) ≤ 9223372036854775807) (hc3 : (L3 : Int) ≤ (c3 : Int)) (hm3 : (c3 : Int) ≤ 9223372036854775807) (e1 : Hid (bits .xor .u32 (X : Int) (Y : Int) = (q : Int))) (e2 : Hid (bits .xor .u32 (q : Int) (Z : Int) = (V : Int))) (aw : AwC) (cO : OfC W p f t z) (cR : RightC W p f t z true)
    (cX : SumAt w W p f t z (.slice none 0 0) X 0) (cY : SumAt w W p f t z (.slice (some ⟨g2, o2, none⟩) 0 c2) Y 0) (cZ : SumAt w W p f t z (.slice (some ⟨g3, o3, none⟩) 0 c3) Z 0) (cB : SumCp (kv W p f t z) [] 0 V) :
    Calls Try.prog 6 #[kv W p f t z, .slice none 0 0, .slice (some ⟨g2, o2, none⟩) L2 c2, .slice (some ⟨g3, o3, none⟩) L3 c3] w fun e w' => e = .returned (.bool true) ∧ Below w.heap.size w w' := by
  have Q : Hid (KBx (w.alloc (.cells #[.int .i64 W, .int .u32 (p : Int), .int .u32 (f : Int), .bool t, .int .u32 (z : Int)] 24)) w.heap.size 24 W p f t z) := KBx.new _ _ _ _ _ _ _
  have B : Hid (Below w.heap.size w (w.alloc (.cells #[.int .i64 W, .int .u32 (p : Int), .int .u32 (f : Int), .bool t, .int .u32 (z : Int)] 24))) := (Below.refl _ _).alloc (Nat.le_refl _) _
  have hmk : ∀ w, (Instr.makeSlice 25 (.int .i64 (0 : Int)) (.int .i64 (0 : Int))).run Try.prog w = .ok (.slice (some ⟨w.heap.size, 0, none⟩) 0 0) (w.alloc (.cells (madeCells #[.int .u8 0] 0) 5)) := fun w => run_make_row' (P := Try.prog) 25 5 (.int .u8 0) 1 Try.underlying25 info_u8 rfl .i64 .i64 0 (by omega) (by omega) w
  go_enter Try.func6, Try.ntmps6
  go_wp2_with fail
  refine (aw _).mono ?_
  rintro e w1 ⟨rfl, hb⟩
  replace Q : Hid (KBx w1 w.heap.size 24 W p f t z) := Q.out.below hb
  replace B : Hid (Below w.heap.size w w1) := belowT B.out hb
  clear hb
  obtain ⟨k0, k1, k2, k3, k4⟩ := Q.out.cells
  go_wp2_with fail
  refine (cR _).mono ?_
  rintro e w2 ⟨rfl, hb⟩
  replace Q : Hid (KBx w2 w.heap.size 24 W p f t z) := Q.out.below hb
  replace B : Hid (Below w.heap.size w w2) := belowT B.out hb
  clear hb k0 k1 k2 k3 k4
  have st0 : Hid (LineSt w (w2.alloc (.cells (madeCells #[.int .u8 0] 0) 5)) W p f t z w2.heap.size [] 0) := line_start (zs := []) Q.out B.out (by unfold maxLen; simp)
  go_wp2
  clear hmk
  go_loopw [11] (fun i wr => ∃ k : Nat, (k : Int) ≤ 0 ∧ i = .int .i64 (k : Int) ∧ Hid (LineSt w wr W p f t z w2.heap.size [] k)) (fun i _ => 0 - (intOf i).toNat)
  case atStart => exact ⟨0, by omega, rfl, st0⟩
  case round =>
    obtain ⟨k, hk, rfl, st⟩ := hrel
    clear st0 Q B
    obtain rfl : k = 0 := by omega
    · clear hk
      obtain ⟨k0, k1, k2, k3, k4⟩ := st.out.k.cells
      go_wp2_with fail
      have a0 := cell_regrown k0
      have a1 := cell_regrown k1
      have a2 := cell_regrown k2
      have a3 := cell_regrown k3
      have a4 := cell_regrown k4
      have cO2 : Hid (∀ d os, Calls Try.prog 10 #[kv W p f t z] (Sort.grow (redrawn wr d) os) fun e w' => e = .returned (kv W p f t z) ∧ Below (Sort.grow (redrawn wr d) os).heap.size (Sort.grow (redrawn wr d) os) w') := fun d os => cO _
      have c2 : Hid (∀ d os, Calls Try.prog 9 #[kv W p f t z, .slice none 0 0] (Sort.grow (redrawn wr d) os) fun e w' => e = .returned (.tuple #[.int .u32 (X : Int), .int .i64 0]) ∧ Below (Sort.grow (redrawn wr d) os).heap.size (Sort.grow (redrawn wr d) os) w') := fun d os => cX _ (belowT st.out.b (below_regrown wr d os))
      refine wp_region_quiet_below (by kernel_rfl) (by kernel_rfl) ?_
      repeat (go_big_quiet_step (first
        | (go_at_call 10; with_reducible exact Calls.regrown_of (cO2.out _ _))
        | (go_at_call 9; with_reducible exact Calls.regrown_of (c2.out _ _))))
      refine wpQuiet_nil ?_
      intro _ hw'
      obtain ⟨⟨dq, osq⟩, hw''⟩ := hw'
      subst hw''
      replace st : Hid (LineSt w (Sort.grow (redrawn wr dq) osq) W p f t z w2.heap.size [] 0) := st.out.below (below_regrown wr dq osq)
      clear a0 a1 a2 a3 a4 cO2 c2 k0 k1 k2 k3 k4
      generalize Sort.grow (redrawn wr dq) osq = wx at *
      obtain ⟨k0, k1, k2, k3, k4⟩ := st.out.k.cells
      go_wp2_with fail
      have a0 := cell_regrown k0
      have a1 := cell_regrown k1
      have a2 := cell_regrown k2
      have a3 := cell_regrown k3
      have a4 := cell_regrown k4
      have cO2 : Hid (∀ d os, Calls Try.prog 10 #[kv W p f t z] (Sort.grow (redrawn wx d) os) fun e w' => e = .returned (kv W p f t z) ∧ Below (Sort.grow (redrawn wx d) os).heap.size (Sort.grow (redrawn wx d) os) w') := fun d os => cO _
      have c2 : Hid (∀ d os, Calls Try.prog 9 #[kv W p f t z, .slice (some ⟨g2, o2, none⟩) 0 c2] (Sort.grow (redrawn wx d) os) fun e w' => e = .returned (.tuple #[.int .u32 (Y : Int), .int .i64 0]) ∧ Below (Sort.grow (redrawn wx d) os).heap.size (Sort.grow (redrawn wx d) os) w') := fun d os => cY _ (belowT st.out.b (below_regrown wx d os))
      refine wp_region_quiet_below (by kernel_rfl) (by kernel_rfl) ?_
      repeat (go_big_quiet_step (first
        | (go_at_call 10; with_reducible exact Calls.regrown_of (cO2.out _ _))
        | (go_at_call 9; with_reducible exact Calls.regrown_of (c2.out _ _))))
      refine wpQuiet_nil ?_
      intro _ hw'
      obtain ⟨⟨dq, osq⟩, hw''⟩ := hw'
      subst hw''
      replace st : Hid (LineSt w (Sort.grow (redrawn wx dq) osq) W p f t z w2.heap.size [] 0) := st.out.below (below_regrown wx dq osq)
      clear a0 a1 a2 a3 a4 cO2 c2 k0 k1 k2 k3 k4
      generalize Sort.grow (redrawn wx dq) osq = wy at *
      obtain ⟨k0, k1, k2, k3, k4⟩ := st.out.k.cells
      go_wp2_with fail
      have a0 := cell_regrown k0
      have a1 := cell_regrown k1
      have a2 := cell_regrown k2
      have a3 := cell_regrown k3
      have a4 := cell_regrown k4
      have cO2 : Hid (∀ d os, Calls Try.prog 10 #[kv W p f t z] (Sort.grow (redrawn wy d) os) fun e w' => e = .returned (kv W p f t z) ∧ Below (Sort.grow (redrawn wy d) os).heap.size (Sort.grow (redrawn wy d) os) w') := fun d os => cO _
      have c2 : Hid (∀ d os, Calls Try.prog 9 #[kv W p f t z, .slice (some ⟨g3, o3, none⟩) 0 c3] (Sort.grow (redrawn wy d) os) fun e w' => e = .returned (.tuple #[.int .u32 (Z : Int), .int .i64 0]) ∧ Below (Sort.grow (redrawn wy d) os).heap.size (Sort.grow (redrawn wy d) os) w') := fun d os => cZ _ (belowT st.out.b (below_regrown wy d os))
      refine wp_region_quiet_below (by kernel_rfl) (by kernel_rfl) ?_
      repeat (go_big_quiet_step (first
        | (go_at_call 10; with_reducible exact Calls.regrown_of (cO2.out _ _))
        | (go_at_call 9; with_reducible exact Calls.regrown_of (c2.out _ _))))
      refine wpQuiet_nil ?_
      intro _ hw'
      obtain ⟨⟨dq, osq⟩, hw''⟩ := hw'
      subst hw''
      replace st : Hid (LineSt w (Sort.grow (redrawn wy dq) osq) W p f t z w2.heap.size [] 0) := st.out.below (below_regrown wy dq osq)
      clear a0 a1 a2 a3 a4 cO2 c2 k0 k1 k2 k3 k4
      generalize Sort.grow (redrawn wy dq) osq = wz at *
      obtain ⟨k0, k1, k2, k3, k4⟩ := st.out.k.cells
      go_wp2_with fail
      refine (cO _).mono ?_
      rintro e w6 ⟨rfl, hb⟩
      replace st : Hid (LineSt w w6 W p f t z w2.heap.size [] 0) := st.out.below hb
      clear hb k0 k1 k2 k3 k4
      have rw6 : Hid (RowU w6 w2.heap.size 0 []) := st.out.row
      go_wp2_with fail
      refine (cB _ _ _ rw6.out).mono ?_
      rintro e w7 ⟨rfl, hb⟩
      have B7 : Hid (Below w.heap.size w w7) := belowT st.out.b hb
      clear hb st rw6
      have e1' := e1.out
      have e2' := e2.out
      go_wp2
      go_ret
      exact ⟨rfl, B7.out⟩

set_option maxRecDepth 100000 in
set_option maxHeartbeats 4000000 in
theorem line_RNN (w : World) (W : Int) (p f : Nat) (t : Bool) (z : Nat) (g1 o1 L1 c1 : Nat) (X Y Z V q : Nat) (hc1 : (L1 : Int) ≤ (c1 : Int)) (hm1 : (c1 : Int) ≤ 9223372036854775807) (e1 : Hid (bits .xor .u32 (X : Int) (Y : Int) = (q : Int))) (e2 : Hid (bits .xor .u32 (q : Int) (Z : Int) = (V : Int))) (aw : AwC) (cO : OfC W p f t z) (cR : RightC W p f t z true)
    (cX : SumAt w W p f t z (.slice (some ⟨g1, o1, none⟩) 0 c1) X 0) (cY : SumAt w W p f t z (.slice none 0 0) Y 0) (cZ : SumAt w W p f t z (.slice none 0 0) Z 0) (cB : SumCp (kv W p f t z) [] 0 V) :
    Calls Try.prog 6 #[kv W p f t z, .slice (some ⟨g1, o1, none⟩) L1 c1, .slice none 0 0, .slice none 0 0] w fun e w' => e = .returned (.bool true) ∧ Below w.heap.size w w' := by
  have Q : Hid (KBx (w.alloc (.cells #[.int .i64 W, .int .u32 (p : Int), .int .u32 (f : Int), .bool t, .int .u32 (z : Int)] 24)) w.heap.size 24 W p f t z) := KBx.new _ _ _ _ _ _ _
  have B : Hid (Below w.heap.size w (w.alloc (.cells #[.int .i64 W, .int .u32 (p : Int), .int .u32 (f : Int), .bool t, .int .u32 (z : Int)] 24))) := (Below.refl _ _).alloc (Nat.le_refl _) _
  have hmk : ∀ w, (Instr.makeSlice 25 (.int .i64 (0 : Int)) (.int .i64 (0 : Int))).run Try.prog w = .ok (.slice (some ⟨w.heap.size, 0, none⟩) 0 0) (w.alloc (.cells (madeCells #[.int .u8 0] 0) 5)) := fun w => run_make_row' (P := Try.prog) 25 5 (.int .u8 0) 1 Try.underlying25 info_u8 rfl .i64 .i64 0 (by omega) (by omega) w
  have hmin : (if 0 < L1 then (0 : Int) else (L1 : Int)) = 0 := by split <;> omega
  go_enter Try.func6, Try.ntmps6
  go_wp2_with fail
  refine (aw _).mono ?_
  rintro e w1 ⟨rfl, hb⟩
  replace Q : Hid (KBx w1 w.heap.size 24 W p f t z) := Q.out.below hb
  replace B : Hid (Below w.heap.size w w1) := belowT B.out hb
  clear hb
  obtain ⟨k0, k1, k2, k3, k4⟩ := Q.out.cells
  go_wp2_with fail
  refine (cR _).mono ?_
  rintro e w2 ⟨rfl, hb⟩
  replace Q : Hid (KBx w2 w.heap.size 24 W p f t z) := Q.out.below hb
  replace B : Hid (Below w.heap.size w w2) := belowT B.out hb
  clear hb k0 k1 k2 k3 k4
  have st0 : Hid (LineSt w (w2.alloc (.cells (madeCells #[.int .u8 0] 0) 5)) W p f t z w2.heap.size [] 0) := line_start (zs := []) Q.out B.out (by unfold maxLen; simp)
  go_wp2
  clear hmk
  go_loopw [11] (fun i wr => ∃ k : Nat, (k : Int) ≤ 0 ∧ i = .int .i64 (k : Int) ∧ Hid (LineSt w wr W p f t z w2.heap.size [] k)) (fun i _ => 0 - (intOf i).toNat)
  case atStart => exact ⟨0, by omega, rfl, st0⟩
  case round =>
    obtain ⟨k, hk, rfl, st⟩ := hrel
    clear st0 Q B
    obtain rfl : k = 0 := by omega
    · clear hk
      obtain ⟨k0, k1, k2, k3, k4⟩ := st.out.k.cells
      go_wp2_with fail
      have a0 := cell_regrown k0
      have a1 := cell_regrown k1
      have a2 := cell_regrown k2
      have a3 := cell_regrown k3
      have a4 := cell_regrown k4
      have cO2 : Hid (∀ d os, Calls Try.prog 10 #[kv W p f t z] (Sort.grow (redrawn wr d) os) fun e w' => e = .returned (kv W p f t z) ∧ Below (Sort.grow (redrawn wr d) os).heap.size (Sort.grow (redrawn wr d) os) w') := fun d os => cO _
      have c2 : Hid (∀ d os, Calls Try.prog 9 #[kv W p f t z, .slice (some ⟨g1, o1, none⟩) 0 c1] (Sort.grow (redrawn wr d) os) fun e w' => e = .returned (.tuple #[.int .u32 (X : Int), .int .i64 0]) ∧ Below (Sort.grow (redrawn wr d) os).heap.size (Sort.grow (redrawn wr d) os) w') := fun d os => cX _ (belowT st.out.b (below_regrown wr d os))
      refine wp_region_quiet_below (by kernel_rfl) (by kernel_rfl) ?_
      repeat (go_big_quiet_step (first
        | (go_at_call 10; with_reducible exact Calls.regrown_of (cO2.out _ _))
        | (go_at_call 9; with_reducible exact Calls.regrown_of (c2.out _ _))))
      refine wpQuiet_nil ?_
      intro _ hw'
      obtain ⟨⟨dq, osq⟩, hw''⟩ := hw'
      subst hw''
      replace st : Hid (LineSt w (Sort.grow (redrawn wr dq) osq) W p f t z w2.heap.size [] 0) := st.out.below (below_regrown wr dq osq)
      clear a0 a1 a2 a3 a4 cO2 c2 k0 k1 k2 k3 k4
      generalize Sort.grow (redrawn wr dq) osq = wx at *
      obtain ⟨k0, k1, k2, k3, k4⟩ := st.out.k.cells
      go_wp2_with fail
      have a0 := cell_regrown k0
      have a1 := cell_regrown k1
      have a2 := cell_regrown k2
      have a3 := cell_regrown k3
      have a4 := cell_regrown k4
      have cO2 : Hid (∀ d os, Calls Try.prog 10 #[kv W p f t z] (Sort.grow (redrawn wx d) os) fun e w' => e = .returned (kv W p f t z) ∧ Below (Sort.grow (redrawn wx d) os).heap.size (Sort.grow (redrawn wx d) os) w') := fun d os => cO _
      have c2 : Hid (∀ d os, Calls Try.prog 9 #[kv W p f t z, .slice none 0 0] (Sort.grow (redrawn wx d) os) fun e w' => e = .returned (.tuple #[.int .u32 (Y : Int), .int .i64 0]) ∧ Below (Sort.grow (redrawn wx d) os).heap.size (Sort.grow (redrawn wx d) os) w') := fun d os => cY _ (belowT st.out.b (below_regrown wx d os))
      refine wp_region_quiet_below (by kernel_rfl) (by kernel_rfl) ?_
      repeat (go_big_quiet_step (first
        | (go_at_call 10; with_reducible exact Calls.regrown_of (cO2.out _ _))
        | (go_at_call 9; with_reducible exact Calls.regrown_of (c2.out _ _))))
      refine wpQuiet_nil ?_
      intro _ hw'
      obtain ⟨⟨dq, osq⟩, hw''⟩ := hw'
      subst hw''
      replace st : Hid (LineSt w (Sort.grow (redrawn wx dq) osq) W p f t z w2.heap.size [] 0) := st.out.below (below_regrown wx dq osq)
      clear a0 a1 a2 a3 a4 cO2 c2 k0 k1 k2 k3 k4
      generalize Sort.grow (redrawn wx dq) osq = wy at *
      obtain ⟨k0, k1, k2, k3, k4⟩ := st.out.k.cells
      go_wp2_with fail
      have a0 := cell_regrown k0
      have a1 := cell_regrown k1
      have a2 := cell_regrown k2
      have a3 := cell_regrown k3
      have a4 := cell_regrown k4
      have cO2 : Hid (∀ d os, Calls Try.prog 10 #[kv W p f t z] (Sort.grow (redrawn wy d) os) fun e w' => e = .returned (kv W p f t z) ∧ Below (Sort.grow (redrawn wy d) os).heap.size (Sort.grow (redrawn wy d) os) w') := fun d os => cO _
      have c2 : Hid (∀ d os, Calls Try.prog 9 #[kv W p f t z, .slice none 0 0] (Sort.grow (redrawn wy d) os) fun e w' => e = .returned (.tuple #[.int .u32 (Z : Int), .int .i64 0]) ∧ Below (Sort.grow (redrawn wy d) os).heap.size (Sort.grow (redrawn wy d) os) w') := fun d os => cZ _ (belowT st.out.b (below_regrown wy d os))
      refine wp_region_quiet_below (by kernel_rfl) (by kernel_rfl) ?_
      repeat (go_big_quiet_step (first
        | (go_at_call 10; with_reducible exact Calls.regrown_of (cO2.out _ _))
        | (go_at_call 9; with_reducible exact Calls.regrown_of (c2.out _ _))))
      refine wpQuiet_nil ?_
      intro _ hw'
      obtain ⟨⟨dq, osq⟩, hw''⟩ := hw'
      subst hw''
      replace st : Hid (LineSt w (Sort.grow (redrawn wy dq) osq) W p f t z w2.heap.size [] 0) := st.out.below (below_regrown wy dq osq)
      clear a0 a1 a2 a3 a4 cO2 c2 k0 k1 k2 k3 k4
      generalize Sort.grow (redrawn wy dq) osq = wz at *
      obtain ⟨k0, k1, k2, k3, k4⟩ := st.out.k.cells
      go_wp2_with fail
      refine (cO _).mono ?_
      rintro e w6 ⟨rfl, hb⟩
      replace st : Hid (LineSt w w6 W p f t z w2.heap.size [] 0) := st.out.below hb
      clear hb k0 k1 k2 k3 k4
      have rw6 : Hid (RowU w6 w2.heap.size 0 []) := st.out.row
      go_wp2_with fail
      refine (cB _ _ _ rw6.out).mono ?_
      rintro e w7 ⟨rfl, hb⟩
      have B7 : Hid (Below w.heap.size w w7) := belowT st.out.b hb
      clear hb st rw6
      have e1' := e1.out
      have e2' := e2.out
      go_wp2
      go_ret
      exact ⟨rfl, B7.out⟩

set_option maxRecDepth 100000 in
set_option maxHeartbeats 4000000 in
theorem line_RNR (w : World) (W : Int) (p f : Nat) (t : Bool) (z : Nat) (g1 o1 L1 c1 : Nat) (g3 o3 L3 c3 : Nat) (X Y Z V q : Nat) (hc1 : (L1 : Int) ≤ (c1 : Int)) (hm1 : (c1 : Int) ≤ 9223372036854775807) (hc3 : (L3 : Int) ≤ (c3 : Int)) (hm3 : (c3 : Int) ≤ 9223372036854775807) (e1 : Hid (bits .xor .u32 (X : Int) (Y : Int) = (q : Int))) (e2 : Hid (bits .xor .u32 (q : Int) (Z : Int) = (V : Int))) (aw : AwC) (cO : OfC W p f t z) (cR : RightC W p f t z true)
    (cX : SumAt w W p f t z (.slice (some ⟨g1, o1, none⟩) 0 c1) X 0) (cY : SumAt w W p f t z (.slice none 0 0) Y 0) (cZ : SumAt w W p f t z (.slice (some ⟨g3, o3, none⟩) 0 c3) Z 0) (cB : SumCp (kv W p f t z) [] 0 V) :
    Calls Try.prog 6 #[kv W p f t z, .slice (some ⟨g1, o1, none⟩) L1 c1, .slice none 0 0, .slice (some ⟨g3, o3, none⟩) L3 c3] w fun e w' => e = .returned (.bool true) ∧ Below w.heap.size w w' := by
  have Q : Hid (KBx (w.alloc (.cells #[.int .i64 W, .int .u32 (p : Int), .int .u32 (f : Int), .bool t, .int .u32 (z : Int)] 24)) w.heap.size 24 W p f t z) := KBx.new _ _ _ _ _ _ _
  have B : Hid (Below w.heap.size w (w.alloc (.cells #[.int .i64 W, .int .u32 (p : Int), .int .u32 (f : Int), .bool t, .int .u32 (z : Int)] 24))) := (Below.refl _ _).alloc (Nat.le_refl _) _
  have hmk : ∀ w, (Instr.makeSlice 25 (.int .i64 (0 : Int)) (.int .i64 (0 : Int))).run Try.prog w = .ok (.slice (some ⟨w.heap.size, 0, none⟩) 0 0) (w.alloc (.cells (madeCells #[.int .u8 0] 0) 5)) := fun w => run_make_row' (P := Try.prog) 25 5 (.int .u8 0) 1 Try.underlying25 info_u8 rfl .i64 .i64 0 (by omega) (by omega) w
  have hmin : (if 0 < L1 then (0 : Int) else (L1 : Int)) = 0 := by split <;> omega
  go_enter Try.func6, Try.ntmps6
  go_wp2_with fail
  refine (aw _).mono ?_
  rintro e w1 ⟨rfl, hb⟩
  replace Q : Hid (KBx w1 w.heap.size 24 W p f t z) := Q.out.below hb
  replace B : Hid (Below w.heap.size w w1) := belowT B.out hb
  clear hb
  obtain ⟨k0, k1, k2, k3, k4⟩ := Q.out.cells
  go_wp2_with fail
  refine (cR _).mono ?_
  rintro e w2 ⟨rfl, hb⟩
  replace Q : Hid (KBx w2 w.heap.size 24 W p f t z) := Q.out.below hb
  replace B : Hid (Below w.heap.size w w2) := belowT B.out hb
  clear hb k0 k1 k2 k3 k4
  have st0 : Hid (LineSt w (w2.alloc (.cells (madeCells #[.int .u8 0] 0) 5)) W p f t z w2.heap.size [] 0) := line_start (zs := []) Q.out B.out (by unfold maxLen; simp)
  go_wp2
  clear hmk
  go_loopw [11] (fun i wr => ∃ k : Nat, (k : Int) ≤ 0 ∧ i = .int .i64 (k : Int) ∧ Hid (LineSt w wr W p f t z w2.heap.size [] k)) (fun i _ => 0 - (intOf i).toNat)
  case atStart => exact ⟨0, by omega, rfl, st0⟩
  case round =>
    obtain ⟨k, hk, rfl, st⟩ := hrel
    clear st0 Q B
    obtain rfl : k = 0 := by omega
    · clear hk
      obtain ⟨k0, k1, k2, k3, k4⟩ := st.out.k.cells
      go_wp2_with fail
      have a0 := cell_regrown k0
      have a1 := cell_regrown k1
      have a2 := cell_regrown k2
      have a3 := cell_regrown k3
      have a4 := cell_regrown k4
      have cO2 : Hid (∀ d os, Calls Try.prog 10 #[kv W p f t z] (Sort.grow (redrawn wr d) os) fun e w' => e = .returned (kv W p f t z) ∧ Below (Sort.grow (redrawn wr d) os).heap.size (Sort.grow (redrawn wr d) os) w') := fun d os => cO _
      have c2 : Hid (∀ d os, Calls Try.prog 9 #[kv W p f t z, .slice (some ⟨g1, o1, none⟩) 0 c1] (Sort.grow (redrawn wr d) os) fun e w' => e = .returned (.tuple #[.int .u32 (X : Int), .int .i64 0]) ∧ Below (Sort.grow (redrawn wr d) os).heap.size (Sort.grow (redrawn wr d) os) w') := fun d os => cX _ (belowT st.out.b (below_regrown wr d os))
      refine wp_region_quiet_below (by kernel_rfl) (by kernel_rfl) ?_
      repeat (go_big_quiet_step (first
        | (go_at_call 10; with_reducible exact Calls.regrown_of (cO2.out _ _))
        | (go_at_call 9; with_reducible exact Calls.regrown_of (c2.out _ _))))
      refine wpQuiet_nil ?_
      intro _ hw'
      obtain ⟨⟨dq, osq⟩, hw''⟩ := hw'
      subst hw''
      replace st : Hid (LineSt w (Sort.grow (redrawn wr dq) osq) W p f t z w2.heap.size [] 0) := st.out.below (below_regrown wr dq osq)
      clear a0 a1 a2 a3 a4 cO2 c2 k0 k1 k2 k3 k4
      generalize Sort.grow (redrawn wr dq) osq = wx at *
      obtain ⟨k0, k1, k2, k3, k4⟩ := st.out.k.cells
      go_wp2_with fail
      have a0 := cell_regrown k0
      have a1 := cell_regrown k1
      have a2 := cell_regrown k2
      have a3 := cell_regrown k3
      have a4 := cell_regrown k4
      have cO2 : Hid (∀ d os, Calls Try.prog 10 #[kv W p f t z] (Sort.grow (redrawn wx d) os) fun e w' => e = .returned (kv W p f t z) ∧ Below (Sort.grow (redrawn wx d) os).heap.size (Sort.grow (redrawn wx d) os) w') := fun d os => cO _
      have c2 : Hid (∀ d os, Calls Try.prog 9 #[kv W p f t z, .slice none 0 0] (Sort.grow (redrawn wx d) os) fun e w' => e = .returned (.tuple #[.int .u32 (Y : Int), .int .i64 0]) ∧ Below (Sort.grow (redrawn wx d) os).heap.size (Sort.grow (redrawn wx d) os) w') := fun d os => cY _ (belowT st.out.b (below_regrown wx d os))
      refine wp_region_quiet_below (by kernel_rfl) (by kernel_rfl) ?_
      repeat (go_big_quiet_step (first
        | (go_at_call 10; with_reducible exact Calls.regrown_of (cO2.out _ _))
        | (go_at_call 9; with_reducible exact Calls.regrown_of (c2.out _ _))))
      refine wpQuiet_nil ?_
      intro _ hw'
      obtain ⟨⟨dq, osq⟩, hw''⟩ := hw'
      subst hw''
      replace st : Hid (LineSt w (Sort.grow (redrawn wx dq) osq) W p f t z w2.heap.size [] 0) := st.out.below (below_regrown wx dq osq)
      clear a0 a1 a2 a3 a4 cO2 c2 k0 k1 k2 k3 k4
      generalize Sort.grow (redrawn wx dq) osq = wy at *
      obtain ⟨k0, k1, k2, k3, k4⟩ := st.out.k.cells
      go_wp2_with fail
      have a0 := cell_regrown k0
      have a1 := cell_regrown k1
      have a2 := cell_regrown k2
      have a3 := cell_regrown k3
      have a4 := cell_regrown k4
      have cO2 : Hid (∀ d os, Calls Try.prog 10 #[kv W p f t z] (Sort.grow (redrawn wy d) os) fun e w' => e = .returned (kv W p f t z) ∧ Below (Sort.grow (redrawn wy d) os).heap.size (Sort.grow (redrawn wy d) os) w') := fun d os => cO _
      have c2 : Hid (∀ d os, Calls Try.prog 9 #[kv W p f t z, .slice (some ⟨g3, o3, none⟩) 0 c3] (Sort.grow (redrawn wy d) os) fun e w' => e = .returned (.tuple #[.int .u32 (Z : Int), .int .i64 0]) ∧ Below (Sort.grow (redrawn wy d) os).heap.size (Sort.grow (redrawn wy d) os) w') := fun d os => cZ _ (belowT st.out.b (below_regrown wy d os))
      refine wp_region_quiet_below (by kernel_rfl) (by kernel_rfl) ?_
      repeat (go_big_quiet_step (first
        | (go_at_call 10; with_reducible exact Calls.regrown_of (cO2.out _ _))
        | (go_at_call 9; with_reducible exact Calls.regrown_of (c2.out _ _))))
      refine wpQuiet_nil ?_
      intro _ hw'
      obtain ⟨⟨dq, osq⟩, hw''⟩ := hw'
      subst hw''
      replace st : Hid (LineSt w (Sort.grow (redrawn wy dq) osq) W p f t z w2.heap.size [] 0) := st.out.below (below_regrown wy dq osq)
      clear a0 a1 a2 a3 a4 cO2 c2 k0 k1 k2 k3 k4
      generalize Sort.grow (redrawn wy dq) osq = wz at *
      obtain ⟨k0, k1, k2, k3, k4⟩ := st.out.k.cells
      go_wp2_with fail
      refine (cO _).mono ?_
      rintro e w6 ⟨rfl, hb⟩
      replace st : Hid (LineSt w w6 W p f t z w2.heap.size [] 0) := st.out.below hb
      clear hb k0 k1 k2 k3 k4
      have rw6 : Hid (RowU w6 w2.heap.size 0 []) := st.out.row
      go_wp2_with fail
      refine (cB _ _ _ rw6.out).mono ?_
      rintro e w7 ⟨rfl, hb⟩
      have B7 : Hid (Below w.heap.size w w7) := belowT st.out.b hb
      clear hb st rw6
      have e1' := e1.out
      have e2' := e2.out
      go_wp2
      go_ret
      exact ⟨rfl, B7.out⟩

set_option maxRecDepth 100000 in
set_option maxHeartbeats 4000000 in
theorem line_RRN (w : World) (W : Int) (p f : Nat) (t : Bool) (z : Nat) (g1 o1 L1 c1 : Nat) (g2 o2 L2 c2 : Nat) (X Y Z V q : Nat) (hc1 : (L1 : Int) ≤ (c1 : Int)) (hm1 : (c1 : Int) ≤ 9223372036854775807) (hc2 : (L2 : Int) ≤ (c2 : Int)) (hm2 : (c2 : Int) ≤ 9223372036854775807) (e1 : Hid (bits .xor .u32 (X : Int) (Y : Int) = (q : Int))) (e2 : Hid (bits .xor .u32 (q : Int) (Z : Int) = (V : Int))) (aw : AwC) (cO : OfC W p f t z) (cR : RightC W p f t z true)
    (cX : SumAt w W p f t z (.slice (some ⟨g1, o1, none⟩) 0 c1) X 0) (cY : SumAt w W p f t z (.slice (some ⟨g2, o2, none⟩) 0 c2) Y 0) (cZ : SumAt w W p f t z (.slice none 0 0) Z 0) (cB : SumCp (kv W p f t z) [] 0 V) :
    Calls Try.prog 6 #[kv W p f t z, .slice (some ⟨g1, o1, none⟩) L1 c1, .slice (some ⟨g2, o2, none⟩) L2 c2, .slice none 0 0] w fun e w' => e = .returned (.bool true) ∧ Below w.heap.size w w' := by
  have Q : Hid (KBx (w.alloc (.cells #[.int .i64 W, .int .u32 (p : Int), .int .u32 (f : Int), .bool t, .int .u32 (z : Int)] 24)) w.heap.size 24 W p f t z) := KBx.new _ _ _ _ _ _ _
  have B : Hid (Below w.heap.size w (w.alloc (.cells #[.int .i64 W, .int .u32 (p : Int), .int .u32 (f : Int), .bool t, .int .u32 (z : Int)] 24))) := (Below.refl _ _).alloc (Nat.le_refl _) _
  have hmk : ∀ w, (Instr.makeSlice 25 (.int .i64 (0 : Int)) (.int .i64 (0 : Int))).run Try.prog w = .ok (.slice (some ⟨w.heap.size, 0, none⟩) 0 0) (w.alloc (.cells (madeCells #[.int .u8 0] 0) 5)) := fun w => run_make_row' (P := Try.prog) 25 5 (.int .u8 0) 1 Try.underlying25 info_u8 rfl .i64 .i64 0 (by omega) (by omega) w
  have hmin : (if (0 : Int) < (if L2 < L1 then (L2 : Int) else (L1 : Int)) then (0 : Int) else (if L2 < L1 then (L2 : Int) else (L1 : Int))) = 0 := by split <;> (try split) <;> omega
  go_enter Try.func6, Try.ntmps6
  go_wp2_with fail
  refine (aw _).mono ?_
  rintro e w1 ⟨rfl, hb⟩
  replace Q : Hid (KBx w1 w.heap.size 24 W p f t z) := Q.out.below hb
  replace B : Hid (Below w.heap.size w w1) := belowT B.out hb
  clear hb
  obtain ⟨k0, k1, k2, k3, k4⟩ := Q.out.cells
  go_wp2_with fail
  refine (cR _).mono ?_
  rintro e w2 ⟨rfl, hb⟩
  replace Q : Hid (KBx w2 w.heap.size 24 W p f t z) := Q.out.below hb
  replace B : Hid (Below w.heap.size w w2) := belowT B.out hb
  clear hb k0 k1 k2 k3 k4
  have st0 : Hid (LineSt w (w2.alloc (.cells (madeCells #[.int .u8 0] 0) 5)) W p f t z w2.heap.size [] 0) := line_start (zs := []) Q.out B.out (by unfold maxLen; simp)
  go_wp2
  clear hmk
  go_loopw [11] (fun i wr => ∃ k : Nat, (k : Int) ≤ 0 ∧ i = .int .i64 (k : Int) ∧ Hid (LineSt w wr W p f t z w2.heap.size [] k)) (fun i _ => 0 - (intOf i).toNat)
  case atStart => exact ⟨0, by omega, rfl, st0⟩
  case round =>
    obtain ⟨k, hk, rfl, st⟩ := hrel
    clear st0 Q B
    obtain rfl : k = 0 := by omega
    · clear hk
      obtain ⟨k0, k1, k2, k3, k4⟩ := st.out.k.cells
      go_wp2_with fail
      have a0 := cell_regrown k0
      have a1 := cell_regrown k1
      have a2 := cell_regrown k2
      have a3 := cell_regrown k3
      have a4 := cell_regrown k4
      have cO2 : Hid (∀ d os, Calls Try.prog 10 #[kv W p f t z] (Sort.grow (redrawn wr d) os) fun e w' => e = .returned (kv W p f t z) ∧ Below (Sort.grow (redrawn wr d) os).heap.size (Sort.grow (redrawn wr d) os) w') := fun d os => cO _
      have c2 : Hid (∀ d os, Calls Try.prog 9 #[kv W p f t z, .slice (some ⟨g1, o1, none⟩) 0 c1] (Sort.grow (redrawn wr d) os) fun e w' => e = .returned (.tuple #[.int .u32 (X : Int), .int .i64 0]) ∧ Below (Sort.grow (redrawn wr d) os).heap.size (Sort.grow (redrawn wr d) os) w') := fun d os => cX _ (belowT st.out.b (below_regrown wr d os))
      refine wp_region_quiet_below (by kernel_rfl) (by kernel_rfl) ?_
      repeat (go_big_quiet_step (first
        | (go_at_call 10; with_reducible exact Calls.regrown_of (cO2.out _ _))
        | (go_at_call 9; with_reducible exact Calls.regrown_of (c2.out _ _))))
      refine wpQuiet_nil ?_
      intro _ hw'
      obtain ⟨⟨dq, osq⟩, hw''⟩ := hw'
      subst hw''
      replace st : Hid (LineSt w (Sort.grow (redrawn wr dq) osq) W p f t z w2.heap.size [] 0) := st.out.below (below_regrown wr dq osq)
      clear a0 a1 a2 a3 a4 cO2 c2 k0 k1 k2 k3 k4
      generalize Sort.grow (redrawn wr dq) osq = wx at *
      obtain ⟨k0, k1, k2, k3, k4⟩ := st.out.k.cells
      go_wp2_with fail
      have a0 := cell_regrown k0
      have a1 := cell_regrown k1
      have a2 := cell_regrown k2
      have a3 := cell_regrown k3
      have a4 := cell_regrown k4
      have cO2 : Hid (∀ d os, Calls Try.prog 10 #[kv W p f t z] (Sort.grow (redrawn wx d) os) fun e w' => e = .returned (kv W p f t z) ∧ Below (Sort.grow (redrawn wx d) os).heap.size (Sort.grow (redrawn wx d) os) w') := fun d os => cO _
      have c2 : Hid (∀ d os, Calls Try.prog 9 #[kv W p f t z, .slice (some ⟨g2, o2, none⟩) 0 c2] (Sort.grow (redrawn wx d) os) fun e w' => e = .returned (.tuple #[.int .u32 (Y : Int), .int .i64 0]) ∧ Below (Sort.grow (redrawn wx d) os).heap.size (Sort.grow (redrawn wx d) os) w') := fun d os => cY _ (belowT st.out.b (below_regrown wx d os))
      refine wp_region_quiet_below (by kernel_rfl) (by kernel_rfl) ?_
      repeat (go_big_quiet_step (first
        | (go_at_call 10; with_reducible exact Calls.regrown_of (cO2.out _ _))
        | (go_at_call 9; with_reducible exact Calls.regrown_of (c2.out _ _))))
      refine wpQuiet_nil ?_
      intro _ hw'
      obtain ⟨⟨dq, osq⟩, hw''⟩ := hw'
      subst hw''
      replace st : Hid (LineSt w (Sort.grow (redrawn wx dq) osq) W p f t z w2.heap.size [] 0) := st.out.below (below_regrown wx dq osq)
      clear a0 a1 a2 a3 a4 cO2 c2 k0 k1 k2 k3 k4
      generalize Sort.grow (redrawn wx dq) osq = wy at *
      obtain ⟨k0, k1, k2, k3, k4⟩ := st.out.k.cells
      go_wp2_with fail
      have a0 := cell_regrown k0
      have a1 := cell_regrown k1
      have a2 := cell_regrown k2
      have a3 := cell_regrown k3
      have a4 := cell_regrown k4
      have cO2 : Hid (∀ d os, Calls Try.prog 10 #[kv W p f t z] (Sort.grow (redrawn wy d) os) fun e w' => e = .returned (kv W p f t z) ∧ Below (Sort.grow (redrawn wy d) os).heap.size (Sort.grow (redrawn wy d) os) w') := fun d os => cO _
      have c2 : Hid (∀ d os, Calls Try.prog 9 #[kv W p f t z, .slice none 0 0] (Sort.grow (redrawn wy d) os) fun e w' => e = .returned (.tuple #[.int .u32 (Z : Int), .int .i64 0]) ∧ Below (Sort.grow (redrawn wy d) os).heap.size (Sort.grow (redrawn wy d) os) w') := fun d os => cZ _ (belowT st.out.b (below_regrown wy d os))
      refine wp_region_quiet_below (by kernel_rfl) (by kernel_rfl) ?_
      repeat (go_big_quiet_step (first
        | (go_at_call 10; with_reducible exact Calls.regrown_of (cO2.out _ _))
        | (go_at_call 9; with_reducible exact Calls.regrown_of (c2.out _ _))))
      refine wpQuiet_nil ?_
      intro _ hw'
      obtain ⟨⟨dq, osq⟩, hw''⟩ := hw'
      subst hw''
      replace st : Hid (LineSt w (Sort.grow (redrawn wy dq) osq) W p f t z w2.heap.size [] 0) := st.out.below (below_regrown wy dq osq)
      clear a0 a1 a2 a3 a4 cO2 c2 k0 k1 k2 k3 k4
      generalize Sort.grow (redrawn wy dq) osq = wz at *
      obtain ⟨k0, k1, k2, k3, k4⟩ := st.out.k.cells
      go_wp2_with fail
      refine (cO _).mono ?_
      rintro e w6 ⟨rfl, hb⟩
      replace st : Hid (LineSt w w6 W p f t z w2.heap.size [] 0) := st.out.below hb
      clear hb k0 k1 k2 k3 k4
      have rw6 : Hid (RowU w6 w2.heap.size 0 []) := st.out.row
      go_wp2_with fail
      refine (cB _ _ _ rw6.out).mono ?_
      rintro e w7 ⟨rfl, hb⟩
      have B7 : Hid (Below w.heap.size w w7) := belowT st.out.b hb
      clear hb st rw6
      have e1' := e1.out
      have e2' := e2.out
      go_wp2
      go_ret
      exact ⟨rfl, B7.out⟩
end Go.Proofs.Ytjbgjiodmhpbbaa
