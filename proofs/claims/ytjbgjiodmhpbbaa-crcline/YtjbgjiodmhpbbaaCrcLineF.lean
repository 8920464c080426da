/-
  Ways through the law on three texts (layer 4): what is too long, and kinds that aren't right. Conditions: as each says.
-/
import Derived.Test.YtjbgjiodmhpbbaaCrcLineK
namespace Go.Proofs.Ytjbgjiodmhpbbaa
open Go.RowKit
set_option linter.unusedVariables false

set_option maxRecDepth 100000 in
set_option maxHeartbeats 4000000 in
theorem line_no_NNN (w : World) (W : Int) (p f : Nat) (t : Bool) (z : Nat) (aw : AwC) (cR : RightC W p f t z false) :
    Calls Try.prog 6 #[kv W p f t z, .slice none 0 0, .slice none 0 0, .slice none 0 0] w fun e w' => e = .returned (.bool true) ∧ Below w.heap.size w w' := by
  have Q : Hid (KBx (w.alloc (.cells #[.int .i64 W, .int .u32 (p : Int), .int .u32 (f : Int), .bool t, .int .u32 (z : Int)] 24)) w.heap.size 24 W p f t z) := KBx.new _ _ _ _ _ _ _
  have B : Hid (Below w.heap.size w (w.alloc (.cells #[.int .i64 W, .int .u32 (p : Int), .int .u32 (f : Int), .bool t, .int .u32 (z : Int)] 24))) := (Below.refl _ _).alloc (Nat.le_refl _) _
  go_enter Try.func6, Try.ntmps6
  go_wp2_with fail
  refine (aw _).mono ?_
  rintro e w1 ⟨rfl, hb⟩
  replace Q : Hid (KBx w1 w.heap.size 24 W p f t z) := Q.out.below hb
  replace B : Hid (Below w.heap.size w w1) := belowT B.out hb
  clear hb
  obtain ⟨k0, k1, k2, k3, k4⟩ := Q.out.cells
  go_wp2_with fail
  refine (cR _).mono ?_
  rintro e w2 ⟨rfl, hb⟩
  replace B : Hid (Below w.heap.size w w2) := belowT B.out hb
  clear hb k0 k1 k2 k3 k4 Q
  go_wp2_with fail
  refine (aw _).mono ?_
  rintro e w3 ⟨rfl, hb⟩
  replace B : Hid (Below w.heap.size w w3) := belowT B.out hb
  clear hb
  go_wp2
  go_ret
  exact ⟨rfl, B.out⟩

set_option maxRecDepth 100000 in
set_option maxHeartbeats 4000000 in
theorem line_no_NNR (w : World) (W : Int) (p f : Nat) (t : Bool) (z : Nat) (g3 o3 L3 c3 : Nat) (aw : AwC) (cR : RightC W p f t z false) :
    Calls Try.prog 6 #[kv W p f t z, .slice none 0 0, .slice none 0 0, .slice (some ⟨g3, o3, none⟩) L3 c3] w fun e w' => e = .returned (.bool true) ∧ Below w.heap.size w w' := by
  have Q : Hid (KBx (w.alloc (.cells #[.int .i64 W, .int .u32 (p : Int), .int .u32 (f : Int), .bool t, .int .u32 (z : Int)] 24)) w.heap.size 24 W p f t z) := KBx.new _ _ _ _ _ _ _
  have B : Hid (Below w.heap.size w (w.alloc (.cells #[.int .i64 W, .int .u32 (p : Int), .int .u32 (f : Int), .bool t, .int .u32 (z : Int)] 24))) := (Below.refl _ _).alloc (Nat.le_refl _) _
  go_enter Try.func6, Try.ntmps6
  go_wp2_with fail
  refine (aw _).mono ?_
  rintro e w1 ⟨rfl, hb⟩
  replace Q : Hid (KBx w1 w.heap.size 24 W p f t z) := Q.out.below hb
  replace B : Hid (Below w.heap.size w w1) := belowT B.out hb
  clear hb
  obtain ⟨k0, k1, k2, k3, k4⟩ := Q.out.cells
  go_wp2_with fail
  refine (cR _).mono ?_
  rintro e w2 ⟨rfl, hb⟩
  replace B : Hid (Below w.heap.size w w2) := belowT B.out hb
  clear hb k0 k1 k2 k3 k4 Q
  go_wp2_with fail
  refine (aw _).mono ?_
  rintro e w3 ⟨rfl, hb⟩
  replace B : Hid (Below w.heap.size w w3) := belowT B.out hb
  clear hb
  go_wp2
  go_ret
  exact ⟨rfl, B.out⟩

set_option maxRecDepth 100000 in
set_option maxHeartbeats 4000000 in
theorem line_no_NRN (w : World) (W : Int) (p f : Nat) (t : Bool) (z : Nat) (g2 o2 L2 c2 : Nat) (aw : AwC) (cR : RightC W p f t z false) :
    Calls Try.prog 6 #[kv W p f t z, .slice none 0 0, .slice (some ⟨g2, o2, none⟩) L2 c2, .slice none 0 0] w fun e w' => e = .returned (.bool true) ∧ Below w.heap.size w w' := by
  have Q : Hid (KBx (w.alloc (.cells #[.int .i64 W, .int .u32 (p : Int), .int .u32 (f : Int), .bool t, .int .u32 (z : Int)] 24)) w.heap.size 24 W p f t z) := KBx.new _ _ _ _ _ _ _
  have B : Hid (Below w.heap.size w (w.alloc (.cells #[.int .i64 W, .int .u32 (p : Int), .int .u32 (f : Int), .bool t, .int .u32 (z : Int)] 24))) := (Below.refl _ _).alloc (Nat.le_refl _) _
  go_enter Try.func6, Try.ntmps6
  go_wp2_with fail
  refine (aw _).mono ?_
  rintro e w1 ⟨rfl, hb⟩
  replace Q : Hid (KBx w1 w.heap.size 24 W p f t z) := Q.out.below hb
  replace B : Hid (Below w.heap.size w w1) := belowT B.out hb
  clear hb
  obtain ⟨k0, k1, k2, k3, k4⟩ := Q.out.cells
  go_wp2_with fail
  refine (cR _).mono ?_
  rintro e w2 ⟨rfl, hb⟩
  replace B : Hid (Below w.heap.size w w2) := belowT B.out hb
  clear hb k0 k1 k2 k3 k4 Q
  go_wp2_with fail
  refine (aw _).mono ?_
  rintro e w3 ⟨rfl, hb⟩
  replace B : Hid (Below w.heap.size w w3) := belowT B.out hb
  clear hb
  go_wp2
  go_ret
  exact ⟨rfl, B.out⟩

set_option maxRecDepth 100000 in
set_option maxHeartbeats 4000000 in
theorem line_no_NRR (w : World) (W : Int) (p f : Nat) (t : Bool) (z : Nat) (g2 o2 L2 c2 : Nat) (g3 o3 L3 c3 : Nat) (aw : AwC) (cR : RightC W p f t z false) :
    Calls Try.prog 6 #[kv W p f t z, .slice none 0 0, .slice (some ⟨g2, o2, none⟩) L2 c2, .slice (some ⟨g3, o3, none⟩) L3 c3] w fun e w' => e = .returned (.bool true) ∧ Below w.heap.size w w' := by
  have Q : Hid (KBx (w.alloc (.cells #[.int .i64 W, .int .u32 (p : Int), .int .u32 (f : Int), .bool t, .int .u32 (z : Int)] 24)) w.heap.size 24 W p f t z) := KBx.new _ _ _ _ _ _ _
  have B : Hid (Below w.heap.size w (w.alloc (.cells #[.int .i64 W, .int .u32 (p : Int), .int .u32 (f : Int), .bool t, .int .u32 (z : Int)] 24))) := (Below.refl _ _).alloc (Nat.le_refl _) _
  go_enter Try.func6, Try.ntmps6
  go_wp2_with fail
  refine (aw _).mono ?_
  rintro e w1 ⟨rfl, hb⟩
  replace Q : Hid (KBx w1 w.heap.size 24 W p f t z) := Q.out.below hb
  replace B : Hid (Below w.heap.size w w1) := belowT B.out hb
  clear hb
  obtain ⟨k0, k1, k2, k3, k4⟩ := Q.out.cells
  go_wp2_with fail
  refine (cR _).mono ?_
  rintro e w2 ⟨rfl, hb⟩
  replace B : Hid (Below w.heap.size w w2) := belowT B.out hb
  clear hb k0 k1 k2 k3 k4 Q
  go_wp2_with fail
  refine (aw _).mono ?_
  rintro e w3 ⟨rfl, hb⟩
  replace B : Hid (Below w.heap.size w w3) := belowT B.out hb
  clear hb
  go_wp2
  go_ret
  exact ⟨rfl, B.out⟩

set_option maxRecDepth 100000 in
set_option maxHeartbeats 4000000 in
theorem line_no_RNN (w : World) (W : Int) (p f : Nat) (t : Bool) (z : Nat) (g1 o1 L1 c1 : Nat) (aw : AwC) (cR : RightC W p f t z false) :
    Calls Try.prog 6 #[kv W p f t z, .slice (some ⟨g1, o1, none⟩) L1 c1, .slice none 0 0, .slice none 0 0] w fun e w' => e = .returned (.bool true) ∧ Below w.heap.size w w' := by
  have Q : Hid (KBx (w.alloc (.cells #[.int .i64 W, .int .u32 (p : Int), .int .u32 (f : Int), .bool t, .int .u32 (z : Int)] 24)) w.heap.size 24 W p f t z) := KBx.new _ _ _ _ _ _ _
  have B : Hid (Below w.heap.size w (w.alloc (.cells #[.int .i64 W, .int .u32 (p : Int), .int .u32 (f : Int), .bool t, .int .u32 (z : Int)] 24))) := (Below.refl _ _).alloc (Nat.le_refl _) _
  have hmin : (if 0 < L1 then (0 : Int) else (L1 : Int)) = 0 := by split <;> omega
  go_enter Try.func6, Try.ntmps6
  go_wp2_with fail
  refine (aw _).mono ?_
  rintro e w1 ⟨rfl, hb⟩
  replace Q : Hid (KBx w1 w.heap.size 24 W p f t z) := Q.out.below hb
  replace B : Hid (Below w.heap.size w w1) := belowT B.out hb
  clear hb
  obtain ⟨k0, k1, k2, k3, k4⟩ := Q.out.cells
  go_wp2_with fail
  refine (cR _).mono ?_
  rintro e w2 ⟨rfl, hb⟩
  replace B : Hid (Below w.heap.size w w2) := belowT B.out hb
  clear hb k0 k1 k2 k3 k4 Q
  go_wp2_with fail
  refine (aw _).mono ?_
  rintro e w3 ⟨rfl, hb⟩
  replace B : Hid (Below w.heap.size w w3) := belowT B.out hb
  clear hb
  go_wp2
  go_ret
  exact ⟨rfl, B.out⟩

set_option maxRecDepth 100000 in
set_option maxHeartbeats 4000000 in
theorem line_no_RNR (w : World) (W : Int) (p f : Nat) (t : Bool) (z : Nat) (g1 o1 L1 c1 : Nat) (g3 o3 L3 c3 : Nat) (aw : AwC) (cR : RightC W p f t z false) :
    Calls Try.prog 6 #[kv W p f t z, .slice (some ⟨g1, o1, none⟩) L1 c1, .slice none 0 0, .slice (some ⟨g3, o3, none⟩) L3 c3] w fun e w' => e = .returned (.bool true) ∧ Below w.heap.size w w' := by
  have Q : Hid (KBx (w.alloc (.cells #[.int .i64 W, .int .u32 (p : Int), .int .u32 (f : Int), .bool t, .int .u32 (z : Int)] 24)) w.heap.size 24 W p f t z) := KBx.new _ _ _ _ _ _ _
  have B : Hid (Below w.heap.size w (w.alloc (.cells #[.int .i64 W, .int .u32 (p : Int), .int .u32 (f : Int), .bool t, .int .u32 (z : Int)] 24))) := (Below.refl _ _).alloc (Nat.le_refl _) _
  have hmin : (if 0 < L1 then (0 : Int) else (L1 : Int)) = 0 := by split <;> omega
  go_enter Try.func6, Try.ntmps6
  go_wp2_with fail
  refine (aw _).mono ?_
  rintro e w1 ⟨rfl, hb⟩
  replace Q : Hid (KBx w1 w.heap.size 24 W p f t z) := Q.out.below hb
  replace B : Hid (Below w.heap.size w w1) := belowT B.out hb
  clear hb
  obtain ⟨k0, k1, k2, k3, k4⟩ := Q.out.cells
  go_wp2_with fail
  refine (cR _).mono ?_
  rintro e w2 ⟨rfl, hb⟩
  replace B : Hid (Below w.heap.size w w2) := belowT B.out hb
  clear hb k0 k1 k2 k3 k4 Q
  go_wp2_with fail
  refine (aw _).mono ?_
  rintro e w3 ⟨rfl, hb⟩
  replace B : Hid (Below w.heap.size w w3) := belowT B.out hb
  clear hb
  go_wp2
  go_ret
  exact ⟨rfl, B.out⟩

set_option maxRecDepth 100000 in
set_option maxHeartbeats 4000000 in
theorem line_no_RRN (w : World) (W : Int) (p f : Nat) (t : Bool) (z : Nat) (g1 o1 L1 c1 : Nat) (g2 o2 L2 c2 : Nat) (aw : AwC) (cR : RightC W p f t z false) :
    Calls Try.prog 6 #[kv W p f t z, .slice (some ⟨g1, o1, none⟩) L1 c1, .slice (some ⟨g2, o2, none⟩) L2 c2, .slice none 0 0] w fun e w' => e = .returned (.bool true) ∧ Below w.heap.size w w' := by
  have Q : Hid (KBx (w.alloc (.cells #[.int .i64 W, .int .u32 (p : Int), .int .u32 (f : Int), .bool t, .int .u32 (z : Int)] 24)) w.heap.size 24 W p f t z) := KBx.new _ _ _ _ _ _ _
  have B : Hid (Below w.heap.size w (w.alloc (.cells #[.int .i64 W, .int .u32 (p : Int), .int .u32 (f : Int), .bool t, .int .u32 (z : Int)] 24))) := (Below.refl _ _).alloc (Nat.le_refl _) _
  have hmin : (if (0 : Int) < (if L2 < L1 then (L2 : Int) else (L1 : Int)) then (0 : Int) else (if L2 < L1 then (L2 : Int) else (L1 : Int))) = 0 := by split <;> (try split) <;> omega
  go_enter Try.func6, Try.ntmps6
  go_wp2_with fail
  refine (aw _).mono ?_
  rintro e w1 ⟨rfl, hb⟩
  replace Q : Hid (KBx w1 w.heap.size 24 W p f t z) := Q.out.below hb
  replace B : Hid (Below w.heap.size w w1) := belowT B.out hb
  clear hb
  obtain ⟨k0, k1, k2, k3, k4⟩ := Q.out.cells
  go_wp2_with fail
  refine (cR _).mono ?_
  rintro e w2 ⟨rfl, hb⟩
  replace B : Hid (Below w.heap.size w w2) := belowT B.out hb
  clear hb k0 k1 k2 k3 k4 Q
  go_wp2_with fail
  refine (aw _).mono ?_
  rintro e w3 ⟨rfl, hb⟩
  replace B : Hid (Below w.heap.size w w3) := belowT B.out hb
  clear hb
  go_wp2
  go_ret
  exact ⟨rfl, B.out⟩

set_option maxRecDepth 100000 in
set_option maxHeartbeats 4000000 in
theorem line_no_RRR1 (w : World) (W : Int) (p f : Nat) (t : Bool) (z : Nat) (g1 o1 L1 c1 : Nat) (g2 o2 L2 c2 : Nat) (g3 o3 L3 c3 : Nat) (n2 : (L1 : Int) ≤ (L2 : Int)) (n3 : (L1 : Int) ≤ (L3 : Int)) (hl : (L1 : Int) ≤ 300) (aw : AwC) (cR : RightC W p f t z false) :
    Calls Try.prog 6 #[kv W p f t z, .slice (some ⟨g1, o1, none⟩) L1 c1, .slice (some ⟨g2, o2, none⟩) L2 c2, .slice (some ⟨g3, o3, none⟩) L3 c3] w fun e w' => e = .returned (.bool true) ∧ Below w.heap.size w w' := by
  have Q : Hid (KBx (w.alloc (.cells #[.int .i64 W, .int .u32 (p : Int), .int .u32 (f : Int), .bool t, .int .u32 (z : Int)] 24)) w.heap.size 24 W p f t z) := KBx.new _ _ _ _ _ _ _
  have B : Hid (Below w.heap.size w (w.alloc (.cells #[.int .i64 W, .int .u32 (p : Int), .int .u32 (f : Int), .bool t, .int .u32 (z : Int)] 24))) := (Below.refl _ _).alloc (Nat.le_refl _) _
  go_enter Try.func6, Try.ntmps6
  go_wp2_with fail
  refine (aw _).mono ?_
  rintro e w1 ⟨rfl, hb⟩
  replace Q : Hid (KBx w1 w.heap.size 24 W p f t z) := Q.out.below hb
  replace B : Hid (Below w.heap.size w w1) := belowT B.out hb
  clear hb
  obtain ⟨k0, k1, k2, k3, k4⟩ := Q.out.cells
  go_wp2_with fail
  refine (cR _).mono ?_
  rintro e w2 ⟨rfl, hb⟩
  replace B : Hid (Below w.heap.size w w2) := belowT B.out hb
  clear hb k0 k1 k2 k3 k4 Q
  go_wp2_with fail
  refine (aw _).mono ?_
  rintro e w3 ⟨rfl, hb⟩
  replace B : Hid (Below w.heap.size w w3) := belowT B.out hb
  clear hb
  go_wp2
  go_ret
  exact ⟨rfl, B.out⟩

set_option maxRecDepth 100000 in
set_option maxHeartbeats 4000000 in
theorem line_long_RRR1 (w : World) (W : Int) (p f : Nat) (t : Bool) (z : Nat) (g1 o1 L1 c1 : Nat) (g2 o2 L2 c2 : Nat) (g3 o3 L3 c3 : Nat) (n2 : (L1 : Int) ≤ (L2 : Int)) (n3 : (L1 : Int) ≤ (L3 : Int)) (hl : 300 < (L1 : Int)) (aw : AwC) :
    Calls Try.prog 6 #[kv W p f t z, .slice (some ⟨g1, o1, none⟩) L1 c1, .slice (some ⟨g2, o2, none⟩) L2 c2, .slice (some ⟨g3, o3, none⟩) L3 c3] w fun e w' => e = .returned (.bool true) ∧ Below w.heap.size w w' := by
  have Q : Hid (KBx (w.alloc (.cells #[.int .i64 W, .int .u32 (p : Int), .int .u32 (f : Int), .bool t, .int .u32 (z : Int)] 24)) w.heap.size 24 W p f t z) := KBx.new _ _ _ _ _ _ _
  have B : Hid (Below w.heap.size w (w.alloc (.cells #[.int .i64 W, .int .u32 (p : Int), .int .u32 (f : Int), .bool t, .int .u32 (z : Int)] 24))) := (Below.refl _ _).alloc (Nat.le_refl _) _
  go_enter Try.func6, Try.ntmps6
  go_wp2_with fail
  refine (aw _).mono ?_
  rintro e w1 ⟨rfl, hb⟩
  replace Q : Hid (KBx w1 w.heap.size 24 W p f t z) := Q.out.below hb
  replace B : Hid (Below w.heap.size w w1) := belowT B.out hb
  clear hb
  go_wp2_with fail
  refine (aw _).mono ?_
  rintro e w3 ⟨rfl, hb⟩
  replace B : Hid (Below w.heap.size w w3) := belowT B.out hb
  clear hb
  go_wp2
  go_ret
  exact ⟨rfl, B.out⟩

set_option maxRecDepth 100000 in
set_option maxHeartbeats 4000000 in
theorem line_no_RRR2 (w : World) (W : Int) (p f : Nat) (t : Bool) (z : Nat) (g1 o1 L1 c1 : Nat) (g2 o2 L2 c2 : Nat) (g3 o3 L3 c3 : Nat) (n1 : (L2 : Int) < (L1 : Int)) (n3 : (L2 : Int) ≤ (L3 : Int)) (hl : (L2 : Int) ≤ 300) (aw : AwC) (cR : RightC W p f t z false) :
    Calls Try.prog 6 #[kv W p f t z, .slice (some ⟨g1, o1, none⟩) L1 c1, .slice (some ⟨g2, o2, none⟩) L2 c2, .slice (some ⟨g3, o3, none⟩) L3 c3] w fun e w' => e = .returned (.bool true) ∧ Below w.heap.size w w' := by
  have Q : Hid (KBx (w.alloc (.cells #[.int .i64 W, .int .u32 (p : Int), .int .u32 (f : Int), .bool t, .int .u32 (z : Int)] 24)) w.heap.size 24 W p f t z) := KBx.new _ _ _ _ _ _ _
  have B : Hid (Below w.heap.size w (w.alloc (.cells #[.int .i64 W, .int .u32 (p : Int), .int .u32 (f : Int), .bool t, .int .u32 (z : Int)] 24))) := (Below.refl _ _).alloc (Nat.le_refl _) _
  go_enter Try.func6, Try.ntmps6
  go_wp2_with fail
  refine (aw _).mono ?_
  rintro e w1 ⟨rfl, hb⟩
  replace Q : Hid (KBx w1 w.heap.size 24 W p f t z) := Q.out.below hb
  replace B : Hid (Below w.heap.size w w1) := belowT B.out hb
  clear hb
  obtain ⟨k0, k1, k2, k3, k4⟩ := Q.out.cells
  go_wp2_with fail
  refine (cR _).mono ?_
  rintro e w2 ⟨rfl, hb⟩
  replace B : Hid (Below w.heap.size w w2) := belowT B.out hb
  clear hb k0 k1 k2 k3 k4 Q
  go_wp2_with fail
  refine (aw _).mono ?_
  rintro e w3 ⟨rfl, hb⟩
  replace B : Hid (Below w.heap.size w w3) := belowT B.out hb
  clear hb
  go_wp2
  go_ret
  exact ⟨rfl, B.out⟩

set_option maxRecDepth 100000 in
set_option maxHeartbeats 4000000 in
theorem line_long_RRR2 (w : World) (W : Int) (p f : Nat) (t : Bool) (z : Nat) (g1 o1 L1 c1 : Nat) (g2 o2 L2 c2 : Nat) (g3 o3 L3 c3 : Nat) (n1 : (L2 : Int) < (L1 : Int)) (n3 : (L2 : Int) ≤ (L3 : Int)) (hl : 300 < (L2 : Int)) (aw : AwC) :
    Calls Try.prog 6 #[kv W p f t z, .slice (some ⟨g1, o1, none⟩) L1 c1, .slice (some ⟨g2, o2, none⟩) L2 c2, .slice (some ⟨g3, o3, none⟩) L3 c3] w fun e w' => e = .returned (.bool true) ∧ Below w.heap.size w w' := by
  have Q : Hid (KBx (w.alloc (.cells #[.int .i64 W, .int .u32 (p : Int), .int .u32 (f : Int), .bool t, .int .u32 (z : Int)] 24)) w.heap.size 24 W p f t z) := KBx.new _ _ _ _ _ _ _
  have B : Hid (Below w.heap.size w (w.alloc (.cells #[.int .i64 W, .int .u32 (p : Int), .int .u32 (f : Int), .bool t, .int .u32 (z : Int)] 24))) := (Below.refl _ _).alloc (Nat.le_refl _) _
  go_enter Try.func6, Try.ntmps6
  go_wp2_with fail
  refine (aw _).mono ?_
  rintro e w1 ⟨rfl, hb⟩
  replace Q : Hid (KBx w1 w.heap.size 24 W p f t z) := Q.out.below hb
  replace B : Hid (Below w.heap.size w w1) := belowT B.out hb
  clear hb
  go_wp2_with fail
  refine (aw _).mono ?_
  rintro e w3 ⟨rfl, hb⟩
  replace B : Hid (Below w.heap.size w w3) := belowT B.out hb
  clear hb
  go_wp2
  go_ret
  exact ⟨rfl, B.out⟩

set_option maxRecDepth 100000 in
set_option maxHeartbeats 4000000 in
theorem line_no_RRR3a (w : World) (W : Int) (p f : Nat) (t : Bool) (z : Nat) (g1 o1 L1 c1 : Nat) (g2 o2 L2 c2 : Nat) (g3 o3 L3 c3 : Nat) (n12 : (L2 : Int) < (L1 : Int)) (n2 : (L3 : Int) < (L2 : Int)) (n1 : (L3 : Int) < (L1 : Int)) (hl : (L3 : Int) ≤ 300) (aw : AwC) (cR : RightC W p f t z false) :
    Calls Try.prog 6 #[kv W p f t z, .slice (some ⟨g1, o1, none⟩) L1 c1, .slice (some ⟨g2, o2, none⟩) L2 c2, .slice (some ⟨g3, o3, none⟩) L3 c3] w fun e w' => e = .returned (.bool true) ∧ Below w.heap.size w w' := by
  have Q : Hid (KBx (w.alloc (.cells #[.int .i64 W, .int .u32 (p : Int), .int .u32 (f : Int), .bool t, .int .u32 (z : Int)] 24)) w.heap.size 24 W p f t z) := KBx.new _ _ _ _ _ _ _
  have B : Hid (Below w.heap.size w (w.alloc (.cells #[.int .i64 W, .int .u32 (p : Int), .int .u32 (f : Int), .bool t, .int .u32 (z : Int)] 24))) := (Below.refl _ _).alloc (Nat.le_refl _) _
  go_enter Try.func6, Try.ntmps6
  go_wp2_with fail
  refine (aw _).mono ?_
  rintro e w1 ⟨rfl, hb⟩
  replace Q : Hid (KBx w1 w.heap.size 24 W p f t z) := Q.out.below hb
  replace B : Hid (Below w.heap.size w w1) := belowT B.out hb
  clear hb
  obtain ⟨k0, k1, k2, k3, k4⟩ := Q.out.cells
  go_wp2_with fail
  refine (cR _).mono ?_
  rintro e w2 ⟨rfl, hb⟩
  replace B : Hid (Below w.heap.size w w2) := belowT B.out hb
  clear hb k0 k1 k2 k3 k4 Q
  go_wp2_with fail
  refine (aw _).mono ?_
  rintro e w3 ⟨rfl, hb⟩
  replace B : Hid (Below w.heap.size w w3) := belowT B.out hb
  clear hb
  go_wp2
  go_ret
  exact ⟨rfl, B.out⟩

set_option maxRecDepth 100000 in
set_option maxHeartbeats 4000000 in
theorem line_long_RRR3a (w : World) (W : Int) (p f : Nat) (t : Bool) (z : Nat) (g1 o1 L1 c1 : Nat) (g2 o2 L2 c2 : Nat) (g3 o3 L3 c3 : Nat) (n12 : (L2 : Int) < (L1 : Int)) (n2 : (L3 : Int) < (L2 : Int)) (n1 : (L3 : Int) < (L1 : Int)) (hl : 300 < (L3 : Int)) (aw : AwC) :
    Calls Try.prog 6 #[kv W p f t z, .slice (some ⟨g1, o1, none⟩) L1 c1, .slice (some ⟨g2, o2, none⟩) L2 c2, .slice (some ⟨g3, o3, none⟩) L3 c3] w fun e w' => e = .returned (.bool true) ∧ Below w.heap.size w w' := by
  have Q : Hid (KBx (w.alloc (.cells #[.int .i64 W, .int .u32 (p : Int), .int .u32 (f : Int), .bool t, .int .u32 (z : Int)] 24)) w.heap.size 24 W p f t z) := KBx.new _ _ _ _ _ _ _
  have B : Hid (Below w.heap.size w (w.alloc (.cells #[.int .i64 W, .int .u32 (p : Int), .int .u32 (f : Int), .bool t, .int .u32 (z : Int)] 24))) := (Below.refl _ _).alloc (Nat.le_refl _) _
  go_enter Try.func6, Try.ntmps6
  go_wp2_with fail
  refine (aw _).mono ?_
  rintro e w1 ⟨rfl, hb⟩
  replace Q : Hid (KBx w1 w.heap.size 24 W p f t z) := Q.out.below hb
  replace B : Hid (Below w.heap.size w w1) := belowT B.out hb
  clear hb
  go_wp2_with fail
  refine (aw _).mono ?_
  rintro e w3 ⟨rfl, hb⟩
  replace B : Hid (Below w.heap.size w w3) := belowT B.out hb
  clear hb
  go_wp2
  go_ret
  exact ⟨rfl, B.out⟩

set_option maxRecDepth 100000 in
set_option maxHeartbeats 4000000 in
theorem line_no_RRR3b (w : World) (W : Int) (p f : Nat) (t : Bool) (z : Nat) (g1 o1 L1 c1 : Nat) (g2 o2 L2 c2 : Nat) (g3 o3 L3 c3 : Nat) (n12 : (L1 : Int) ≤ (L2 : Int)) (n1 : (L3 : Int) < (L1 : Int)) (n2 : (L3 : Int) < (L2 : Int)) (hl : (L3 : Int) ≤ 300) (aw : AwC) (cR : RightC W p f t z false) :
    Calls Try.prog 6 #[kv W p f t z, .slice (some ⟨g1, o1, none⟩) L1 c1, .slice (some ⟨g2, o2, none⟩) L2 c2, .slice (some ⟨g3, o3, none⟩) L3 c3] w fun e w' => e = .returned (.bool true) ∧ Below w.heap.size w w' := by
  have Q : Hid (KBx (w.alloc (.cells #[.int .i64 W, .int .u32 (p : Int), .int .u32 (f : Int), .bool t, .int .u32 (z : Int)] 24)) w.heap.size 24 W p f t z) := KBx.new _ _ _ _ _ _ _
  have B : Hid (Below w.heap.size w (w.alloc (.cells #[.int .i64 W, .int .u32 (p : Int), .int .u32 (f : Int), .bool t, .int .u32 (z : Int)] 24))) := (Below.refl _ _).alloc (Nat.le_refl _) _
  go_enter Try.func6, Try.ntmps6
  go_wp2_with fail
  refine (aw _).mono ?_
  rintro e w1 ⟨rfl, hb⟩
  replace Q : Hid (KBx w1 w.heap.size 24 W p f t z) := Q.out.below hb
  replace B : Hid (Below w.heap.size w w1) := belowT B.out hb
  clear hb
  obtain ⟨k0, k1, k2, k3, k4⟩ := Q.out.cells
  go_wp2_with fail
  refine (cR _).mono ?_
  rintro e w2 ⟨rfl, hb⟩
  replace B : Hid (Below w.heap.size w w2) := belowT B.out hb
  clear hb k0 k1 k2 k3 k4 Q
  go_wp2_with fail
  refine (aw _).mono ?_
  rintro e w3 ⟨rfl, hb⟩
  replace B : Hid (Below w.heap.size w w3) := belowT B.out hb
  clear hb
  go_wp2
  go_ret
  exact ⟨rfl, B.out⟩

set_option maxRecDepth 100000 in
set_option maxHeartbeats 4000000 in
theorem line_long_RRR3b (w : World) (W : Int) (p f : Nat) (t : Bool) (z : Nat) (g1 o1 L1 c1 : Nat) (g2 o2 L2 c2 : Nat) (g3 o3 L3 c3 : Nat) (n12 : (L1 : Int) ≤ (L2 : Int)) (n1 : (L3 : Int) < (L1 : Int)) (n2 : (L3 : Int) < (L2 : Int)) (hl : 300 < (L3 : Int)) (aw : AwC) :
    Calls Try.prog 6 #[kv W p f t z, .slice (some ⟨g1, o1, none⟩) L1 c1, .slice (some ⟨g2, o2, none⟩) L2 c2, .slice (some ⟨g3, o3, none⟩) L3 c3] w fun e w' => e = .returned (.bool true) ∧ Below w.heap.size w w' := by
  have Q : Hid (KBx (w.alloc (.cells #[.int .i64 W, .int .u32 (p : Int), .int .u32 (f : Int), .bool t, .int .u32 (z : Int)] 24)) w.heap.size 24 W p f t z) := KBx.new _ _ _ _ _ _ _
  have B : Hid (Below w.heap.size w (w.alloc (.cells #[.int .i64 W, .int .u32 (p : Int), .int .u32 (f : Int), .bool t, .int .u32 (z : Int)] 24))) := (Below.refl _ _).alloc (Nat.le_refl _) _
  go_enter Try.func6, Try.ntmps6
  go_wp2_with fail
  refine (aw _).mono ?_
  rintro e w1 ⟨rfl, hb⟩
  replace Q : Hid (KBx w1 w.heap.size 24 W p f t z) := Q.out.below hb
  replace B : Hid (Below w.heap.size w w1) := belowT B.out hb
  clear hb
  go_wp2_with fail
  refine (aw _).mono ?_
  rintro e w3 ⟨rfl, hb⟩
  replace B : Hid (Below w.heap.size w w3) := belowT B.out hb
  clear hb
  go_wp2
  go_ret
  exact ⟨rfl, B.out⟩
end Go.Proofs.Ytjbgjiodmhpbbaa
