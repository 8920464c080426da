/-
  The ways through the law on endings (layer 5), out of the contracts. Conditions: as each says.
-/
import Derived.Test.YtoocppfdcalmfaaSumPlaysK
namespace Go.Proofs.Ytoocppfdcalmfaa
open Go.RowKit
set_option linter.unusedVariables false

set_option maxRecDepth 100000 in
set_option maxHeartbeats 4000000 in
theorem splays_NN_true (w : World) (nm : ByteArray) (hs : (nm.size : Int) ≤ 50) (E O : List Nat) (hO : Hid (BytesAt w (.slice none 0 0) O)) (N : Nat) (hN : Hid (E.length = N)) (fR : Hid (((strOf E).toList == (strOf O).toList) = true))
    (aw : AwC5) (cE : EndAt w nm (.slice none 0 0) E) (cS : SzAt nm N) (cR : RfAt w nm (.slice none 0 0) E) (cW : GdW w nm (.slice none 0 0) E) (cG : GdAt w nm (.slice none 0 0) (.slice none 0 0) true) :
    Calls Try.prog 3 #[.string nm, .slice none 0 0, .slice none 0 0] w fun e w' => e = .returned (.bool true) ∧ Below w.heap.size w w' := by
  go_enter Try.func3, Try.ntmps3
  go_wp2_with fail
  refine (aw _).mono ?_
  rintro e w1 ⟨rfl, hb⟩
  have B : Hid (Below w.heap.size w w1) := hb
  clear hb
  go_wp2_with fail
  refine (cE _ B.out).mono ?_
  rintro e w3 ⟨y1, rfl, h1, hb⟩
  have Y1 : Hid (BytesAt w3 y1 E) := h1
  replace B : Hid (Below w.heap.size w w3) := belowT B.out hb
  clear hb h1
  go_wp2_with fail
  refine (cS _).mono ?_
  rintro e w4 ⟨rfl, hb⟩
  replace Y1 : Hid (BytesAt w4 y1 E) := Y1.out.below hb
  replace B : Hid (Below w.heap.size w w4) := belowT B.out hb
  clear hb
  go_wp2_with fail
  refine (cR _ B.out).mono ?_
  rintro e w5 ⟨y2, rfl, h2, hb⟩
  have Y2 : Hid (BytesAt w5 y2 E) := h2
  replace Y1 : Hid (BytesAt w5 y1 E) := Y1.out.below hb
  replace B : Hid (Below w.heap.size w w5) := belowT B.out hb
  have Y2f : Hid ((y2 = .slice none 0 0 ∧ N = 0) ∨ ∃ g o cap, y2 = .slice (some ⟨g, o, none⟩) N cap) := by
    rcases h2 with ⟨q1, q2⟩ | ⟨g, o, cap, q1, _⟩
    · left; exact ⟨q1, by rw [← hN.out, q2]; rfl⟩
    · right; rw [hN.out] at q1; exact ⟨g, o, cap, q1⟩
  clear hb h2 cE cS cR aw
  have k1 : ∀ d os, (convert 22 9 y1).run Try.prog (Sort.grow (redrawn w5 d) os) = .ok (.string (strOf E)) (Sort.grow (redrawn w5 d) os) := fun d os => conv_at (Y1.out.below (below_regrown w5 d os))
  have k2 : ∀ d os, (convert 22 9 y2).run Try.prog (Sort.grow (redrawn w5 d) os) = .ok (.string (strOf E)) (Sort.grow (redrawn w5 d) os) := fun d os => conv_at (Y2.out.below (below_regrown w5 d os))
  have k3 : ∀ d os, (convert 22 9 (.slice none 0 0)).run Try.prog (Sort.grow (redrawn w5 d) os) = .ok (.string (strOf O)) (Sort.grow (redrawn w5 d) os) := fun d os => conv_at (hO.out.below (belowT B.out (below_regrown w5 d os)))
  have g1' : Hid (∀ d os, Calls Try.prog 11 #[.string nm, .slice none 0 0, y2] (Sort.grow (redrawn w5 d) os) fun e w' => e = .returned (.bool true) ∧ Below (Sort.grow (redrawn w5 d) os).heap.size (Sort.grow (redrawn w5 d) os) w') := fun d os => cW _ _ (belowT B.out (below_regrown w5 d os)) (Y2.out.below (below_regrown w5 d os))
  have g2' : Hid (∀ d os, Calls Try.prog 11 #[.string nm, .slice none 0 0, .slice none 0 0] (Sort.grow (redrawn w5 d) os) fun e w' => e = .returned (.bool true) ∧ Below (Sort.grow (redrawn w5 d) os).heap.size (Sort.grow (redrawn w5 d) os) w') := fun d os => cG _ (belowT B.out (below_regrown w5 d os))
  have f3 := fR.out
  clear Y1 Y2 hO hN cW cG fR
  generalize strOf E = S1 at *
  generalize strOf O = S2 at *
  rcases Y2f.out with ⟨rfl, rfl⟩ | ⟨gy, oy, cy, rfl⟩
  all_goals
    clear Y2f
    go_wp2_with fail
    refine wp_region_quiet_below (by kernel_rfl) (by kernel_rfl) ?_
    repeat (go_big_quiet_step (first
      | (go_at_call 11; with_reducible exact Calls.regrown_of (g1'.out _ _))
      | (go_at_call 11; with_reducible exact Calls.regrown_of (g2'.out _ _))))
    refine wpQuiet_nil ?_
    intro _ hw'
    obtain ⟨⟨dq, osq⟩, hw''⟩ := hw'
    subst hw''
    replace B : Hid (Below w.heap.size w (Sort.grow (redrawn w5 dq) osq)) := belowT B.out (below_regrown w5 dq osq)
    clear k1 k2 k3 g1' g2'
    go_wp2
    go_ret
    exact ⟨rfl, B.out⟩

set_option maxRecDepth 100000 in
set_option maxHeartbeats 4000000 in
theorem splays_NN_false (w : World) (nm : ByteArray) (hs : (nm.size : Int) ≤ 50) (E O : List Nat) (hO : Hid (BytesAt w (.slice none 0 0) O)) (N : Nat) (hN : Hid (E.length = N)) (fR : Hid (((strOf E).toList == (strOf O).toList) = false))
    (aw : AwC5) (cE : EndAt w nm (.slice none 0 0) E) (cS : SzAt nm N) (cR : RfAt w nm (.slice none 0 0) E) (cW : GdW w nm (.slice none 0 0) E) (cG : GdAt w nm (.slice none 0 0) (.slice none 0 0) false) :
    Calls Try.prog 3 #[.string nm, .slice none 0 0, .slice none 0 0] w fun e w' => e = .returned (.bool true) ∧ Below w.heap.size w w' := by
  go_enter Try.func3, Try.ntmps3
  go_wp2_with fail
  refine (aw _).mono ?_
  rintro e w1 ⟨rfl, hb⟩
  have B : Hid (Below w.heap.size w w1) := hb
  clear hb
  go_wp2_with fail
  refine (cE _ B.out).mono ?_
  rintro e w3 ⟨y1, rfl, h1, hb⟩
  have Y1 : Hid (BytesAt w3 y1 E) := h1
  replace B : Hid (Below w.heap.size w w3) := belowT B.out hb
  clear hb h1
  go_wp2_with fail
  refine (cS _).mono ?_
  rintro e w4 ⟨rfl, hb⟩
  replace Y1 : Hid (BytesAt w4 y1 E) := Y1.out.below hb
  replace B : Hid (Below w.heap.size w w4) := belowT B.out hb
  clear hb
  go_wp2_with fail
  refine (cR _ B.out).mono ?_
  rintro e w5 ⟨y2, rfl, h2, hb⟩
  have Y2 : Hid (BytesAt w5 y2 E) := h2
  replace Y1 : Hid (BytesAt w5 y1 E) := Y1.out.below hb
  replace B : Hid (Below w.heap.size w w5) := belowT B.out hb
  have Y2f : Hid ((y2 = .slice none 0 0 ∧ N = 0) ∨ ∃ g o cap, y2 = .slice (some ⟨g, o, none⟩) N cap) := by
    rcases h2 with ⟨q1, q2⟩ | ⟨g, o, cap, q1, _⟩
    · left; exact ⟨q1, by rw [← hN.out, q2]; rfl⟩
    · right; rw [hN.out] at q1; exact ⟨g, o, cap, q1⟩
  clear hb h2 cE cS cR aw
  have k1 : ∀ d os, (convert 22 9 y1).run Try.prog (Sort.grow (redrawn w5 d) os) = .ok (.string (strOf E)) (Sort.grow (redrawn w5 d) os) := fun d os => conv_at (Y1.out.below (below_regrown w5 d os))
  have k2 : ∀ d os, (convert 22 9 y2).run Try.prog (Sort.grow (redrawn w5 d) os) = .ok (.string (strOf E)) (Sort.grow (redrawn w5 d) os) := fun d os => conv_at (Y2.out.below (below_regrown w5 d os))
  have k3 : ∀ d os, (convert 22 9 (.slice none 0 0)).run Try.prog (Sort.grow (redrawn w5 d) os) = .ok (.string (strOf O)) (Sort.grow (redrawn w5 d) os) := fun d os => conv_at (hO.out.below (belowT B.out (below_regrown w5 d os)))
  have g1' : Hid (∀ d os, Calls Try.prog 11 #[.string nm, .slice none 0 0, y2] (Sort.grow (redrawn w5 d) os) fun e w' => e = .returned (.bool true) ∧ Below (Sort.grow (redrawn w5 d) os).heap.size (Sort.grow (redrawn w5 d) os) w') := fun d os => cW _ _ (belowT B.out (below_regrown w5 d os)) (Y2.out.below (below_regrown w5 d os))
  have g2' : Hid (∀ d os, Calls Try.prog 11 #[.string nm, .slice none 0 0, .slice none 0 0] (Sort.grow (redrawn w5 d) os) fun e w' => e = .returned (.bool false) ∧ Below (Sort.grow (redrawn w5 d) os).heap.size (Sort.grow (redrawn w5 d) os) w') := fun d os => cG _ (belowT B.out (below_regrown w5 d os))
  have f3 := fR.out
  clear Y1 Y2 hO hN cW cG fR
  generalize strOf E = S1 at *
  generalize strOf O = S2 at *
  rcases Y2f.out with ⟨rfl, rfl⟩ | ⟨gy, oy, cy, rfl⟩
  · exfalso
    have q := (k2 0 #[]).symm.trans (k3 0 #[])
    injection q with q1 _
    injection q1 with q2
    rw [q2] at f3
    simp at f3
  all_goals
    clear Y2f
    go_wp2_with fail
    refine wp_region_quiet_below (by kernel_rfl) (by kernel_rfl) ?_
    repeat (go_big_quiet_step (first
      | (go_at_call 11; with_reducible exact Calls.regrown_of (g1'.out _ _))
      | (go_at_call 11; with_reducible exact Calls.regrown_of (g2'.out _ _))))
    refine wpQuiet_nil ?_
    intro _ hw'
    obtain ⟨⟨dq, osq⟩, hw''⟩ := hw'
    subst hw''
    replace B : Hid (Below w.heap.size w (Sort.grow (redrawn w5 dq) osq)) := belowT B.out (below_regrown w5 dq osq)
    clear k1 k2 k3 g1' g2'
    go_wp2
    go_ret
    exact ⟨rfl, B.out⟩

set_option maxRecDepth 100000 in
set_option maxHeartbeats 4000000 in
theorem splays_NR_true (w : World) (nm : ByteArray) (hs : (nm.size : Int) ≤ 50) (g2 o2 L2 c2 : Nat) (hl2 : (L2 : Int) ≤ 200) (E O : List Nat) (hO : Hid (BytesAt w (.slice (some ⟨g2, o2, none⟩) L2 c2) O)) (N : Nat) (hN : Hid (E.length = N)) (fR : Hid (((strOf E).toList == (strOf O).toList) = true))
    (aw : AwC5) (cE : EndAt w nm (.slice none 0 0) E) (cS : SzAt nm N) (cR : RfAt w nm (.slice none 0 0) E) (cW : GdW w nm (.slice none 0 0) E) (cG : GdAt w nm (.slice none 0 0) (.slice (some ⟨g2, o2, none⟩) L2 c2) true) :
    Calls Try.prog 3 #[.string nm, .slice none 0 0, .slice (some ⟨g2, o2, none⟩) L2 c2] w fun e w' => e = .returned (.bool true) ∧ Below w.heap.size w w' := by
  go_enter Try.func3, Try.ntmps3
  go_wp2_with fail
  refine (aw _).mono ?_
  rintro e w1 ⟨rfl, hb⟩
  have B : Hid (Below w.heap.size w w1) := hb
  clear hb
  go_wp2_with fail
  refine (cE _ B.out).mono ?_
  rintro e w3 ⟨y1, rfl, h1, hb⟩
  have Y1 : Hid (BytesAt w3 y1 E) := h1
  replace B : Hid (Below w.heap.size w w3) := belowT B.out hb
  clear hb h1
  go_wp2_with fail
  refine (cS _).mono ?_
  rintro e w4 ⟨rfl, hb⟩
  replace Y1 : Hid (BytesAt w4 y1 E) := Y1.out.below hb
  replace B : Hid (Below w.heap.size w w4) := belowT B.out hb
  clear hb
  go_wp2_with fail
  refine (cR _ B.out).mono ?_
  rintro e w5 ⟨y2, rfl, h2, hb⟩
  have Y2 : Hid (BytesAt w5 y2 E) := h2
  replace Y1 : Hid (BytesAt w5 y1 E) := Y1.out.below hb
  replace B : Hid (Below w.heap.size w w5) := belowT B.out hb
  have Y2f : Hid ((y2 = .slice none 0 0 ∧ N = 0) ∨ ∃ g o cap, y2 = .slice (some ⟨g, o, none⟩) N cap) := by
    rcases h2 with ⟨q1, q2⟩ | ⟨g, o, cap, q1, _⟩
    · left; exact ⟨q1, by rw [← hN.out, q2]; rfl⟩
    · right; rw [hN.out] at q1; exact ⟨g, o, cap, q1⟩
  clear hb h2 cE cS cR aw
  have k1 : ∀ d os, (convert 22 9 y1).run Try.prog (Sort.grow (redrawn w5 d) os) = .ok (.string (strOf E)) (Sort.grow (redrawn w5 d) os) := fun d os => conv_at (Y1.out.below (below_regrown w5 d os))
  have k2 : ∀ d os, (convert 22 9 y2).run Try.prog (Sort.grow (redrawn w5 d) os) = .ok (.string (strOf E)) (Sort.grow (redrawn w5 d) os) := fun d os => conv_at (Y2.out.below (below_regrown w5 d os))
  have k3 : ∀ d os, (convert 22 9 (.slice (some ⟨g2, o2, none⟩) L2 c2)).run Try.prog (Sort.grow (redrawn w5 d) os) = .ok (.string (strOf O)) (Sort.grow (redrawn w5 d) os) := fun d os => conv_at (hO.out.below (belowT B.out (below_regrown w5 d os)))
  have g1' : Hid (∀ d os, Calls Try.prog 11 #[.string nm, .slice none 0 0, y2] (Sort.grow (redrawn w5 d) os) fun e w' => e = .returned (.bool true) ∧ Below (Sort.grow (redrawn w5 d) os).heap.size (Sort.grow (redrawn w5 d) os) w') := fun d os => cW _ _ (belowT B.out (below_regrown w5 d os)) (Y2.out.below (below_regrown w5 d os))
  have g2' : Hid (∀ d os, Calls Try.prog 11 #[.string nm, .slice none 0 0, .slice (some ⟨g2, o2, none⟩) L2 c2] (Sort.grow (redrawn w5 d) os) fun e w' => e = .returned (.bool true) ∧ Below (Sort.grow (redrawn w5 d) os).heap.size (Sort.grow (redrawn w5 d) os) w') := fun d os => cG _ (belowT B.out (below_regrown w5 d os))
  have f3 := fR.out
  clear Y1 Y2 hO hN cW cG fR
  generalize strOf E = S1 at *
  generalize strOf O = S2 at *
  rcases Y2f.out with ⟨rfl, rfl⟩ | ⟨gy, oy, cy, rfl⟩
  all_goals
    clear Y2f
    go_wp2_with fail
    refine wp_region_quiet_below (by kernel_rfl) (by kernel_rfl) ?_
    repeat (go_big_quiet_step (first
      | (go_at_call 11; with_reducible exact Calls.regrown_of (g1'.out _ _))
      | (go_at_call 11; with_reducible exact Calls.regrown_of (g2'.out _ _))))
    refine wpQuiet_nil ?_
    intro _ hw'
    obtain ⟨⟨dq, osq⟩, hw''⟩ := hw'
    subst hw''
    replace B : Hid (Below w.heap.size w (Sort.grow (redrawn w5 dq) osq)) := belowT B.out (below_regrown w5 dq osq)
    clear k1 k2 k3 g1' g2'
    go_wp2
    go_ret
    exact ⟨rfl, B.out⟩

set_option maxRecDepth 100000 in
set_option maxHeartbeats 4000000 in
theorem splays_NR_false (w : World) (nm : ByteArray) (hs : (nm.size : Int) ≤ 50) (g2 o2 L2 c2 : Nat) (hl2 : (L2 : Int) ≤ 200) (E O : List Nat) (hO : Hid (BytesAt w (.slice (some ⟨g2, o2, none⟩) L2 c2) O)) (N : Nat) (hN : Hid (E.length = N)) (fR : Hid (((strOf E).toList == (strOf O).toList) = false))
    (aw : AwC5) (cE : EndAt w nm (.slice none 0 0) E) (cS : SzAt nm N) (cR : RfAt w nm (.slice none 0 0) E) (cW : GdW w nm (.slice none 0 0) E) (cG : GdAt w nm (.slice none 0 0) (.slice (some ⟨g2, o2, none⟩) L2 c2) false) :
    Calls Try.prog 3 #[.string nm, .slice none 0 0, .slice (some ⟨g2, o2, none⟩) L2 c2] w fun e w' => e = .returned (.bool true) ∧ Below w.heap.size w w' := by
  go_enter Try.func3, Try.ntmps3
  go_wp2_with fail
  refine (aw _).mono ?_
  rintro e w1 ⟨rfl, hb⟩
  have B : Hid (Below w.heap.size w w1) := hb
  clear hb
  go_wp2_with fail
  refine (cE _ B.out).mono ?_
  rintro e w3 ⟨y1, rfl, h1, hb⟩
  have Y1 : Hid (BytesAt w3 y1 E) := h1
  replace B : Hid (Below w.heap.size w w3) := belowT B.out hb
  clear hb h1
  go_wp2_with fail
  refine (cS _).mono ?_
  rintro e w4 ⟨rfl, hb⟩
  replace Y1 : Hid (BytesAt w4 y1 E) := Y1.out.below hb
  replace B : Hid (Below w.heap.size w w4) := belowT B.out hb
  clear hb
  go_wp2_with fail
  refine (cR _ B.out).mono ?_
  rintro e w5 ⟨y2, rfl, h2, hb⟩
  have Y2 : Hid (BytesAt w5 y2 E) := h2
  replace Y1 : Hid (BytesAt w5 y1 E) := Y1.out.below hb
  replace B : Hid (Below w.heap.size w w5) := belowT B.out hb
  have Y2f : Hid ((y2 = .slice none 0 0 ∧ N = 0) ∨ ∃ g o cap, y2 = .slice (some ⟨g, o, none⟩) N cap) := by
    rcases h2 with ⟨q1, q2⟩ | ⟨g, o, cap, q1, _⟩
    · left; exact ⟨q1, by rw [← hN.out, q2]; rfl⟩
    · right; rw [hN.out] at q1; exact ⟨g, o, cap, q1⟩
  clear hb h2 cE cS cR aw
  have k1 : ∀ d os, (convert 22 9 y1).run Try.prog (Sort.grow (redrawn w5 d) os) = .ok (.string (strOf E)) (Sort.grow (redrawn w5 d) os) := fun d os => conv_at (Y1.out.below (below_regrown w5 d os))
  have k2 : ∀ d os, (convert 22 9 y2).run Try.prog (Sort.grow (redrawn w5 d) os) = .ok (.string (strOf E)) (Sort.grow (redrawn w5 d) os) := fun d os => conv_at (Y2.out.below (below_regrown w5 d os))
  have k3 : ∀ d os, (convert 22 9 (.slice (some ⟨g2, o2, none⟩) L2 c2)).run Try.prog (Sort.grow (redrawn w5 d) os) = .ok (.string (strOf O)) (Sort.grow (redrawn w5 d) os) := fun d os => conv_at (hO.out.below (belowT B.out (below_regrown w5 d os)))
  have g1' : Hid (∀ d os, Calls Try.prog 11 #[.string nm, .slice none 0 0, y2] (Sort.grow (redrawn w5 d) os) fun e w' => e = .returned (.bool true) ∧ Below (Sort.grow (redrawn w5 d) os).heap.size (Sort.grow (redrawn w5 d) os) w') := fun d os => cW _ _ (belowT B.out (below_regrown w5 d os)) (Y2.out.below (below_regrown w5 d os))
  have g2' : Hid (∀ d os, Calls Try.prog 11 #[.string nm, .slice none 0 0, .slice (some ⟨g2, o2, none⟩) L2 c2] (Sort.grow (redrawn w5 d) os) fun e w' => e = .returned (.bool false) ∧ Below (Sort.grow (redrawn w5 d) os).heap.size (Sort.grow (redrawn w5 d) os) w') := fun d os => cG _ (belowT B.out (below_regrown w5 d os))
  have f3 := fR.out
  clear Y1 Y2 hO hN cW cG fR
  generalize strOf E = S1 at *
  generalize strOf O = S2 at *
  rcases Y2f.out with ⟨rfl, rfl⟩ | ⟨gy, oy, cy, rfl⟩
  all_goals
    clear Y2f
    go_wp2_with fail
    refine wp_region_quiet_below (by kernel_rfl) (by kernel_rfl) ?_
    repeat (go_big_quiet_step (first
      | (go_at_call 11; with_reducible exact Calls.regrown_of (g1'.out _ _))
      | (go_at_call 11; with_reducible exact Calls.regrown_of (g2'.out _ _))))
    refine wpQuiet_nil ?_
    intro _ hw'
    obtain ⟨⟨dq, osq⟩, hw''⟩ := hw'
    subst hw''
    replace B : Hid (Below w.heap.size w (Sort.grow (redrawn w5 dq) osq)) := belowT B.out (below_regrown w5 dq osq)
    clear k1 k2 k3 g1' g2'
    go_wp2
    go_ret
    exact ⟨rfl, B.out⟩

set_option maxRecDepth 100000 in
set_option maxHeartbeats 4000000 in
theorem splays_RN_true (w : World) (nm : ByteArray) (hs : (nm.size : Int) ≤ 50) (g1 o1 L1 c1 : Nat) (hl1 : (L1 : Int) ≤ 200) (E O : List Nat) (hO : Hid (BytesAt w (.slice none 0 0) O)) (N : Nat) (hN : Hid (E.length = N)) (fR : Hid (((strOf E).toList == (strOf O).toList) = true))
    (aw : AwC5) (cE : EndAt w nm (.slice (some ⟨g1, o1, none⟩) L1 c1) E) (cS : SzAt nm N) (cR : RfAt w nm (.slice (some ⟨g1, o1, none⟩) L1 c1) E) (cW : GdW w nm (.slice (some ⟨g1, o1, none⟩) L1 c1) E) (cG : GdAt w nm (.slice (some ⟨g1, o1, none⟩) L1 c1) (.slice none 0 0) true) :
    Calls Try.prog 3 #[.string nm, .slice (some ⟨g1, o1, none⟩) L1 c1, .slice none 0 0] w fun e w' => e = .returned (.bool true) ∧ Below w.heap.size w w' := by
  go_enter Try.func3, Try.ntmps3
  go_wp2_with fail
  refine (aw _).mono ?_
  rintro e w1 ⟨rfl, hb⟩
  have B : Hid (Below w.heap.size w w1) := hb
  clear hb
  go_wp2_with fail
  refine (cE _ B.out).mono ?_
  rintro e w3 ⟨y1, rfl, h1, hb⟩
  have Y1 : Hid (BytesAt w3 y1 E) := h1
  replace B : Hid (Below w.heap.size w w3) := belowT B.out hb
  clear hb h1
  go_wp2_with fail
  refine (cS _).mono ?_
  rintro e w4 ⟨rfl, hb⟩
  replace Y1 : Hid (BytesAt w4 y1 E) := Y1.out.below hb
  replace B : Hid (Below w.heap.size w w4) := belowT B.out hb
  clear hb
  go_wp2_with fail
  refine (cR _ B.out).mono ?_
  rintro e w5 ⟨y2, rfl, h2, hb⟩
  have Y2 : Hid (BytesAt w5 y2 E) := h2
  replace Y1 : Hid (BytesAt w5 y1 E) := Y1.out.below hb
  replace B : Hid (Below w.heap.size w w5) := belowT B.out hb
  have Y2f : Hid ((y2 = .slice none 0 0 ∧ N = 0) ∨ ∃ g o cap, y2 = .slice (some ⟨g, o, none⟩) N cap) := by
    rcases h2 with ⟨q1, q2⟩ | ⟨g, o, cap, q1, _⟩
    · left; exact ⟨q1, by rw [← hN.out, q2]; rfl⟩
    · right; rw [hN.out] at q1; exact ⟨g, o, cap, q1⟩
  clear hb h2 cE cS cR aw
  have k1 : ∀ d os, (convert 22 9 y1).run Try.prog (Sort.grow (redrawn w5 d) os) = .ok (.string (strOf E)) (Sort.grow (redrawn w5 d) os) := fun d os => conv_at (Y1.out.below (below_regrown w5 d os))
  have k2 : ∀ d os, (convert 22 9 y2).run Try.prog (Sort.grow (redrawn w5 d) os) = .ok (.string (strOf E)) (Sort.grow (redrawn w5 d) os) := fun d os => conv_at (Y2.out.below (below_regrown w5 d os))
  have k3 : ∀ d os, (convert 22 9 (.slice none 0 0)).run Try.prog (Sort.grow (redrawn w5 d) os) = .ok (.string (strOf O)) (Sort.grow (redrawn w5 d) os) := fun d os => conv_at (hO.out.below (belowT B.out (below_regrown w5 d os)))
  have g1' : Hid (∀ d os, Calls Try.prog 11 #[.string nm, .slice (some ⟨g1, o1, none⟩) L1 c1, y2] (Sort.grow (redrawn w5 d) os) fun e w' => e = .returned (.bool true) ∧ Below (Sort.grow (redrawn w5 d) os).heap.size (Sort.grow (redrawn w5 d) os) w') := fun d os => cW _ _ (belowT B.out (below_regrown w5 d os)) (Y2.out.below (below_regrown w5 d os))
  have g2' : Hid (∀ d os, Calls Try.prog 11 #[.string nm, .slice (some ⟨g1, o1, none⟩) L1 c1, .slice none 0 0] (Sort.grow (redrawn w5 d) os) fun e w' => e = .returned (.bool true) ∧ Below (Sort.grow (redrawn w5 d) os).heap.size (Sort.grow (redrawn w5 d) os) w') := fun d os => cG _ (belowT B.out (below_regrown w5 d os))
  have f3 := fR.out
  clear Y1 Y2 hO hN cW cG fR
  generalize strOf E = S1 at *
  generalize strOf O = S2 at *
  rcases Y2f.out with ⟨rfl, rfl⟩ | ⟨gy, oy, cy, rfl⟩
  all_goals
    clear Y2f
    go_wp2_with fail
    refine wp_region_quiet_below (by kernel_rfl) (by kernel_rfl) ?_
    repeat (go_big_quiet_step (first
      | (go_at_call 11; with_reducible exact Calls.regrown_of (g1'.out _ _))
      | (go_at_call 11; with_reducible exact Calls.regrown_of (g2'.out _ _))))
    refine wpQuiet_nil ?_
    intro _ hw'
    obtain ⟨⟨dq, osq⟩, hw''⟩ := hw'
    subst hw''
    replace B : Hid (Below w.heap.size w (Sort.grow (redrawn w5 dq) osq)) := belowT B.out (below_regrown w5 dq osq)
    clear k1 k2 k3 g1' g2'
    go_wp2
    go_ret
    exact ⟨rfl, B.out⟩

set_option maxRecDepth 100000 in
set_option maxHeartbeats 4000000 in
theorem splays_RN_false (w : World) (nm : ByteArray) (hs : (nm.size : Int) ≤ 50) (g1 o1 L1 c1 : Nat) (hl1 : (L1 : Int) ≤ 200) (E O : List Nat) (hO : Hid (BytesAt w (.slice none 0 0) O)) (N : Nat) (hN : Hid (E.length = N)) (fR : Hid (((strOf E).toList == (strOf O).toList) = false))
    (aw : AwC5) (cE : EndAt w nm (.slice (some ⟨g1, o1, none⟩) L1 c1) E) (cS : SzAt nm N) (cR : RfAt w nm (.slice (some ⟨g1, o1, none⟩) L1 c1) E) (cW : GdW w nm (.slice (some ⟨g1, o1, none⟩) L1 c1) E) (cG : GdAt w nm (.slice (some ⟨g1, o1, none⟩) L1 c1) (.slice none 0 0) false) :
    Calls Try.prog 3 #[.string nm, .slice (some ⟨g1, o1, none⟩) L1 c1, .slice none 0 0] w fun e w' => e = .returned (.bool true) ∧ Below w.heap.size w w' := by
  go_enter Try.func3, Try.ntmps3
  go_wp2_with fail
  refine (aw _).mono ?_
  rintro e w1 ⟨rfl, hb⟩
  have B : Hid (Below w.heap.size w w1) := hb
  clear hb
  go_wp2_with fail
  refine (cE _ B.out).mono ?_
  rintro e w3 ⟨y1, rfl, h1, hb⟩
  have Y1 : Hid (BytesAt w3 y1 E) := h1
  replace B : Hid (Below w.heap.size w w3) := belowT B.out hb
  clear hb h1
  go_wp2_with fail
  refine (cS _).mono ?_
  rintro e w4 ⟨rfl, hb⟩
  replace Y1 : Hid (BytesAt w4 y1 E) := Y1.out.below hb
  replace B : Hid (Below w.heap.size w w4) := belowT B.out hb
  clear hb
  go_wp2_with fail
  refine (cR _ B.out).mono ?_
  rintro e w5 ⟨y2, rfl, h2, hb⟩
  have Y2 : Hid (BytesAt w5 y2 E) := h2
  replace Y1 : Hid (BytesAt w5 y1 E) := Y1.out.below hb
  replace B : Hid (Below w.heap.size w w5) := belowT B.out hb
  have Y2f : Hid ((y2 = .slice none 0 0 ∧ N = 0) ∨ ∃ g o cap, y2 = .slice (some ⟨g, o, none⟩) N cap) := by
    rcases h2 with ⟨q1, q2⟩ | ⟨g, o, cap, q1, _⟩
    · left; exact ⟨q1, by rw [← hN.out, q2]; rfl⟩
    · right; rw [hN.out] at q1; exact ⟨g, o, cap, q1⟩
  clear hb h2 cE cS cR aw
  have k1 : ∀ d os, (convert 22 9 y1).run Try.prog (Sort.grow (redrawn w5 d) os) = .ok (.string (strOf E)) (Sort.grow (redrawn w5 d) os) := fun d os => conv_at (Y1.out.below (below_regrown w5 d os))
  have k2 : ∀ d os, (convert 22 9 y2).run Try.prog (Sort.grow (redrawn w5 d) os) = .ok (.string (strOf E)) (Sort.grow (redrawn w5 d) os) := fun d os => conv_at (Y2.out.below (below_regrown w5 d os))
  have k3 : ∀ d os, (convert 22 9 (.slice none 0 0)).run Try.prog (Sort.grow (redrawn w5 d) os) = .ok (.string (strOf O)) (Sort.grow (redrawn w5 d) os) := fun d os => conv_at (hO.out.below (belowT B.out (below_regrown w5 d os)))
  have g1' : Hid (∀ d os, Calls Try.prog 11 #[.string nm, .slice (some ⟨g1, o1, none⟩) L1 c1, y2] (Sort.grow (redrawn w5 d) os) fun e w' => e = .returned (.bool true) ∧ Below (Sort.grow (redrawn w5 d) os).heap.size (Sort.grow (redrawn w5 d) os) w') := fun d os => cW _ _ (belowT B.out (below_regrown w5 d os)) (Y2.out.below (below_regrown w5 d os))
  have g2' : Hid (∀ d os, Calls Try.prog 11 #[.string nm, .slice (some ⟨g1, o1, none⟩) L1 c1, .slice none 0 0] (Sort.grow (redrawn w5 d) os) fun e w' => e = .returned (.bool false) ∧ Below (Sort.grow (redrawn w5 d) os).heap.size (Sort.grow (redrawn w5 d) os) w') := fun d os => cG _ (belowT B.out (below_regrown w5 d os))
  have f3 := fR.out
  clear Y1 Y2 hO hN cW cG fR
  generalize strOf E = S1 at *
  generalize strOf O = S2 at *
  rcases Y2f.out with ⟨rfl, rfl⟩ | ⟨gy, oy, cy, rfl⟩
  · exfalso
    have q := (k2 0 #[]).symm.trans (k3 0 #[])
    injection q with q1 _
    injection q1 with q2
    rw [q2] at f3
    simp at f3
  all_goals
    clear Y2f
    go_wp2_with fail
    refine wp_region_quiet_below (by kernel_rfl) (by kernel_rfl) ?_
    repeat (go_big_quiet_step (first
      | (go_at_call 11; with_reducible exact Calls.regrown_of (g1'.out _ _))
      | (go_at_call 11; with_reducible exact Calls.regrown_of (g2'.out _ _))))
    refine wpQuiet_nil ?_
    intro _ hw'
    obtain ⟨⟨dq, osq⟩, hw''⟩ := hw'
    subst hw''
    replace B : Hid (Below w.heap.size w (Sort.grow (redrawn w5 dq) osq)) := belowT B.out (below_regrown w5 dq osq)
    clear k1 k2 k3 g1' g2'
    go_wp2
    go_ret
    exact ⟨rfl, B.out⟩

set_option maxRecDepth 100000 in
set_option maxHeartbeats 4000000 in
theorem splays_RR_true (w : World) (nm : ByteArray) (hs : (nm.size : Int) ≤ 50) (g1 o1 L1 c1 : Nat) (hl1 : (L1 : Int) ≤ 200) (g2 o2 L2 c2 : Nat) (hl2 : (L2 : Int) ≤ 200) (E O : List Nat) (hO : Hid (BytesAt w (.slice (some ⟨g2, o2, none⟩) L2 c2) O)) (N : Nat) (hN : Hid (E.length = N)) (fR : Hid (((strOf E).toList == (strOf O).toList) = true))
    (aw : AwC5) (cE : EndAt w nm (.slice (some ⟨g1, o1, none⟩) L1 c1) E) (cS : SzAt nm N) (cR : RfAt w nm (.slice (some ⟨g1, o1, none⟩) L1 c1) E) (cW : GdW w nm (.slice (some ⟨g1, o1, none⟩) L1 c1) E) (cG : GdAt w nm (.slice (some ⟨g1, o1, none⟩) L1 c1) (.slice (some ⟨g2, o2, none⟩) L2 c2) true) :
    Calls Try.prog 3 #[.string nm, .slice (some ⟨g1, o1, none⟩) L1 c1, .slice (some ⟨g2, o2, none⟩) L2 c2] w fun e w' => e = .returned (.bool true) ∧ Below w.heap.size w w' := by
  go_enter Try.func3, Try.ntmps3
  go_wp2_with fail
  refine (aw _).mono ?_
  rintro e w1 ⟨rfl, hb⟩
  have B : Hid (Below w.heap.size w w1) := hb
  clear hb
  go_wp2_with fail
  refine (cE _ B.out).mono ?_
  rintro e w3 ⟨y1, rfl, h1, hb⟩
  have Y1 : Hid (BytesAt w3 y1 E) := h1
  replace B : Hid (Below w.heap.size w w3) := belowT B.out hb
  clear hb h1
  go_wp2_with fail
  refine (cS _).mono ?_
  rintro e w4 ⟨rfl, hb⟩
  replace Y1 : Hid (BytesAt w4 y1 E) := Y1.out.below hb
  replace B : Hid (Below w.heap.size w w4) := belowT B.out hb
  clear hb
  go_wp2_with fail
  refine (cR _ B.out).mono ?_
  rintro e w5 ⟨y2, rfl, h2, hb⟩
  have Y2 : Hid (BytesAt w5 y2 E) := h2
  replace Y1 : Hid (BytesAt w5 y1 E) := Y1.out.below hb
  replace B : Hid (Below w.heap.size w w5) := belowT B.out hb
  have Y2f : Hid ((y2 = .slice none 0 0 ∧ N = 0) ∨ ∃ g o cap, y2 = .slice (some ⟨g, o, none⟩) N cap) := by
    rcases h2 with ⟨q1, q2⟩ | ⟨g, o, cap, q1, _⟩
    · left; exact ⟨q1, by rw [← hN.out, q2]; rfl⟩
    · right; rw [hN.out] at q1; exact ⟨g, o, cap, q1⟩
  clear hb h2 cE cS cR aw
  have k1 : ∀ d os, (convert 22 9 y1).run Try.prog (Sort.grow (redrawn w5 d) os) = .ok (.string (strOf E)) (Sort.grow (redrawn w5 d) os) := fun d os => conv_at (Y1.out.below (below_regrown w5 d os))
  have k2 : ∀ d os, (convert 22 9 y2).run Try.prog (Sort.grow (redrawn w5 d) os) = .ok (.string (strOf E)) (Sort.grow (redrawn w5 d) os) := fun d os => conv_at (Y2.out.below (below_regrown w5 d os))
  have k3 : ∀ d os, (convert 22 9 (.slice (some ⟨g2, o2, none⟩) L2 c2)).run Try.prog (Sort.grow (redrawn w5 d) os) = .ok (.string (strOf O)) (Sort.grow (redrawn w5 d) os) := fun d os => conv_at (hO.out.below (belowT B.out (below_regrown w5 d os)))
  have g1' : Hid (∀ d os, Calls Try.prog 11 #[.string nm, .slice (some ⟨g1, o1, none⟩) L1 c1, y2] (Sort.grow (redrawn w5 d) os) fun e w' => e = .returned (.bool true) ∧ Below (Sort.grow (redrawn w5 d) os).heap.size (Sort.grow (redrawn w5 d) os) w') := fun d os => cW _ _ (belowT B.out (below_regrown w5 d os)) (Y2.out.below (below_regrown w5 d os))
  have g2' : Hid (∀ d os, Calls Try.prog 11 #[.string nm, .slice (some ⟨g1, o1, none⟩) L1 c1, .slice (some ⟨g2, o2, none⟩) L2 c2] (Sort.grow (redrawn w5 d) os) fun e w' => e = .returned (.bool true) ∧ Below (Sort.grow (redrawn w5 d) os).heap.size (Sort.grow (redrawn w5 d) os) w') := fun d os => cG _ (belowT B.out (below_regrown w5 d os))
  have f3 := fR.out
  clear Y1 Y2 hO hN cW cG fR
  generalize strOf E = S1 at *
  generalize strOf O = S2 at *
  rcases Y2f.out with ⟨rfl, rfl⟩ | ⟨gy, oy, cy, rfl⟩
  all_goals
    clear Y2f
    go_wp2_with fail
    refine wp_region_quiet_below (by kernel_rfl) (by kernel_rfl) ?_
    repeat (go_big_quiet_step (first
      | (go_at_call 11; with_reducible exact Calls.regrown_of (g1'.out _ _))
      | (go_at_call 11; with_reducible exact Calls.regrown_of (g2'.out _ _))))
    refine wpQuiet_nil ?_
    intro _ hw'
    obtain ⟨⟨dq, osq⟩, hw''⟩ := hw'
    subst hw''
    replace B : Hid (Below w.heap.size w (Sort.grow (redrawn w5 dq) osq)) := belowT B.out (below_regrown w5 dq osq)
    clear k1 k2 k3 g1' g2'
    go_wp2
    go_ret
    exact ⟨rfl, B.out⟩

set_option maxRecDepth 100000 in
set_option maxHeartbeats 4000000 in
theorem splays_RR_false (w : World) (nm : ByteArray) (hs : (nm.size : Int) ≤ 50) (g1 o1 L1 c1 : Nat) (hl1 : (L1 : Int) ≤ 200) (g2 o2 L2 c2 : Nat) (hl2 : (L2 : Int) ≤ 200) (E O : List Nat) (hO : Hid (BytesAt w (.slice (some ⟨g2, o2, none⟩) L2 c2) O)) (N : Nat) (hN : Hid (E.length = N)) (fR : Hid (((strOf E).toList == (strOf O).toList) = false))
    (aw : AwC5) (cE : EndAt w nm (.slice (some ⟨g1, o1, none⟩) L1 c1) E) (cS : SzAt nm N) (cR : RfAt w nm (.slice (some ⟨g1, o1, none⟩) L1 c1) E) (cW : GdW w nm (.slice (some ⟨g1, o1, none⟩) L1 c1) E) (cG : GdAt w nm (.slice (some ⟨g1, o1, none⟩) L1 c1) (.slice (some ⟨g2, o2, none⟩) L2 c2) false) :
    Calls Try.prog 3 #[.string nm, .slice (some ⟨g1, o1, none⟩) L1 c1, .slice (some ⟨g2, o2, none⟩) L2 c2] w fun e w' => e = .returned (.bool true) ∧ Below w.heap.size w w' := by
  go_enter Try.func3, Try.ntmps3
  go_wp2_with fail
  refine (aw _).mono ?_
  rintro e w1 ⟨rfl, hb⟩
  have B : Hid (Below w.heap.size w w1) := hb
  clear hb
  go_wp2_with fail
  refine (cE _ B.out).mono ?_
  rintro e w3 ⟨y1, rfl, h1, hb⟩
  have Y1 : Hid (BytesAt w3 y1 E) := h1
  replace B : Hid (Below w.heap.size w w3) := belowT B.out hb
  clear hb h1
  go_wp2_with fail
  refine (cS _).mono ?_
  rintro e w4 ⟨rfl, hb⟩
  replace Y1 : Hid (BytesAt w4 y1 E) := Y1.out.below hb
  replace B : Hid (Below w.heap.size w w4) := belowT B.out hb
  clear hb
  go_wp2_with fail
  refine (cR _ B.out).mono ?_
  rintro e w5 ⟨y2, rfl, h2, hb⟩
  have Y2 : Hid (BytesAt w5 y2 E) := h2
  replace Y1 : Hid (BytesAt w5 y1 E) := Y1.out.below hb
  replace B : Hid (Below w.heap.size w w5) := belowT B.out hb
  have Y2f : Hid ((y2 = .slice none 0 0 ∧ N = 0) ∨ ∃ g o cap, y2 = .slice (some ⟨g, o, none⟩) N cap) := by
    rcases h2 with ⟨q1, q2⟩ | ⟨g, o, cap, q1, _⟩
    · left; exact ⟨q1, by rw [← hN.out, q2]; rfl⟩
    · right; rw [hN.out] at q1; exact ⟨g, o, cap, q1⟩
  clear hb h2 cE cS cR aw
  have k1 : ∀ d os, (convert 22 9 y1).run Try.prog (Sort.grow (redrawn w5 d) os) = .ok (.string (strOf E)) (Sort.grow (redrawn w5 d) os) := fun d os => conv_at (Y1.out.below (below_regrown w5 d os))
  have k2 : ∀ d os, (convert 22 9 y2).run Try.prog (Sort.grow (redrawn w5 d) os) = .ok (.string (strOf E)) (Sort.grow (redrawn w5 d) os) := fun d os => conv_at (Y2.out.below (below_regrown w5 d os))
  have k3 : ∀ d os, (convert 22 9 (.slice (some ⟨g2, o2, none⟩) L2 c2)).run Try.prog (Sort.grow (redrawn w5 d) os) = .ok (.string (strOf O)) (Sort.grow (redrawn w5 d) os) := fun d os => conv_at (hO.out.below (belowT B.out (below_regrown w5 d os)))
  have g1' : Hid (∀ d os, Calls Try.prog 11 #[.string nm, .slice (some ⟨g1, o1, none⟩) L1 c1, y2] (Sort.grow (redrawn w5 d) os) fun e w' => e = .returned (.bool true) ∧ Below (Sort.grow (redrawn w5 d) os).heap.size (Sort.grow (redrawn w5 d) os) w') := fun d os => cW _ _ (belowT B.out (below_regrown w5 d os)) (Y2.out.below (below_regrown w5 d os))
  have g2' : Hid (∀ d os, Calls Try.prog 11 #[.string nm, .slice (some ⟨g1, o1, none⟩) L1 c1, .slice (some ⟨g2, o2, none⟩) L2 c2] (Sort.grow (redrawn w5 d) os) fun e w' => e = .returned (.bool false) ∧ Below (Sort.grow (redrawn w5 d) os).heap.size (Sort.grow (redrawn w5 d) os) w') := fun d os => cG _ (belowT B.out (below_regrown w5 d os))
  have f3 := fR.out
  clear Y1 Y2 hO hN cW cG fR
  generalize strOf E = S1 at *
  generalize strOf O = S2 at *
  rcases Y2f.out with ⟨rfl, rfl⟩ | ⟨gy, oy, cy, rfl⟩
  all_goals
    clear Y2f
    go_wp2_with fail
    refine wp_region_quiet_below (by kernel_rfl) (by kernel_rfl) ?_
    repeat (go_big_quiet_step (first
      | (go_at_call 11; with_reducible exact Calls.regrown_of (g1'.out _ _))
      | (go_at_call 11; with_reducible exact Calls.regrown_of (g2'.out _ _))))
    refine wpQuiet_nil ?_
    intro _ hw'
    obtain ⟨⟨dq, osq⟩, hw''⟩ := hw'
    subst hw''
    replace B : Hid (Below w.heap.size w (Sort.grow (redrawn w5 dq) osq)) := belowT B.out (below_regrown w5 dq osq)
    clear k1 k2 k3 g1' g2'
    go_wp2
    go_ret
    exact ⟨rfl, B.out⟩
end Go.Proofs.Ytoocppfdcalmfaa
