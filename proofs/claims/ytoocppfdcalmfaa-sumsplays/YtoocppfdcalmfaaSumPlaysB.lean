/-
  The ways through the law on endings (layer 5), out of the contracts. Conditions: as each says.
-/
import Derived.Test.YtoocppfdcalmfaaSumPlaysA
namespace Go.Proofs.Ytoocppfdcalmfaa
open Go.RowKit
set_option linter.unusedVariables false

set_option maxRecDepth 100000 in
set_option maxHeartbeats 4000000 in
theorem splays_no_NN (w : World) (nm : ByteArray) (hs : (nm.size : Int) ≤ 50) (aw : AwC5) (cE : OfNo w nm (.slice none 0 0)) (cS : SzNo nm) (cR : RfNo w nm (.slice none 0 0)) (cG : GdAt w nm (.slice none 0 0) (.slice none 0 0) false) :
    Calls Try.prog 3 #[.string nm, .slice none 0 0, .slice none 0 0] w fun e w' => e = .returned (.bool true) ∧ Below w.heap.size w w' := by
  go_enter Try.func3, Try.ntmps3
  go_wp2_with fail
  refine (aw _).mono ?_
  rintro e w1 ⟨rfl, hb⟩
  have B : Hid (Below w.heap.size w w1) := hb
  clear hb
  go_wp2_with fail
  refine (cE _ B.out).mono ?_
  rintro e w3 ⟨y1, rfl, h1, hb⟩
  have Y1 : Hid (y1 = .slice none 0 0 ∨ ∃ g o cap, y1 = .slice (some ⟨g, o, none⟩) 0 cap) := h1
  replace B : Hid (Below w.heap.size w w3) := belowT B.out hb
  clear hb h1
  go_wp2_with fail
  refine (cS _).mono ?_
  rintro e w4 ⟨rfl, hb⟩
  replace B : Hid (Below w.heap.size w w4) := belowT B.out hb
  clear hb
  go_wp2_with fail
  refine (cR _ B.out).mono ?_
  rintro e w5 ⟨rfl, hb⟩
  replace B : Hid (Below w.heap.size w w5) := belowT B.out hb
  clear hb cE cS cR aw
  rcases Y1.out with rfl | ⟨gy, oy, cy, rfl⟩
  all_goals
    clear Y1
    go_wp2_with fail
    refine (cG _ B.out).mono ?_
    rintro e w6 ⟨rfl, hb⟩
    replace B : Hid (Below w.heap.size w w6) := belowT B.out hb
    clear hb
    go_wp2
    go_ret
    exact ⟨rfl, B.out⟩

set_option maxRecDepth 100000 in
set_option maxHeartbeats 4000000 in
theorem splays_no_NR (w : World) (nm : ByteArray) (hs : (nm.size : Int) ≤ 50) (g2 o2 L2 c2 : Nat) (hl2 : (L2 : Int) ≤ 200) (aw : AwC5) (cE : OfNo w nm (.slice none 0 0)) (cS : SzNo nm) (cR : RfNo w nm (.slice none 0 0)) (cG : GdAt w nm (.slice none 0 0) (.slice (some ⟨g2, o2, none⟩) L2 c2) false) :
    Calls Try.prog 3 #[.string nm, .slice none 0 0, .slice (some ⟨g2, o2, none⟩) L2 c2] w fun e w' => e = .returned (.bool true) ∧ Below w.heap.size w w' := by
  go_enter Try.func3, Try.ntmps3
  go_wp2_with fail
  refine (aw _).mono ?_
  rintro e w1 ⟨rfl, hb⟩
  have B : Hid (Below w.heap.size w w1) := hb
  clear hb
  go_wp2_with fail
  refine (cE _ B.out).mono ?_
  rintro e w3 ⟨y1, rfl, h1, hb⟩
  have Y1 : Hid (y1 = .slice none 0 0 ∨ ∃ g o cap, y1 = .slice (some ⟨g, o, none⟩) 0 cap) := h1
  replace B : Hid (Below w.heap.size w w3) := belowT B.out hb
  clear hb h1
  go_wp2_with fail
  refine (cS _).mono ?_
  rintro e w4 ⟨rfl, hb⟩
  replace B : Hid (Below w.heap.size w w4) := belowT B.out hb
  clear hb
  go_wp2_with fail
  refine (cR _ B.out).mono ?_
  rintro e w5 ⟨rfl, hb⟩
  replace B : Hid (Below w.heap.size w w5) := belowT B.out hb
  clear hb cE cS cR aw
  rcases Y1.out with rfl | ⟨gy, oy, cy, rfl⟩
  all_goals
    clear Y1
    go_wp2_with fail
    refine (cG _ B.out).mono ?_
    rintro e w6 ⟨rfl, hb⟩
    replace B : Hid (Below w.heap.size w w6) := belowT B.out hb
    clear hb
    go_wp2
    go_ret
    exact ⟨rfl, B.out⟩

set_option maxRecDepth 100000 in
set_option maxHeartbeats 4000000 in
theorem splays_no_RN (w : World) (nm : ByteArray) (hs : (nm.size : Int) ≤ 50) (g1 o1 L1 c1 : Nat) (hl1 : (L1 : Int) ≤ 200) (aw : AwC5) (cE : OfNo w nm (.slice (some ⟨g1, o1, none⟩) L1 c1)) (cS : SzNo nm) (cR : RfNo w nm (.slice (some ⟨g1, o1, none⟩) L1 c1)) (cG : GdAt w nm (.slice (some ⟨g1, o1, none⟩) L1 c1) (.slice none 0 0) false) :
    Calls Try.prog 3 #[.string nm, .slice (some ⟨g1, o1, none⟩) L1 c1, .slice none 0 0] w fun e w' => e = .returned (.bool true) ∧ Below w.heap.size w w' := by
  go_enter Try.func3, Try.ntmps3
  go_wp2_with fail
  refine (aw _).mono ?_
  rintro e w1 ⟨rfl, hb⟩
  have B : Hid (Below w.heap.size w w1) := hb
  clear hb
  go_wp2_with fail
  refine (cE _ B.out).mono ?_
  rintro e w3 ⟨y1, rfl, h1, hb⟩
  have Y1 : Hid (y1 = .slice none 0 0 ∨ ∃ g o cap, y1 = .slice (some ⟨g, o, none⟩) 0 cap) := h1
  replace B : Hid (Below w.heap.size w w3) := belowT B.out hb
  clear hb h1
  go_wp2_with fail
  refine (cS _).mono ?_
  rintro e w4 ⟨rfl, hb⟩
  replace B : Hid (Below w.heap.size w w4) := belowT B.out hb
  clear hb
  go_wp2_with fail
  refine (cR _ B.out).mono ?_
  rintro e w5 ⟨rfl, hb⟩
  replace B : Hid (Below w.heap.size w w5) := belowT B.out hb
  clear hb cE cS cR aw
  rcases Y1.out with rfl | ⟨gy, oy, cy, rfl⟩
  all_goals
    clear Y1
    go_wp2_with fail
    refine (cG _ B.out).mono ?_
    rintro e w6 ⟨rfl, hb⟩
    replace B : Hid (Below w.heap.size w w6) := belowT B.out hb
    clear hb
    go_wp2
    go_ret
    exact ⟨rfl, B.out⟩

set_option maxRecDepth 100000 in
set_option maxHeartbeats 4000000 in
theorem splays_no_RR (w : World) (nm : ByteArray) (hs : (nm.size : Int) ≤ 50) (g1 o1 L1 c1 : Nat) (hl1 : (L1 : Int) ≤ 200) (g2 o2 L2 c2 : Nat) (hl2 : (L2 : Int) ≤ 200) (aw : AwC5) (cE : OfNo w nm (.slice (some ⟨g1, o1, none⟩) L1 c1)) (cS : SzNo nm) (cR : RfNo w nm (.slice (some ⟨g1, o1, none⟩) L1 c1)) (cG : GdAt w nm (.slice (some ⟨g1, o1, none⟩) L1 c1) (.slice (some ⟨g2, o2, none⟩) L2 c2) false) :
    Calls Try.prog 3 #[.string nm, .slice (some ⟨g1, o1, none⟩) L1 c1, .slice (some ⟨g2, o2, none⟩) L2 c2] w fun e w' => e = .returned (.bool true) ∧ Below w.heap.size w w' := by
  go_enter Try.func3, Try.ntmps3
  go_wp2_with fail
  refine (aw _).mono ?_
  rintro e w1 ⟨rfl, hb⟩
  have B : Hid (Below w.heap.size w w1) := hb
  clear hb
  go_wp2_with fail
  refine (cE _ B.out).mono ?_
  rintro e w3 ⟨y1, rfl, h1, hb⟩
  have Y1 : Hid (y1 = .slice none 0 0 ∨ ∃ g o cap, y1 = .slice (some ⟨g, o, none⟩) 0 cap) := h1
  replace B : Hid (Below w.heap.size w w3) := belowT B.out hb
  clear hb h1
  go_wp2_with fail
  refine (cS _).mono ?_
  rintro e w4 ⟨rfl, hb⟩
  replace B : Hid (Below w.heap.size w w4) := belowT B.out hb
  clear hb
  go_wp2_with fail
  refine (cR _ B.out).mono ?_
  rintro e w5 ⟨rfl, hb⟩
  replace B : Hid (Below w.heap.size w w5) := belowT B.out hb
  clear hb cE cS cR aw
  rcases Y1.out with rfl | ⟨gy, oy, cy, rfl⟩
  all_goals
    clear Y1
    go_wp2_with fail
    refine (cG _ B.out).mono ?_
    rintro e w6 ⟨rfl, hb⟩
    replace B : Hid (Below w.heap.size w w6) := belowT B.out hb
    clear hb
    go_wp2
    go_ret
    exact ⟨rfl, B.out⟩

set_option maxRecDepth 100000 in
set_option maxHeartbeats 2000000 in
theorem splays_long_b (w : World) (nm : ByteArray) (vc : Value) (g1 o1 L1 c1 : Nat) (hl : 200 < (L1 : Int)) (aw : AwC5) : Calls Try.prog 3 #[.string nm, .slice (some ⟨g1, o1, none⟩) L1 c1, vc] w fun e w' => e = .returned (.bool true) ∧ Below w.heap.size w w' := by
  go_enter Try.func3, Try.ntmps3
  go_wp2_with fail
  refine (aw _).mono ?_
  rintro e w1 ⟨rfl, hb⟩
  have B : Hid (Below w.heap.size w w1) := hb
  clear hb
  go_wp2_with fail
  refine (aw _).mono ?_
  rintro e w2 ⟨rfl, hb⟩
  replace B : Hid (Below w.heap.size w w2) := belowT B.out hb
  clear hb
  go_wp2
  go_ret
  exact ⟨rfl, B.out⟩

set_option maxRecDepth 100000 in
set_option maxHeartbeats 2000000 in
theorem splays_long_oN (w : World) (nm : ByteArray) (g2 o2 L2 c2 : Nat) (hl : 200 < (L2 : Int)) (aw : AwC5) : Calls Try.prog 3 #[.string nm, .slice none 0 0, .slice (some ⟨g2, o2, none⟩) L2 c2] w fun e w' => e = .returned (.bool true) ∧ Below w.heap.size w w' := by
  go_enter Try.func3, Try.ntmps3
  go_wp2_with fail
  refine (aw _).mono ?_
  rintro e w1 ⟨rfl, hb⟩
  have B : Hid (Below w.heap.size w w1) := hb
  clear hb
  go_wp2_with fail
  refine (aw _).mono ?_
  rintro e w2 ⟨rfl, hb⟩
  replace B : Hid (Below w.heap.size w w2) := belowT B.out hb
  clear hb
  go_wp2
  go_ret
  exact ⟨rfl, B.out⟩

set_option maxRecDepth 100000 in
set_option maxHeartbeats 2000000 in
theorem splays_long_oR (w : World) (nm : ByteArray) (g1 o1 L1 c1 g2 o2 L2 c2 : Nat) (hl1 : (L1 : Int) ≤ 200) (hl : 200 < (L2 : Int)) (aw : AwC5) : Calls Try.prog 3 #[.string nm, .slice (some ⟨g1, o1, none⟩) L1 c1, .slice (some ⟨g2, o2, none⟩) L2 c2] w fun e w' => e = .returned (.bool true) ∧ Below w.heap.size w w' := by
  go_enter Try.func3, Try.ntmps3
  go_wp2_with fail
  refine (aw _).mono ?_
  rintro e w1 ⟨rfl, hb⟩
  have B : Hid (Below w.heap.size w w1) := hb
  clear hb
  go_wp2_with fail
  refine (aw _).mono ?_
  rintro e w2 ⟨rfl, hb⟩
  replace B : Hid (Below w.heap.size w w2) := belowT B.out hb
  clear hb
  go_wp2
  go_ret
  exact ⟨rfl, B.out⟩

set_option maxRecDepth 100000 in
set_option maxHeartbeats 2000000 in
theorem splays_long_sNN (w : World) (nm : ByteArray) (hs : 50 < (nm.size : Int)) (aw : AwC5) : Calls Try.prog 3 #[.string nm, .slice none 0 0, .slice none 0 0] w fun e w' => e = .returned (.bool true) ∧ Below w.heap.size w w' := by
  go_enter Try.func3, Try.ntmps3
  go_wp2_with fail
  refine (aw _).mono ?_
  rintro e w1 ⟨rfl, hb⟩
  have B : Hid (Below w.heap.size w w1) := hb
  clear hb
  go_wp2_with fail
  refine (aw _).mono ?_
  rintro e w2 ⟨rfl, hb⟩
  replace B : Hid (Below w.heap.size w w2) := belowT B.out hb
  clear hb
  go_wp2
  go_ret
  exact ⟨rfl, B.out⟩

set_option maxRecDepth 100000 in
set_option maxHeartbeats 2000000 in
theorem splays_long_sNR (w : World) (nm : ByteArray) (g2 o2 L2 c2 : Nat) (hl2 : (L2 : Int) ≤ 200) (hs : 50 < (nm.size : Int)) (aw : AwC5) : Calls Try.prog 3 #[.string nm, .slice none 0 0, .slice (some ⟨g2, o2, none⟩) L2 c2] w fun e w' => e = .returned (.bool true) ∧ Below w.heap.size w w' := by
  go_enter Try.func3, Try.ntmps3
  go_wp2_with fail
  refine (aw _).mono ?_
  rintro e w1 ⟨rfl, hb⟩
  have B : Hid (Below w.heap.size w w1) := hb
  clear hb
  go_wp2_with fail
  refine (aw _).mono ?_
  rintro e w2 ⟨rfl, hb⟩
  replace B : Hid (Below w.heap.size w w2) := belowT B.out hb
  clear hb
  go_wp2
  go_ret
  exact ⟨rfl, B.out⟩

set_option maxRecDepth 100000 in
set_option maxHeartbeats 2000000 in
theorem splays_long_sRN (w : World) (nm : ByteArray) (g1 o1 L1 c1 : Nat) (hl1 : (L1 : Int) ≤ 200) (hs : 50 < (nm.size : Int)) (aw : AwC5) : Calls Try.prog 3 #[.string nm, .slice (some ⟨g1, o1, none⟩) L1 c1, .slice none 0 0] w fun e w' => e = .returned (.bool true) ∧ Below w.heap.size w w' := by
  go_enter Try.func3, Try.ntmps3
  go_wp2_with fail
  refine (aw _).mono ?_
  rintro e w1 ⟨rfl, hb⟩
  have B : Hid (Below w.heap.size w w1) := hb
  clear hb
  go_wp2_with fail
  refine (aw _).mono ?_
  rintro e w2 ⟨rfl, hb⟩
  replace B : Hid (Below w.heap.size w w2) := belowT B.out hb
  clear hb
  go_wp2
  go_ret
  exact ⟨rfl, B.out⟩

set_option maxRecDepth 100000 in
set_option maxHeartbeats 2000000 in
theorem splays_long_sRR (w : World) (nm : ByteArray) (g1 o1 L1 c1 : Nat) (hl1 : (L1 : Int) ≤ 200) (g2 o2 L2 c2 : Nat) (hl2 : (L2 : Int) ≤ 200) (hs : 50 < (nm.size : Int)) (aw : AwC5) : Calls Try.prog 3 #[.string nm, .slice (some ⟨g1, o1, none⟩) L1 c1, .slice (some ⟨g2, o2, none⟩) L2 c2] w fun e w' => e = .returned (.bool true) ∧ Below w.heap.size w w' := by
  go_enter Try.func3, Try.ntmps3
  go_wp2_with fail
  refine (aw _).mono ?_
  rintro e w1 ⟨rfl, hb⟩
  have B : Hid (Below w.heap.size w w1) := hb
  clear hb
  go_wp2_with fail
  refine (aw _).mono ?_
  rintro e w2 ⟨rfl, hb⟩
  replace B : Hid (Below w.heap.size w w2) := belowT B.out hb
  clear hb
  go_wp2
  go_ret
  exact ⟨rfl, B.out⟩

/-- the law, out of the contracts -/
theorem splays_any (h : OfP) (hn : OfN) (hZ : SizeP) (hZn : SizeN) (hG : GoodP) (hGn : GoodN) (w : World) (nm : ByteArray) (v1 : Value) (b1 : List Nat) (hv1 : BytesV w v1 b1) (hb1 : AllBytes b1) (v2 : Value) (b2 : List Nat) (hv2 : BytesV w v2 b2) (hb2 : AllBytes b2) :
    Calls Try.prog 3 #[.string nm, v1, v2] w fun e w' => e = .returned (.bool true) ∧ Below w.heap.size w w' := by
  have aw := awake5 h
  by_cases l1 : (b1.length : Int) ≤ 200
  · by_cases l2 : (b2.length : Int) ≤ 200
    · by_cases ls : (nm.size : Int) ≤ 50
      · rcases which_cases nm with ⟨k, hk, rfl, _⟩ | ⟨_, n0⟩
        · have cE : EndAt w (nameN k) v1 (endK k b1) := fun x hx => h k v1 b1 x hk (hv1.at.below hx) (by omega) hb1
          have cS : SzAt (nameN k) (sizeK k) := fun x => hZ k x hk
          have cR : RfAt w (nameN k) v1 (endK k b1) := fun x hx => rof_yes hk v1 b1 x (hv1.at.below hx) (by omega) hb1
          have el : ((endK k b1).length : Int) ≤ 300 := by rw [end_len hk]; have := size_le hk; omega
          have cW : GdW w (nameN k) v1 (endK k b1) := fun x u hx hu => by
            have q := hG k v1 u b1 (endK k b1) x hk (hv1.at.below hx) (by omega) hb1 hu el (end_bytes hk hb1)
            rwa [decide_eq_true rfl] at q
          have cG : GdAt w (nameN k) v1 v2 (decide (b2 = endK k b1)) := fun x hx => hG k v1 v2 b1 b2 x hk (hv1.at.below hx) (by omega) hb1 (hv2.at.below hx) (by omega) hb2
          have fR := str_eq (end_bytes hk hb1) hb2
          have hO : Hid (BytesAt w v2 b2) := hv2.at
          have ns := name_size hk
          generalize decide (b2 = endK k b1) = R at *
          cases R
          · rcases hv1 with ⟨rfl, rfl⟩ | ⟨g1, o1, c1, rfl, _, _, _, _⟩
            · rcases hv2 with ⟨rfl, rfl⟩ | ⟨g2, o2, c2, rfl, _, _, _, _⟩
              · exact splays_NN_false w _ ns _ _ hO _ (end_len hk _) fR aw cE cS cR cW cG
              · exact splays_NR_false w _ ns g2 o2 _ c2 l2 _ _ hO _ (end_len hk _) fR aw cE cS cR cW cG
            · rcases hv2 with ⟨rfl, rfl⟩ | ⟨g2, o2, c2, rfl, _, _, _, _⟩
              · exact splays_RN_false w _ ns g1 o1 _ c1 l1 _ _ hO _ (end_len hk _) fR aw cE cS cR cW cG
              · exact splays_RR_false w _ ns g1 o1 _ c1 l1 g2 o2 _ c2 l2 _ _ hO _ (end_len hk _) fR aw cE cS cR cW cG
          · rcases hv1 with ⟨rfl, rfl⟩ | ⟨g1, o1, c1, rfl, _, _, _, _⟩
            · rcases hv2 with ⟨rfl, rfl⟩ | ⟨g2, o2, c2, rfl, _, _, _, _⟩
              · exact splays_NN_true w _ ns _ _ hO _ (end_len hk _) fR aw cE cS cR cW cG
              · exact splays_NR_true w _ ns g2 o2 _ c2 l2 _ _ hO _ (end_len hk _) fR aw cE cS cR cW cG
            · rcases hv2 with ⟨rfl, rfl⟩ | ⟨g2, o2, c2, rfl, _, _, _, _⟩
              · exact splays_RN_true w _ ns g1 o1 _ c1 l1 _ _ hO _ (end_len hk _) fR aw cE cS cR cW cG
              · exact splays_RR_true w _ ns g1 o1 _ c1 l1 g2 o2 _ c2 l2 _ _ hO _ (end_len hk _) fR aw cE cS cR cW cG
        · have cE : OfNo w nm v1 := fun x hx => (hn nm v1 b1 x n0 (hv1.at.below hx) (by omega) hb1).mono fun e w' ⟨y, he, hy, hb⟩ => by
            refine ⟨y, he, ?_, hb⟩
            rcases hy with ⟨q, _⟩ | ⟨g, o, cap, q, _⟩
            · exact .inl q
            · exact .inr ⟨g, o, cap, q⟩
          have cS : SzNo nm := fun x => hZn nm x n0
          have cR : RfNo w nm v1 := fun x hx => rof_no nm v1 b1 x (hv1.at.below hx) (by omega) hb1 n0
          have cG : GdAt w nm v1 v2 false := fun x hx => hGn nm v1 v2 b1 b2 x n0 (hv1.at.below hx) (by omega) hb1 (hv2.at.below hx) (by omega) hb2
          rcases hv1 with ⟨rfl, rfl⟩ | ⟨g1, o1, c1, rfl, _, _, _, _⟩
          · rcases hv2 with ⟨rfl, rfl⟩ | ⟨g2, o2, c2, rfl, _, _, _, _⟩
            · exact splays_no_NN w nm ls aw cE cS cR cG
            · exact splays_no_NR w nm ls g2 o2 _ c2 l2 aw cE cS cR cG
          · rcases hv2 with ⟨rfl, rfl⟩ | ⟨g2, o2, c2, rfl, _, _, _, _⟩
            · exact splays_no_RN w nm ls g1 o1 _ c1 l1 aw cE cS cR cG
            · exact splays_no_RR w nm ls g1 o1 _ c1 l1 g2 o2 _ c2 l2 aw cE cS cR cG

      · rcases hv1 with ⟨rfl, rfl⟩ | ⟨g1, o1, c1, rfl, _, _, _, _⟩
        · rcases hv2 with ⟨rfl, rfl⟩ | ⟨g2, o2, c2, rfl, _, _, _, _⟩
          · exact splays_long_sNN w nm (by omega) aw
          · exact splays_long_sNR w nm g2 o2 _ c2 l2 (by omega) aw
        · rcases hv2 with ⟨rfl, rfl⟩ | ⟨g2, o2, c2, rfl, _, _, _, _⟩
          · exact splays_long_sRN w nm g1 o1 _ c1 l1 (by omega) aw
          · exact splays_long_sRR w nm g1 o1 _ c1 l1 g2 o2 _ c2 l2 (by omega) aw
    · rcases hv2 with ⟨rfl, rfl⟩ | ⟨g2, o2, c2, rfl, _, _, _, _⟩
      · simp at l2
      · rcases hv1 with ⟨rfl, rfl⟩ | ⟨g1, o1, c1, rfl, _, _, _, _⟩
        · exact splays_long_oN w nm g2 o2 _ c2 (by omega) aw
        · exact splays_long_oR w nm g1 o1 _ c1 g2 o2 _ c2 l1 (by omega) aw
  · rcases hv1 with ⟨rfl, rfl⟩ | ⟨g1, o1, c1, rfl, _, _, _, _⟩
    · simp at l1
    · exact splays_long_b w nm v2 g1 o1 _ c1 (by omega) aw
end Go.Proofs.Ytoocppfdcalmfaa
