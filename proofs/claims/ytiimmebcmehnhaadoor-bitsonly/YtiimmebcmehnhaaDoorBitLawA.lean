/-
  The ways through the law on numbers in bytes (layer 6), out of the contracts. Conditions: as each says.
-/
import Derived.Test.YtiimmebcmehnhaaDoorBitCon
namespace Go.Proofs.YtiimmebcmehnhaaDoor
open Go.RowKit
set_option linter.unusedVariables false

set_option maxRecDepth 100000 in
set_option maxHeartbeats 4000000 in
theorem breads_N_t_no (w : World) (s : ByteArray) (hs : (s.size : Int) ≤ 50) (n X Y : Int) (aw : AwC6) (cRd : RdAt w s (.slice none 0 0) 0 1) (cE : EnC s n X Y) (cr : rRgC s n true) (cR : RgC s n true) (ce : rEnC s n X Y) (c2 : rRgC s 0 false) :
    Calls Tryd.prog 3 #[.string s, .slice none 0 0, .int .i64 n] w fun e w' => e = .returned (.bool true) ∧ Below w.heap.size w w' := by
  go_enter Tryd.func3, Tryd.ntmps3
  go_wp2_with fail
  refine (aw _).mono ?_
  rintro e w1 ⟨rfl, hb⟩
  have B : Hid (Below w.heap.size w w1) := hb
  clear hb
  go_wp2_with fail
  refine (cRd _ B.out).mono ?_
  rintro e w2 ⟨rfl, hb⟩
  replace B : Hid (Below w.heap.size w w2) := belowT B.out hb
  clear hb cRd
  go_wp2_with fail
  refine (cE _).mono ?_
  rintro e w3 ⟨rfl, hb⟩
  replace B : Hid (Below w.heap.size w w3) := belowT B.out hb
  clear hb cE
  go_wp2_with fail
  refine (cr _).mono ?_
  rintro e w4 ⟨rfl, hb⟩
  replace B : Hid (Below w.heap.size w w4) := belowT B.out hb
  clear hb cr
  go_wp2_with fail
  refine (cR _).mono ?_
  rintro e w5 ⟨rfl, hb⟩
  replace B : Hid (Below w.heap.size w w5) := belowT B.out hb
  clear hb cR
  go_wp2_with fail
  refine (ce _).mono ?_
  rintro e w6 ⟨rfl, hb⟩
  replace B : Hid (Below w.heap.size w w6) := belowT B.out hb
  clear hb ce
  go_wp2_with fail
  refine (c2 _).mono ?_
  rintro e w7 ⟨rfl, hb⟩
  replace B : Hid (Below w.heap.size w w7) := belowT B.out hb
  clear hb c2
  go_wp2
  go_ret
  exact ⟨rfl, B.out⟩

set_option maxRecDepth 100000 in
set_option maxHeartbeats 4000000 in
theorem breads_N_f_no (w : World) (s : ByteArray) (hs : (s.size : Int) ≤ 50) (n : Int) (aw : AwC6) (cRd : RdAt w s (.slice none 0 0) 0 1) (cE : EnC s n 0 0) (cr : rRgC s n false) (cR : RgC s n false) (c2 : rRgC s 0 false) :
    Calls Tryd.prog 3 #[.string s, .slice none 0 0, .int .i64 n] w fun e w' => e = .returned (.bool true) ∧ Below w.heap.size w w' := by
  go_enter Tryd.func3, Tryd.ntmps3
  go_wp2_with fail
  refine (aw _).mono ?_
  rintro e w1 ⟨rfl, hb⟩
  have B : Hid (Below w.heap.size w w1) := hb
  clear hb
  go_wp2_with fail
  refine (cRd _ B.out).mono ?_
  rintro e w2 ⟨rfl, hb⟩
  replace B : Hid (Below w.heap.size w w2) := belowT B.out hb
  clear hb cRd
  go_wp2_with fail
  refine (cE _).mono ?_
  rintro e w3 ⟨rfl, hb⟩
  replace B : Hid (Below w.heap.size w w3) := belowT B.out hb
  clear hb cE
  go_wp2_with fail
  refine (cr _).mono ?_
  rintro e w4 ⟨rfl, hb⟩
  replace B : Hid (Below w.heap.size w w4) := belowT B.out hb
  clear hb cr
  go_wp2_with fail
  refine (cR _).mono ?_
  rintro e w5 ⟨rfl, hb⟩
  replace B : Hid (Below w.heap.size w w5) := belowT B.out hb
  clear hb cR
  go_wp2_with fail
  refine (c2 _).mono ?_
  rintro e w6 ⟨rfl, hb⟩
  replace B : Hid (Below w.heap.size w w6) := belowT B.out hb
  clear hb c2
  go_wp2
  go_ret
  exact ⟨rfl, B.out⟩

set_option maxRecDepth 100000 in
set_option maxHeartbeats 4000000 in
theorem breads_R_t_no (w : World) (s : ByteArray) (hs : (s.size : Int) ≤ 50) (g o L cap : Nat) (hL : (L : Int) ≤ 100) (n X Y : Int) (aw : AwC6) (cRd : RdAt w s (.slice (some ⟨g, o, none⟩) L cap) 0 1) (cE : EnC s n X Y) (cr : rRgC s n true) (cR : RgC s n true) (ce : rEnC s n X Y) (c2 : rRgC s (L : Int) false) :
    Calls Tryd.prog 3 #[.string s, .slice (some ⟨g, o, none⟩) L cap, .int .i64 n] w fun e w' => e = .returned (.bool true) ∧ Below w.heap.size w w' := by
  go_enter Tryd.func3, Tryd.ntmps3
  go_wp2_with fail
  refine (aw _).mono ?_
  rintro e w1 ⟨rfl, hb⟩
  have B : Hid (Below w.heap.size w w1) := hb
  clear hb
  go_wp2_with fail
  refine (cRd _ B.out).mono ?_
  rintro e w2 ⟨rfl, hb⟩
  replace B : Hid (Below w.heap.size w w2) := belowT B.out hb
  clear hb cRd
  go_wp2_with fail
  refine (cE _).mono ?_
  rintro e w3 ⟨rfl, hb⟩
  replace B : Hid (Below w.heap.size w w3) := belowT B.out hb
  clear hb cE
  go_wp2_with fail
  refine (cr _).mono ?_
  rintro e w4 ⟨rfl, hb⟩
  replace B : Hid (Below w.heap.size w w4) := belowT B.out hb
  clear hb cr
  go_wp2_with fail
  refine (cR _).mono ?_
  rintro e w5 ⟨rfl, hb⟩
  replace B : Hid (Below w.heap.size w w5) := belowT B.out hb
  clear hb cR
  go_wp2_with fail
  refine (ce _).mono ?_
  rintro e w6 ⟨rfl, hb⟩
  replace B : Hid (Below w.heap.size w w6) := belowT B.out hb
  clear hb ce
  go_wp2_with fail
  refine (c2 _).mono ?_
  rintro e w7 ⟨rfl, hb⟩
  replace B : Hid (Below w.heap.size w w7) := belowT B.out hb
  clear hb c2
  go_wp2
  go_ret
  exact ⟨rfl, B.out⟩

set_option maxRecDepth 100000 in
set_option maxHeartbeats 4000000 in
theorem breads_R_t_ok (w : World) (s : ByteArray) (hs : (s.size : Int) ≤ 50) (g o L cap : Nat) (hL : (L : Int) ≤ 100) (n X Y N : Int) (aw : AwC6) (cRd : RdAt w s (.slice (some ⟨g, o, none⟩) L cap) N 0) (cE : EnC s n X Y) (cr : rRgC s n true) (cR : RgC s n true) (ce : rEnC s n X Y) (c2 : rRgC s (L : Int) true) (c3 : rRdAt w s (.slice (some ⟨g, o, none⟩) L cap) N true) :
    Calls Tryd.prog 3 #[.string s, .slice (some ⟨g, o, none⟩) L cap, .int .i64 n] w fun e w' => e = .returned (.bool true) ∧ Below w.heap.size w w' := by
  go_enter Tryd.func3, Tryd.ntmps3
  go_wp2_with fail
  refine (aw _).mono ?_
  rintro e w1 ⟨rfl, hb⟩
  have B : Hid (Below w.heap.size w w1) := hb
  clear hb
  go_wp2_with fail
  refine (cRd _ B.out).mono ?_
  rintro e w2 ⟨rfl, hb⟩
  replace B : Hid (Below w.heap.size w w2) := belowT B.out hb
  clear hb cRd
  go_wp2_with fail
  refine (cE _).mono ?_
  rintro e w3 ⟨rfl, hb⟩
  replace B : Hid (Below w.heap.size w w3) := belowT B.out hb
  clear hb cE
  go_wp2_with fail
  refine (cr _).mono ?_
  rintro e w4 ⟨rfl, hb⟩
  replace B : Hid (Below w.heap.size w w4) := belowT B.out hb
  clear hb cr
  go_wp2_with fail
  refine (cR _).mono ?_
  rintro e w5 ⟨rfl, hb⟩
  replace B : Hid (Below w.heap.size w w5) := belowT B.out hb
  clear hb cR
  go_wp2_with fail
  refine (ce _).mono ?_
  rintro e w6 ⟨rfl, hb⟩
  replace B : Hid (Below w.heap.size w w6) := belowT B.out hb
  clear hb ce
  go_wp2_with fail
  refine (c2 _).mono ?_
  rintro e w7 ⟨rfl, hb⟩
  replace B : Hid (Below w.heap.size w w7) := belowT B.out hb
  clear hb c2
  go_wp2_with fail
  refine (c3 _ B.out).mono ?_
  rintro e w8 ⟨rfl, hb⟩
  replace B : Hid (Below w.heap.size w w8) := belowT B.out hb
  clear hb c3
  go_wp2
  go_ret
  exact ⟨rfl, B.out⟩

set_option maxRecDepth 100000 in
set_option maxHeartbeats 4000000 in
theorem breads_R_t_bad (w : World) (s : ByteArray) (hs : (s.size : Int) ≤ 50) (g o L cap : Nat) (hL : (L : Int) ≤ 100) (n X Y : Int) (aw : AwC6) (cRd : RdAt w s (.slice (some ⟨g, o, none⟩) L cap) 0 6) (cE : EnC s n X Y) (cr : rRgC s n true) (cR : RgC s n true) (ce : rEnC s n X Y) (c2 : rRgC s (L : Int) true) (c3 : rRdAt w s (.slice (some ⟨g, o, none⟩) L cap) 0 false) :
    Calls Tryd.prog 3 #[.string s, .slice (some ⟨g, o, none⟩) L cap, .int .i64 n] w fun e w' => e = .returned (.bool true) ∧ Below w.heap.size w w' := by
  go_enter Tryd.func3, Tryd.ntmps3
  go_wp2_with fail
  refine (aw _).mono ?_
  rintro e w1 ⟨rfl, hb⟩
  have B : Hid (Below w.heap.size w w1) := hb
  clear hb
  go_wp2_with fail
  refine (cRd _ B.out).mono ?_
  rintro e w2 ⟨rfl, hb⟩
  replace B : Hid (Below w.heap.size w w2) := belowT B.out hb
  clear hb cRd
  go_wp2_with fail
  refine (cE _).mono ?_
  rintro e w3 ⟨rfl, hb⟩
  replace B : Hid (Below w.heap.size w w3) := belowT B.out hb
  clear hb cE
  go_wp2_with fail
  refine (cr _).mono ?_
  rintro e w4 ⟨rfl, hb⟩
  replace B : Hid (Below w.heap.size w w4) := belowT B.out hb
  clear hb cr
  go_wp2_with fail
  refine (cR _).mono ?_
  rintro e w5 ⟨rfl, hb⟩
  replace B : Hid (Below w.heap.size w w5) := belowT B.out hb
  clear hb cR
  go_wp2_with fail
  refine (ce _).mono ?_
  rintro e w6 ⟨rfl, hb⟩
  replace B : Hid (Below w.heap.size w w6) := belowT B.out hb
  clear hb ce
  go_wp2_with fail
  refine (c2 _).mono ?_
  rintro e w7 ⟨rfl, hb⟩
  replace B : Hid (Below w.heap.size w w7) := belowT B.out hb
  clear hb c2
  go_wp2_with fail
  refine (c3 _ B.out).mono ?_
  rintro e w8 ⟨rfl, hb⟩
  replace B : Hid (Below w.heap.size w w8) := belowT B.out hb
  clear hb c3
  go_wp2
  go_ret
  exact ⟨rfl, B.out⟩

set_option maxRecDepth 100000 in
set_option maxHeartbeats 4000000 in
theorem breads_R_f_no (w : World) (s : ByteArray) (hs : (s.size : Int) ≤ 50) (g o L cap : Nat) (hL : (L : Int) ≤ 100) (n : Int) (aw : AwC6) (cRd : RdAt w s (.slice (some ⟨g, o, none⟩) L cap) 0 1) (cE : EnC s n 0 0) (cr : rRgC s n false) (cR : RgC s n false) (c2 : rRgC s (L : Int) false) :
    Calls Tryd.prog 3 #[.string s, .slice (some ⟨g, o, none⟩) L cap, .int .i64 n] w fun e w' => e = .returned (.bool true) ∧ Below w.heap.size w w' := by
  go_enter Tryd.func3, Tryd.ntmps3
  go_wp2_with fail
  refine (aw _).mono ?_
  rintro e w1 ⟨rfl, hb⟩
  have B : Hid (Below w.heap.size w w1) := hb
  clear hb
  go_wp2_with fail
  refine (cRd _ B.out).mono ?_
  rintro e w2 ⟨rfl, hb⟩
  replace B : Hid (Below w.heap.size w w2) := belowT B.out hb
  clear hb cRd
  go_wp2_with fail
  refine (cE _).mono ?_
  rintro e w3 ⟨rfl, hb⟩
  replace B : Hid (Below w.heap.size w w3) := belowT B.out hb
  clear hb cE
  go_wp2_with fail
  refine (cr _).mono ?_
  rintro e w4 ⟨rfl, hb⟩
  replace B : Hid (Below w.heap.size w w4) := belowT B.out hb
  clear hb cr
  go_wp2_with fail
  refine (cR _).mono ?_
  rintro e w5 ⟨rfl, hb⟩
  replace B : Hid (Below w.heap.size w w5) := belowT B.out hb
  clear hb cR
  go_wp2_with fail
  refine (c2 _).mono ?_
  rintro e w6 ⟨rfl, hb⟩
  replace B : Hid (Below w.heap.size w w6) := belowT B.out hb
  clear hb c2
  go_wp2
  go_ret
  exact ⟨rfl, B.out⟩

set_option maxRecDepth 100000 in
set_option maxHeartbeats 4000000 in
theorem breads_R_f_ok (w : World) (s : ByteArray) (hs : (s.size : Int) ≤ 50) (g o L cap : Nat) (hL : (L : Int) ≤ 100) (n N : Int) (aw : AwC6) (cRd : RdAt w s (.slice (some ⟨g, o, none⟩) L cap) N 0) (cE : EnC s n 0 0) (cr : rRgC s n false) (cR : RgC s n false) (c2 : rRgC s (L : Int) true) (c3 : rRdAt w s (.slice (some ⟨g, o, none⟩) L cap) N true) :
    Calls Tryd.prog 3 #[.string s, .slice (some ⟨g, o, none⟩) L cap, .int .i64 n] w fun e w' => e = .returned (.bool true) ∧ Below w.heap.size w w' := by
  go_enter Tryd.func3, Tryd.ntmps3
  go_wp2_with fail
  refine (aw _).mono ?_
  rintro e w1 ⟨rfl, hb⟩
  have B : Hid (Below w.heap.size w w1) := hb
  clear hb
  go_wp2_with fail
  refine (cRd _ B.out).mono ?_
  rintro e w2 ⟨rfl, hb⟩
  replace B : Hid (Below w.heap.size w w2) := belowT B.out hb
  clear hb cRd
  go_wp2_with fail
  refine (cE _).mono ?_
  rintro e w3 ⟨rfl, hb⟩
  replace B : Hid (Below w.heap.size w w3) := belowT B.out hb
  clear hb cE
  go_wp2_with fail
  refine (cr _).mono ?_
  rintro e w4 ⟨rfl, hb⟩
  replace B : Hid (Below w.heap.size w w4) := belowT B.out hb
  clear hb cr
  go_wp2_with fail
  refine (cR _).mono ?_
  rintro e w5 ⟨rfl, hb⟩
  replace B : Hid (Below w.heap.size w w5) := belowT B.out hb
  clear hb cR
  go_wp2_with fail
  refine (c2 _).mono ?_
  rintro e w6 ⟨rfl, hb⟩
  replace B : Hid (Below w.heap.size w w6) := belowT B.out hb
  clear hb c2
  go_wp2_with fail
  refine (c3 _ B.out).mono ?_
  rintro e w7 ⟨rfl, hb⟩
  replace B : Hid (Below w.heap.size w w7) := belowT B.out hb
  clear hb c3
  go_wp2
  go_ret
  exact ⟨rfl, B.out⟩

set_option maxRecDepth 100000 in
set_option maxHeartbeats 4000000 in
theorem breads_R_f_bad (w : World) (s : ByteArray) (hs : (s.size : Int) ≤ 50) (g o L cap : Nat) (hL : (L : Int) ≤ 100) (n : Int) (aw : AwC6) (cRd : RdAt w s (.slice (some ⟨g, o, none⟩) L cap) 0 6) (cE : EnC s n 0 0) (cr : rRgC s n false) (cR : RgC s n false) (c2 : rRgC s (L : Int) true) (c3 : rRdAt w s (.slice (some ⟨g, o, none⟩) L cap) 0 false) :
    Calls Tryd.prog 3 #[.string s, .slice (some ⟨g, o, none⟩) L cap, .int .i64 n] w fun e w' => e = .returned (.bool true) ∧ Below w.heap.size w w' := by
  go_enter Tryd.func3, Tryd.ntmps3
  go_wp2_with fail
  refine (aw _).mono ?_
  rintro e w1 ⟨rfl, hb⟩
  have B : Hid (Below w.heap.size w w1) := hb
  clear hb
  go_wp2_with fail
  refine (cRd _ B.out).mono ?_
  rintro e w2 ⟨rfl, hb⟩
  replace B : Hid (Below w.heap.size w w2) := belowT B.out hb
  clear hb cRd
  go_wp2_with fail
  refine (cE _).mono ?_
  rintro e w3 ⟨rfl, hb⟩
  replace B : Hid (Below w.heap.size w w3) := belowT B.out hb
  clear hb cE
  go_wp2_with fail
  refine (cr _).mono ?_
  rintro e w4 ⟨rfl, hb⟩
  replace B : Hid (Below w.heap.size w w4) := belowT B.out hb
  clear hb cr
  go_wp2_with fail
  refine (cR _).mono ?_
  rintro e w5 ⟨rfl, hb⟩
  replace B : Hid (Below w.heap.size w w5) := belowT B.out hb
  clear hb cR
  go_wp2_with fail
  refine (c2 _).mono ?_
  rintro e w6 ⟨rfl, hb⟩
  replace B : Hid (Below w.heap.size w w6) := belowT B.out hb
  clear hb c2
  go_wp2_with fail
  refine (c3 _ B.out).mono ?_
  rintro e w7 ⟨rfl, hb⟩
  replace B : Hid (Below w.heap.size w w7) := belowT B.out hb
  clear hb c3
  go_wp2
  go_ret
  exact ⟨rfl, B.out⟩

set_option maxRecDepth 100000 in
set_option maxHeartbeats 4000000 in
theorem breads_long_s (w : World) (s : ByteArray) (hs : 50 < (s.size : Int)) (v : Value) (n : Int) (aw : AwC6) :
    Calls Tryd.prog 3 #[.string s, v, .int .i64 n] w fun e w' => e = .returned (.bool true) ∧ Below w.heap.size w w' := by
  go_enter Tryd.func3, Tryd.ntmps3
  go_wp2_with fail
  refine (aw _).mono ?_
  rintro e w1 ⟨rfl, hb⟩
  have B : Hid (Below w.heap.size w w1) := hb
  clear hb
  go_wp2_with fail
  refine (aw _).mono ?_
  rintro e w2 ⟨rfl, hb⟩
  replace B : Hid (Below w.heap.size w w2) := belowT B.out hb
  clear hb
  go_wp2
  go_ret
  exact ⟨rfl, B.out⟩

set_option maxRecDepth 100000 in
set_option maxHeartbeats 4000000 in
theorem breads_long_b (w : World) (s : ByteArray) (hs : (s.size : Int) ≤ 50) (g o L cap : Nat) (hL : 100 < (L : Int)) (n : Int) (aw : AwC6) :
    Calls Tryd.prog 3 #[.string s, .slice (some ⟨g, o, none⟩) L cap, .int .i64 n] w fun e w' => e = .returned (.bool true) ∧ Below w.heap.size w w' := by
  go_enter Tryd.func3, Tryd.ntmps3
  go_wp2_with fail
  refine (aw _).mono ?_
  rintro e w1 ⟨rfl, hb⟩
  have B : Hid (Below w.heap.size w w1) := hb
  clear hb
  go_wp2_with fail
  refine (aw _).mono ?_
  rintro e w2 ⟨rfl, hb⟩
  replace B : Hid (Below w.heap.size w w2) := belowT B.out hb
  clear hb
  go_wp2
  go_ret
  exact ⟨rfl, B.out⟩

theorem readN_no {k : Nat} {bs : List Nat} (h : rgtB k bs.length = false) : readN k bs = 0 ∧ readC k bs = 1 := by unfold readN readC; rw [h]; exact ⟨rfl, rfl⟩
theorem readN_yes {k : Nat} {bs : List Nat} (h : rgtB k bs.length = true) : readN k bs = (readO k bs).getD 0 ∧ readC k bs = if (readO k bs).isSome then 0 else 6 := by unfold readN readC; rw [if_pos h, if_pos h]; exact ⟨rfl, rfl⟩
theorem ends_no {k : Nat} {n : Int} (h : rgtB k n = false) : endLo k n = 0 ∧ endHi k n = 0 := by unfold endLo endHi; rw [h]; exact ⟨rfl, rfl⟩
theorem ends_yes {k : Nat} {n : Int} (h : rgtB k n = true) : endLo k n = loK k n.toNat ∧ endHi k n = hiK k n.toNat := by unfold endLo endHi; rw [if_pos h, if_pos h]; exact ⟨rfl, rfl⟩
/-- the law, out of the contracts -/
theorem breads_any (hR : RightP) (hE : EndsP) (hD : ReadP) (w : World) (s : ByteArray) (hsz : s.size ≤ maxLen) (v : Value) (bs : List Nat) (hv : BytesV w v bs) (hb : AllBytes bs) (n : Int) (hn : I64r n) :
    Calls Tryd.prog 3 #[.string s, v, .int .i64 n] w fun e w' => e = .returned (.bool true) ∧ Below w.heap.size w w' := by
  have aw := awake6 hD
  by_cases hs : (s.size : Int) ≤ 50
  · by_cases hl : (bs.length : Int) ≤ 100
    · have cRd : RdAt w s v (readN (kindI s) bs) (readC (kindI s) bs) := fun x hx => hD s v bs x (hv.below hx) (by omega) hb
      have cE : EnC s n (endLo (kindI s) n) (endHi (kindI s) n) := fun x => hE s n x hn
      have cr := rRg s hn
      have cR : RgC s n (rgtB (kindI s) n) := fun x => hR s n x hn
      have c2 := rRg s (n := (bs.length : Int)) ⟨by omega, by omega⟩
      have c3 : rgtB (kindI s) bs.length = true → rRdAt w s v ((readO (kindI s) bs).getD 0) (readO (kindI s) bs).isSome := fun h x hx => bread_any s v bs x h (hv.at.below hx) hb
      have ce : rgtB (kindI s) n = true → rEnC s n (loK (kindI s) n.toNat) (hiK (kindI s) n.toNat) := fun h => rEn s h
      cases h2 : rgtB (kindI s) bs.length with
      | false =>
        obtain ⟨q1, q2⟩ := readN_no h2
        rw [q1, q2] at cRd
        rw [h2] at c2
        cases h1 : rgtB (kindI s) n with
        | false =>
          obtain ⟨q3, q4⟩ := ends_no h1
          rw [q3, q4] at cE
          rw [h1] at cr cR
          rcases hv with ⟨rfl, rfl⟩ | ⟨g, o, cap, rfl, _, _, _, _⟩
          · exact breads_N_f_no w s hs n aw cRd cE cr cR c2
          · exact breads_R_f_no w s hs g o _ cap hl n aw cRd cE cr cR c2
        | true =>
          obtain ⟨q3, q4⟩ := ends_yes h1
          rw [q3, q4] at cE
          rw [h1] at cr cR
          rcases hv with ⟨rfl, rfl⟩ | ⟨g, o, cap, rfl, _, _, _, _⟩
          · exact breads_N_t_no w s hs n _ _ aw cRd cE cr cR (ce h1) c2
          · exact breads_R_t_no w s hs g o _ cap hl n _ _ aw cRd cE cr cR (ce h1) c2
      | true =>
        obtain ⟨q1, q2⟩ := readN_yes h2
        rw [q1, q2] at cRd
        have d3 := c3 h2
        rw [h2] at c2
        have hne : ¬ bs = [] := fun e => by
          rcases rgt_cases h2 with h | h <;> · rw [e] at h; simp at h
        obtain ⟨g, o, cap, rfl⟩ : ∃ g o cap, v = .slice (some ⟨g, o, none⟩) bs.length cap := by
          rcases hv with ⟨_, e⟩ | ⟨g, o, cap, e, _⟩
          · exact absurd e hne
          · exact ⟨g, o, cap, e⟩
        cases h1 : rgtB (kindI s) n with
        | false =>
          obtain ⟨q3, q4⟩ := ends_no h1
          rw [q3, q4] at cE
          rw [h1] at cr cR
          cases ho : readO (kindI s) bs with
          | none =>
            rw [ho] at cRd d3
            exact breads_R_f_bad w s hs g o _ cap hl n aw cRd cE cr cR c2 d3
          | some N =>
            rw [ho] at cRd d3
            exact breads_R_f_ok w s hs g o _ cap hl n N aw cRd cE cr cR c2 d3
        | true =>
          obtain ⟨q3, q4⟩ := ends_yes h1
          rw [q3, q4] at cE
          rw [h1] at cr cR
          cases ho : readO (kindI s) bs with
          | none =>
            rw [ho] at cRd d3
            exact breads_R_t_bad w s hs g o _ cap hl n _ _ aw cRd cE cr cR (ce h1) c2 d3
          | some N =>
            rw [ho] at cRd d3
            exact breads_R_t_ok w s hs g o _ cap hl n _ _ N aw cRd cE cr cR (ce h1) c2 d3
    · rcases hv with ⟨rfl, rfl⟩ | ⟨g, o, cap, rfl, _, _, _, _⟩
      · simp at hl
      · exact breads_long_b w s hs g o _ cap (by omega) n aw
  · exact breads_long_s w s (by omega) v n aw
end Go.Proofs.YtiimmebcmehnhaaDoor
