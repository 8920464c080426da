/-
  The ways through the law on what is read and written again (layer 6), out of the contracts. Conditions: as each says.
-/
import Derived.Test.YtiimmebcmehnhaaDoorBitLawB
namespace Go.Proofs.YtiimmebcmehnhaaDoor
open Go.RowKit
set_option linter.unusedVariables false

set_option maxRecDepth 100000 in
set_option maxHeartbeats 4000000 in
theorem bonly_N_dec (w : World)  (aw : AwC6) :
    Calls Tryd.prog 5 #[.string kDec, .slice none 0 0] w fun e w' => e = .returned (.bool true) ∧ Below w.heap.size w w' := by
  go_enter Tryd.func5, Tryd.ntmps5
  go_wp2_with fail
  refine (aw _).mono ?_
  rintro e w1 ⟨rfl, hb⟩
  have B : Hid (Below w.heap.size w w1) := hb
  clear hb
  go_wp2_with fail
  refine (aw _).mono ?_
  rintro e w2 ⟨rfl, hb⟩
  replace B : Hid (Below w.heap.size w w2) := belowT B.out hb
  clear hb
  go_wp2
  go_ret
  exact ⟨rfl, B.out⟩

set_option maxRecDepth 100000 in
set_option maxHeartbeats 4000000 in
theorem bonly_N_e1 (w : World) (s : ByteArray) (hs : (s.size : Int) ≤ 50) (nd : (s.toList == [100, 101, 99]) = false)  (aw : AwC6) (cD : RdAt w s (.slice none 0 0) 0 1) :
    Calls Tryd.prog 5 #[.string s, .slice none 0 0] w fun e w' => e = .returned (.bool true) ∧ Below w.heap.size w w' := by
  go_enter Tryd.func5, Tryd.ntmps5
  go_wp2_with fail
  refine (aw _).mono ?_
  rintro e w1 ⟨rfl, hb⟩
  have B : Hid (Below w.heap.size w w1) := hb
  clear hb
  go_wp2_with fail
  refine (cD _ B.out).mono ?_
  rintro e w2 ⟨rfl, hb⟩
  replace B : Hid (Below w.heap.size w w2) := belowT B.out hb
  clear hb cD
  go_wp2
  go_ret
  exact ⟨rfl, B.out⟩

set_option maxRecDepth 100000 in
set_option maxHeartbeats 4000000 in
theorem bonly_N_e6 (w : World) (s : ByteArray) (hs : (s.size : Int) ≤ 50) (nd : (s.toList == [100, 101, 99]) = false)  (aw : AwC6) (cD : RdAt w s (.slice none 0 0) 0 6) :
    Calls Tryd.prog 5 #[.string s, .slice none 0 0] w fun e w' => e = .returned (.bool true) ∧ Below w.heap.size w w' := by
  go_enter Tryd.func5, Tryd.ntmps5
  go_wp2_with fail
  refine (aw _).mono ?_
  rintro e w1 ⟨rfl, hb⟩
  have B : Hid (Below w.heap.size w w1) := hb
  clear hb
  go_wp2_with fail
  refine (cD _ B.out).mono ?_
  rintro e w2 ⟨rfl, hb⟩
  replace B : Hid (Below w.heap.size w w2) := belowT B.out hb
  clear hb cD
  go_wp2
  go_ret
  exact ⟨rfl, B.out⟩

set_option maxRecDepth 100000 in
set_option maxHeartbeats 4000000 in
theorem bonly_R_dec (w : World) (g o L cap : Nat) (hL : (L : Int) ≤ 100) (aw : AwC6) :
    Calls Tryd.prog 5 #[.string kDec, .slice (some ⟨g, o, none⟩) L cap] w fun e w' => e = .returned (.bool true) ∧ Below w.heap.size w w' := by
  go_enter Tryd.func5, Tryd.ntmps5
  go_wp2_with fail
  refine (aw _).mono ?_
  rintro e w1 ⟨rfl, hb⟩
  have B : Hid (Below w.heap.size w w1) := hb
  clear hb
  go_wp2_with fail
  refine (aw _).mono ?_
  rintro e w2 ⟨rfl, hb⟩
  replace B : Hid (Below w.heap.size w w2) := belowT B.out hb
  clear hb
  go_wp2
  go_ret
  exact ⟨rfl, B.out⟩

set_option maxRecDepth 100000 in
set_option maxHeartbeats 4000000 in
theorem bonly_R_e1 (w : World) (s : ByteArray) (hs : (s.size : Int) ≤ 50) (nd : (s.toList == [100, 101, 99]) = false) (g o L cap : Nat) (hL : (L : Int) ≤ 100) (aw : AwC6) (cD : RdAt w s (.slice (some ⟨g, o, none⟩) L cap) 0 1) :
    Calls Tryd.prog 5 #[.string s, .slice (some ⟨g, o, none⟩) L cap] w fun e w' => e = .returned (.bool true) ∧ Below w.heap.size w w' := by
  go_enter Tryd.func5, Tryd.ntmps5
  go_wp2_with fail
  refine (aw _).mono ?_
  rintro e w1 ⟨rfl, hb⟩
  have B : Hid (Below w.heap.size w w1) := hb
  clear hb
  go_wp2_with fail
  refine (cD _ B.out).mono ?_
  rintro e w2 ⟨rfl, hb⟩
  replace B : Hid (Below w.heap.size w w2) := belowT B.out hb
  clear hb cD
  go_wp2
  go_ret
  exact ⟨rfl, B.out⟩

set_option maxRecDepth 100000 in
set_option maxHeartbeats 4000000 in
theorem bonly_R_e6 (w : World) (s : ByteArray) (hs : (s.size : Int) ≤ 50) (nd : (s.toList == [100, 101, 99]) = false) (g o L cap : Nat) (hL : (L : Int) ≤ 100) (aw : AwC6) (cD : RdAt w s (.slice (some ⟨g, o, none⟩) L cap) 0 6) :
    Calls Tryd.prog 5 #[.string s, .slice (some ⟨g, o, none⟩) L cap] w fun e w' => e = .returned (.bool true) ∧ Below w.heap.size w w' := by
  go_enter Tryd.func5, Tryd.ntmps5
  go_wp2_with fail
  refine (aw _).mono ?_
  rintro e w1 ⟨rfl, hb⟩
  have B : Hid (Below w.heap.size w w1) := hb
  clear hb
  go_wp2_with fail
  refine (cD _ B.out).mono ?_
  rintro e w2 ⟨rfl, hb⟩
  replace B : Hid (Below w.heap.size w w2) := belowT B.out hb
  clear hb cD
  go_wp2
  go_ret
  exact ⟨rfl, B.out⟩

set_option maxRecDepth 100000 in
set_option maxHeartbeats 4000000 in
theorem bonly_R_ok (w : World) (s : ByteArray) (hs : (s.size : Int) ≤ 50) (nd : (s.toList == [100, 101, 99]) = false) (g o L cap : Nat) (hL : (L : Int) ≤ 100) (bs : List Nat) (hv : Hid (BytesAt w (.slice (some ⟨g, o, none⟩) L cap) bs)) (N X Y : Int) (q0 : X ≤ N) (q1 : N ≤ Y) (aw : AwC6) (cD : RdAt w s (.slice (some ⟨g, o, none⟩) L cap) N 0) (cW : WrYes s (L : Int) N L bs) (cE : EnC s (L : Int) X Y) :
    Calls Tryd.prog 5 #[.string s, .slice (some ⟨g, o, none⟩) L cap] w fun e w' => e = .returned (.bool true) ∧ Below w.heap.size w w' := by
  go_enter Tryd.func5, Tryd.ntmps5
  go_wp2_with fail
  refine (aw _).mono ?_
  rintro e w1 ⟨rfl, hb⟩
  have B : Hid (Below w.heap.size w w1) := hb
  clear hb aw
  go_wp2_with fail
  refine (cD _ B.out).mono ?_
  rintro e w2 ⟨rfl, hb⟩
  replace B : Hid (Below w.heap.size w w2) := belowT B.out hb
  clear hb cD
  go_wp2_with fail
  refine (cW _).mono ?_
  rintro e w3 ⟨g2, o2, cap2, rfl, hy, hb⟩
  replace B : Hid (Below w.heap.size w w3) := belowT B.out hb
  have Y : Hid (BytesAt w3 (.slice (some ⟨g2, o2, none⟩) L cap2) bs) := hy.at
  clear hb cW hy
  go_wp2_with fail
  refine (cE _).mono ?_
  rintro e w4 ⟨rfl, hb⟩
  replace B : Hid (Below w.heap.size w w4) := belowT B.out hb
  replace Y : Hid (BytesAt w4 (.slice (some ⟨g2, o2, none⟩) L cap2) bs) := Y.out.below hb
  clear hb cE
  have k1 := conv_at Y.out
  have k2 := conv_at (hv.out.below B.out)
  clear Y hv
  generalize strOf bs = S at *
  go_wp2
  go_ret
  exact ⟨rfl, B.out⟩

set_option maxRecDepth 100000 in
set_option maxHeartbeats 4000000 in
theorem bonly_long_s (w : World) (s : ByteArray) (hs : 50 < (s.size : Int)) (v : Value) (aw : AwC6) :
    Calls Tryd.prog 5 #[.string s, v] w fun e w' => e = .returned (.bool true) ∧ Below w.heap.size w w' := by
  go_enter Tryd.func5, Tryd.ntmps5
  go_wp2_with fail
  refine (aw _).mono ?_
  rintro e w1 ⟨rfl, hb⟩
  have B : Hid (Below w.heap.size w w1) := hb
  clear hb
  go_wp2_with fail
  refine (aw _).mono ?_
  rintro e w2 ⟨rfl, hb⟩
  replace B : Hid (Below w.heap.size w w2) := belowT B.out hb
  clear hb
  go_wp2
  go_ret
  exact ⟨rfl, B.out⟩

set_option maxRecDepth 100000 in
set_option maxHeartbeats 4000000 in
theorem bonly_long_b (w : World) (s : ByteArray) (hs : (s.size : Int) ≤ 50) (g o L cap : Nat) (hL : 100 < (L : Int)) (aw : AwC6) :
    Calls Tryd.prog 5 #[.string s, .slice (some ⟨g, o, none⟩) L cap] w fun e w' => e = .returned (.bool true) ∧ Below w.heap.size w w' := by
  go_enter Tryd.func5, Tryd.ntmps5
  go_wp2_with fail
  refine (aw _).mono ?_
  rintro e w1 ⟨rfl, hb⟩
  have B : Hid (Below w.heap.size w w1) := hb
  clear hb
  go_wp2_with fail
  refine (aw _).mono ?_
  rintro e w2 ⟨rfl, hb⟩
  replace B : Hid (Below w.heap.size w w2) := belowT B.out hb
  clear hb
  go_wp2
  go_ret
  exact ⟨rfl, B.out⟩

/-- the law, out of the contracts -/
theorem bonly_any (hE : EndsP) (hD : ReadP) (hW : WriteP) (w : World) (s : ByteArray) (hsz : s.size ≤ maxLen) (v : Value) (bs : List Nat) (hv : BytesV w v bs) (hb : AllBytes bs) :
    Calls Tryd.prog 5 #[.string s, v] w fun e w' => e = .returned (.bool true) ∧ Below w.heap.size w w' := by
  have aw := awake6 hD
  by_cases hs : (s.size : Int) ≤ 50
  · by_cases hl : (bs.length : Int) ≤ 100
    · by_cases hd : s = kDec
      · subst hd
        rcases hv with ⟨rfl, rfl⟩ | ⟨g, o, cap, rfl, _, _, _, _⟩
        · exact bonly_N_dec w aw
        · exact bonly_R_dec w g o _ cap hl aw
      · have nd := not_kDec hd
        have cD : RdAt w s v (readN (kindI s) bs) (readC (kindI s) bs) := fun x hx => hD s v bs x (hv.below hx) (by omega) hb
        cases h2 : rgtB (kindI s) bs.length with
        | false =>
          obtain ⟨q1, q2⟩ := readN_no h2
          rw [q1, q2] at cD
          rcases hv with ⟨rfl, rfl⟩ | ⟨g, o, cap, rfl, _, _, _, _⟩
          · exact bonly_N_e1 w s hs nd aw cD
          · exact bonly_R_e1 w s hs nd g o _ cap hl aw cD
        | true =>
          obtain ⟨q1, q2⟩ := readN_yes h2
          rw [q1, q2] at cD
          have hk : kindI s < 5 := by
            rcases rgt_cases h2 with h | h
            · exact h.1
            · exfalso
              rcases kind_cases s with rfl | rfl | rfl | rfl | rfl | rfl | hn
              · rw [kind_be] at h; omega
              · rw [kind_le] at h; omega
              · rw [kind_sbe] at h; omega
              · rw [kind_sle] at h; omega
              · rw [kind_bcd] at h; omega
              · exact hd rfl
              · rw [kind_no hn] at h; omega
          have h1 : 1 ≤ bs.length := by rcases rgt_cases h2 with h | h <;> omega
          obtain ⟨g, o, cap, rfl, hA⟩ : ∃ g o cap, v = .slice (some ⟨g, o, none⟩) bs.length cap ∧ BytesAt w (.slice (some ⟨g, o, none⟩) bs.length cap) bs := by
            have ha := hv.at
            rcases hv with ⟨_, e⟩ | ⟨g, o, cap, e, _⟩
            · rw [e] at h1; simp at h1
            · subst e; exact ⟨g, o, cap, rfl, ha⟩
          cases ho : readO (kindI s) bs with
          | none =>
            rw [ho] at cD
            exact bonly_R_e6 w s hs nd g o _ cap hl aw cD
          | some N =>
            rw [ho] at cD
            obtain ⟨r1, r2, r3⟩ := read_only hb hk h2 ho
            have nb : I64r N := by
              have p1 : 256 ^ bs.length ≤ 256 ^ 4 := Nat.pow_le_pow_right (by omega) (by rcases rgt_cases h2 with h | h <;> omega)
              have p2 : 100 ^ bs.length ≤ 100 ^ 4 := Nat.pow_le_pow_right (by omega) (by rcases rgt_cases h2 with h | h <;> omega)
              have lo : -4294967296 ≤ loK (kindI s) bs.length := by unfold loK; split <;> omega
              have hi : hiK (kindI s) bs.length ≤ 4294967296 := by
                unfold hiK
                split <;> omega
              exact ⟨by omega, by omega⟩
            have cW : WrC s (bs.length : Int) N 0 bs := fun x => by
              have k := hW s (bs.length : Int) N x ⟨by omega, by omega⟩ nb
              have e1 : writeC (kindI s) (bs.length : Int) N = 0 := by unfold writeC; rw [if_pos h2, if_pos ⟨r2, r3⟩]
              have e2 : writeR (kindI s) (bs.length : Int) N = bs := by unfold writeR; rw [if_pos h2, if_pos ⟨r2, r3⟩]; exact r1
              rw [e1, e2] at k
              exact k
            have cE : EnC s (bs.length : Int) (loK (kindI s) bs.length) (hiK (kindI s) bs.length) := fun x => by
              have k := hE s (bs.length : Int) x ⟨by omega, by omega⟩
              obtain ⟨e1, e2⟩ := ends_yes h2
              rw [e1, e2] at k
              exact k
            exact bonly_R_ok w s hs nd g o _ cap hl bs hA N _ _ r2 r3 aw cD (wrYes cW rfl h1) cE
    · rcases hv with ⟨rfl, rfl⟩ | ⟨g, o, cap, rfl, _, _, _, _⟩
      · simp at hl
      · exact bonly_long_b w s hs g o _ cap (by omega) aw
  · exact bonly_long_s w s (by omega) v aw
end Go.Proofs.YtiimmebcmehnhaaDoor
