/-
  The ways through the law on what is written and read again (layer 6), out of the contracts. Conditions: as each says.
-/
import Derived.Test.YtiimmebcmehnhaaDoorBitLawA
namespace Go.Proofs.YtiimmebcmehnhaaDoor
open Go.RowKit
set_option linter.unusedVariables false

/-- what is refused -/
def WrNo (s : ByteArray) (n m E : Int) : Prop := ∀ x, Calls Tryd.prog 14 #[.string s, .int .i64 n, .int .i64 m] x fun e w' => ∃ y, e = .returned (.tuple #[y, .int .i64 E]) ∧ (y = .slice none 0 0 ∨ ∃ g o cap, y = .slice (some ⟨g, o, none⟩) 0 cap) ∧ Below x.heap.size x w'
/-- what is written -/
def WrYes (s : ByteArray) (n m : Int) (L : Nat) (bs : List Nat) : Prop := ∀ x, Calls Tryd.prog 14 #[.string s, .int .i64 n, .int .i64 m] x fun e w' => ∃ g o cap, e = .returned (.tuple #[.slice (some ⟨g, o, none⟩) L cap, .int .i64 0]) ∧ BytesV w' (.slice (some ⟨g, o, none⟩) L cap) bs ∧ Below x.heap.size x w'
theorem wrNo {s : ByteArray} {n m E : Int} (h : WrC s n m E []) : WrNo s n m E := fun x => (h x).mono fun e w' ⟨y, he, hy, hb⟩ => by
  refine ⟨y, he, ?_, hb⟩
  rcases hy with ⟨q, _⟩ | ⟨g, o, cap, q, _⟩
  · exact .inl q
  · exact .inr ⟨g, o, cap, q⟩
theorem wrYes {s : ByteArray} {n m : Int} {L : Nat} {bs : List Nat} (h : WrC s n m 0 bs) (hL : bs.length = L) (h1 : 1 ≤ L) : WrYes s n m L bs := fun x => (h x).mono fun e w' ⟨y, he, hy, hb⟩ => by
  rcases hy with ⟨_, q⟩ | ⟨g, o, cap, q, r⟩
  · rw [q] at hL; simp at hL; omega
  · rw [hL] at q
    subst q
    exact ⟨g, o, cap, he, .inr ⟨g, o, cap, by rw [hL], r⟩, hb⟩

set_option maxRecDepth 100000 in
set_option maxHeartbeats 4000000 in
theorem bback_no (w : World) (s : ByteArray) (n m : Int) (hs : (s.size : Int) ≤ 50) (aw : AwC6) (cW : WrNo s n m 1) (cr : rRgC s n false) :
    Calls Tryd.prog 4 #[.string s, .int .i64 n, .int .i64 m] w fun e w' => e = .returned (.bool true) ∧ Below w.heap.size w w' := by
  go_enter Tryd.func4, Tryd.ntmps4
  go_wp2_with fail
  refine (aw _).mono ?_
  rintro e w1 ⟨rfl, hb⟩
  have B : Hid (Below w.heap.size w w1) := hb
  clear hb aw
  go_wp2_with fail
  refine (cW _).mono ?_
  rintro e w2 ⟨y, rfl, hy, hb⟩
  replace B : Hid (Below w.heap.size w w2) := belowT B.out hb
  have Y : Hid (y = .slice none 0 0 ∨ ∃ g o cap, y = .slice (some ⟨g, o, none⟩) 0 cap) := hy
  clear hb cW hy
  go_wp2_with fail
  refine (cr _).mono ?_
  rintro e w3 ⟨rfl, hb⟩
  replace B : Hid (Below w.heap.size w w3) := belowT B.out hb
  clear hb cr
  rcases Y.out with rfl | ⟨g, o, cap, rfl⟩
  all_goals
    clear Y
    go_wp2
    go_ret
    exact ⟨rfl, B.out⟩

set_option maxRecDepth 100000 in
set_option maxHeartbeats 4000000 in
theorem bback_low (w : World) (s : ByteArray) (n m X Y : Int) (q1 : m < X) (hs : (s.size : Int) ≤ 50) (aw : AwC6) (cW : WrNo s n m 11) (cr : rRgC s n true) (ce : rEnC s n X Y) :
    Calls Tryd.prog 4 #[.string s, .int .i64 n, .int .i64 m] w fun e w' => e = .returned (.bool true) ∧ Below w.heap.size w w' := by
  go_enter Tryd.func4, Tryd.ntmps4
  go_wp2_with fail
  refine (aw _).mono ?_
  rintro e w1 ⟨rfl, hb⟩
  have B : Hid (Below w.heap.size w w1) := hb
  clear hb aw
  go_wp2_with fail
  refine (cW _).mono ?_
  rintro e w2 ⟨y, rfl, hy, hb⟩
  replace B : Hid (Below w.heap.size w w2) := belowT B.out hb
  have Y : Hid (y = .slice none 0 0 ∨ ∃ g o cap, y = .slice (some ⟨g, o, none⟩) 0 cap) := hy
  clear hb cW hy
  go_wp2_with fail
  refine (cr _).mono ?_
  rintro e w3 ⟨rfl, hb⟩
  replace B : Hid (Below w.heap.size w w3) := belowT B.out hb
  clear hb cr
  go_wp2_with fail
  refine (ce _).mono ?_
  rintro e w4 ⟨rfl, hb⟩
  replace B : Hid (Below w.heap.size w w4) := belowT B.out hb
  clear hb ce
  rcases Y.out with rfl | ⟨g, o, cap, rfl⟩
  all_goals
    clear Y
    go_wp2
    go_ret
    exact ⟨rfl, B.out⟩

set_option maxRecDepth 100000 in
set_option maxHeartbeats 4000000 in
theorem bback_high (w : World) (s : ByteArray) (n m X Y : Int) (q0 : X ≤ m) (q1 : Y < m) (hs : (s.size : Int) ≤ 50) (aw : AwC6) (cW : WrNo s n m 11) (cr : rRgC s n true) (ce : rEnC s n X Y) :
    Calls Tryd.prog 4 #[.string s, .int .i64 n, .int .i64 m] w fun e w' => e = .returned (.bool true) ∧ Below w.heap.size w w' := by
  go_enter Tryd.func4, Tryd.ntmps4
  go_wp2_with fail
  refine (aw _).mono ?_
  rintro e w1 ⟨rfl, hb⟩
  have B : Hid (Below w.heap.size w w1) := hb
  clear hb aw
  go_wp2_with fail
  refine (cW _).mono ?_
  rintro e w2 ⟨y, rfl, hy, hb⟩
  replace B : Hid (Below w.heap.size w w2) := belowT B.out hb
  have Y : Hid (y = .slice none 0 0 ∨ ∃ g o cap, y = .slice (some ⟨g, o, none⟩) 0 cap) := hy
  clear hb cW hy
  go_wp2_with fail
  refine (cr _).mono ?_
  rintro e w3 ⟨rfl, hb⟩
  replace B : Hid (Below w.heap.size w w3) := belowT B.out hb
  clear hb cr
  go_wp2_with fail
  refine (ce _).mono ?_
  rintro e w4 ⟨rfl, hb⟩
  replace B : Hid (Below w.heap.size w w4) := belowT B.out hb
  clear hb ce
  rcases Y.out with rfl | ⟨g, o, cap, rfl⟩
  all_goals
    clear Y
    go_wp2
    go_ret
    exact ⟨rfl, B.out⟩

set_option maxRecDepth 100000 in
set_option maxHeartbeats 4000000 in
theorem bback_good (w : World) (s : ByteArray) (L : Nat) (bs : List Nat) (m X Y : Int) (q0 : X ≤ m) (q1 : m ≤ Y) (hs : (s.size : Int) ≤ 50) (aw : AwC6) (cW : WrYes s (L : Int) m L bs) (cr : rRgC s (L : Int) true) (ce : rEnC s (L : Int) X Y) (cD : RdOf s bs m 0) :
    Calls Tryd.prog 4 #[.string s, .int .i64 (L : Int), .int .i64 m] w fun e w' => e = .returned (.bool true) ∧ Below w.heap.size w w' := by
  go_enter Tryd.func4, Tryd.ntmps4
  go_wp2_with fail
  refine (aw _).mono ?_
  rintro e w1 ⟨rfl, hb⟩
  have B : Hid (Below w.heap.size w w1) := hb
  clear hb aw
  go_wp2_with fail
  refine (cW _).mono ?_
  rintro e w2 ⟨g, o, cap, rfl, hy, hb⟩
  replace B : Hid (Below w.heap.size w w2) := belowT B.out hb
  have Y : Hid (BytesV w2 (.slice (some ⟨g, o, none⟩) L cap) bs) := hy
  clear hb cW hy
  go_wp2_with fail
  refine (cr _).mono ?_
  rintro e w3 ⟨rfl, hb⟩
  replace B : Hid (Below w.heap.size w w3) := belowT B.out hb
  replace Y : Hid (BytesV w3 (.slice (some ⟨g, o, none⟩) L cap) bs) := Y.out.below hb
  clear hb cr
  go_wp2_with fail
  refine (ce _).mono ?_
  rintro e w4 ⟨rfl, hb⟩
  replace B : Hid (Below w.heap.size w w4) := belowT B.out hb
  replace Y : Hid (BytesV w4 (.slice (some ⟨g, o, none⟩) L cap) bs) := Y.out.below hb
  clear hb ce
  go_wp2_with fail
  refine (cD _ _ Y.out).mono ?_
  rintro e w5 ⟨rfl, hb⟩
  replace B : Hid (Below w.heap.size w w5) := belowT B.out hb
  clear hb cD Y
  go_wp2
  go_ret
  exact ⟨rfl, B.out⟩

set_option maxRecDepth 100000 in
set_option maxHeartbeats 4000000 in
theorem bback_long (w : World) (s : ByteArray) (n m : Int) (hs : 50 < (s.size : Int)) (aw : AwC6) :
    Calls Tryd.prog 4 #[.string s, .int .i64 n, .int .i64 m] w fun e w' => e = .returned (.bool true) ∧ Below w.heap.size w w' := by
  go_enter Tryd.func4, Tryd.ntmps4
  go_wp2_with fail
  refine (aw _).mono ?_
  rintro e w1 ⟨rfl, hb⟩
  have B : Hid (Below w.heap.size w w1) := hb
  clear hb
  go_wp2_with fail
  refine (aw _).mono ?_
  rintro e w2 ⟨rfl, hb⟩
  replace B : Hid (Below w.heap.size w w2) := belowT B.out hb
  clear hb
  go_wp2
  go_ret
  exact ⟨rfl, B.out⟩

/-- the law, out of the contracts -/
theorem bback_any (hD : ReadP) (hW : WriteP) (w : World) (s : ByteArray) (hsz : s.size ≤ maxLen) (n : Int) (hn : I64r n) (m : Int) (hm : I64r m) :
    Calls Tryd.prog 4 #[.string s, .int .i64 n, .int .i64 m] w fun e w' => e = .returned (.bool true) ∧ Below w.heap.size w w' := by
  have aw := awake6 hD
  by_cases hs : (s.size : Int) ≤ 50
  · have cW : WrC s n m (writeC (kindI s) n m) (writeR (kindI s) n m) := fun x => hW s n m x hn hm
    have cr := rRg s hn
    cases h1 : rgtB (kindI s) n with
    | false =>
      have e1 : writeC (kindI s) n m = 1 := by unfold writeC; rw [h1]; rfl
      have e2 : writeR (kindI s) n m = [] := by unfold writeR; rw [h1]; rfl
      rw [e1, e2] at cW
      rw [h1] at cr
      exact bback_no w s n m hs aw (wrNo cW) cr
    | true =>
      have ce := rEn s h1
      rw [h1] at cr
      by_cases q : loK (kindI s) n.toNat ≤ m ∧ m ≤ hiK (kindI s) n.toNat
      · have e1 : writeC (kindI s) n m = 0 := by unfold writeC; rw [if_pos h1, if_pos q]
        have e2 : writeR (kindI s) n m = writeL (kindI s) n.toNat m := by unfold writeR; rw [if_pos h1, if_pos q]
        rw [e1, e2] at cW
        have hn1 : 1 ≤ n ∧ n ≤ 8 := by rcases rgt_cases h1 with h | h <;> omega
        obtain ⟨L, rfl⟩ : ∃ L : Nat, n = (L : Int) := ⟨n.toNat, by omega⟩
        rw [Int.toNat_natCast] at *
        obtain ⟨r1, r2⟩ := write_back h1 q.1 q.2
        have cD : RdOf s (writeL (kindI s) L m) m 0 := fun x v hv => by
          have k := hD s v _ x hv (by rw [r2]; omega) (write_bytes _ _ _)
          have hr : rgtB (kindI s) (writeL (kindI s) L m).length = true := by rw [r2]; exact h1
          obtain ⟨q1, q2⟩ := readN_yes hr
          rw [q1, q2, r1] at k
          exact k
        exact bback_good w s L _ m _ _ q.1 q.2 hs aw (wrYes cW r2 (by omega)) cr ce cD
      · have e1 : writeC (kindI s) n m = 11 := by unfold writeC; rw [if_pos h1, if_neg q]
        have e2 : writeR (kindI s) n m = [] := by unfold writeR; rw [if_pos h1, if_neg q]
        rw [e1, e2] at cW
        by_cases q1 : m < loK (kindI s) n.toNat
        · exact bback_low w s n m _ _ q1 hs aw (wrNo cW) cr ce
        · exact bback_high w s n m _ _ (by omega) (by omega) hs aw (wrNo cW) cr ce
  · exact bback_long w s n m (by omega) aw
end Go.Proofs.YtiimmebcmehnhaaDoor
