/-
  What the document's own Name and Number return (layer 7). Conditions: as each says.
-/
import Derived.Test.YteemaofajcbniaaDoorLexWord
namespace Go.Proofs.YteemaofajcbniaaDoor
open Go.RowKit
set_option linter.unusedVariables false


theorem name_form {s : ByteArray} (h0 : 0 < s.size) : nameB s.data.toList = (decide (s.size ≤ 12) && (lowB s[0] && allN s.data.toList)) := by
  have hl : s.data.toList.length = s.size := by simp
  have e : s.data.toList = s[0] :: s.data.toList.drop 1 := by
    have := sdrop_at (s := s) (k := 0) h0
    simpa using this
  unfold nameB
  rw [hl]
  congr 1
  obtain ⟨r, hr⟩ : ∃ r, s.data.toList = s[0] :: r := ⟨_, e⟩
  rw [hr]
theorem ret_bb {x y : Bool} (h : y = x) : Ending.returned (.bool x) = .returned (.bool y) := by rw [h]
theorem sget (s : ByteArray) {k : Nat} (h : k < s.size) (h2 : k < s.data.toList.length) : s.data.toList[k] = s[k] := rfl

set_option maxRecDepth 100000 in
set_option maxHeartbeats 4000000 in
theorem rname_main (s : ByteArray) (w : World) (h0 : 0 < s.size) (h12 : (s.size : Int) ≤ 12) (c1 : (97 : Int) ≤ (s[0].toNat : Int)) (c2 : (s[0].toNat : Int) ≤ 122) :
    Calls Tryd.prog 16 #[.string s] w fun e w' => e = .returned (.bool (allN s.data.toList)) ∧ w' = w := by
  have h0i : (0 : Int) < (s.size : Int) := by omega
  have g1 : decide ((s.size : Int) < 1) = false := decide_eq_false (by omega)
  have g2 : decide (12 < (s.size : Int)) = false := decide_eq_false (by omega)
  have g3 : decide ((s[0].toNat : Int) < 97) = false := decide_eq_false (by omega)
  have g4 : decide (122 < (s[0].toNat : Int)) = false := decide_eq_false (by omega)
  obtain ⟨T, hT⟩ : ∃ T, allN s.data.toList = T := ⟨_, rfl⟩
  rw [hT]
  replace hT : Hid (allN s.data.toList = T) := hT
  go_enter Tryd.func16, Tryd.ntmps16
  go_wp2
  go_loop [3] (fun vi => ∃ k : Nat, (k : Int) ≤ (s.size : Int) ∧ vi = .int .i64 (k : Int) ∧ Hid (allN (s.data.toList.take k) = true)) (fun vi => s.size - (intOf vi).toNat)
  case atStart => exact ⟨0, by omega, rfl, rfl⟩
  case round =>
    obtain ⟨k, hk, rfl, hall⟩ := hrel
    by_cases hlt : k < s.size
    · have hki : (k : Int) < (s.size : Int) := by omega
      have hl : k < s.data.toList.length := by simpa using hlt
      have stp : Hid (nameC s[k] = false → T = false) := fun h => by rw [← hT.out]; exact allN_stop hl h
      have nx : Hid (nameC s[k] = true → allN (s.data.toList.take (k + 1)) = true) := fun h => allN_next hl hall.out h
      have lk : s[k].toNat < 256 := s[k].toNat_lt
      clear hall hT g3 g4 c1 c2
      by_cases a1 : (97 : Int) ≤ (s[k].toNat : Int)
      · by_cases a2 : (s[k].toNat : Int) ≤ 122
        · have nl : Hid (allN (s.data.toList.take (k + 1)) = true) := nx.out (by unfold nameC; simp; omega)
          have q1 : decide ((s[k].toNat : Int) < 97) = false := decide_eq_false (by omega)
          have q2 : decide (122 < (s[k].toNat : Int)) = false := decide_eq_false (by omega)
          clear nx stp
          go_wp2
          exact ⟨⟨k + 1, by omega, by simp, nl⟩, by simp [intOf]; omega⟩
        · have fin : Hid (T = false) := stp.out (by unfold nameC; simp; omega)
          have q1 : decide ((s[k].toNat : Int) < 97) = false := decide_eq_false (by omega)
          have q2 : decide (122 < (s[k].toNat : Int)) = true := decide_eq_true (by omega)
          have q3 : decide ((s[k].toNat : Int) < 48) = false := decide_eq_false (by omega)
          have q4 : decide (57 < (s[k].toNat : Int)) = true := decide_eq_true (by omega)
          clear nx stp
          go_wp2
          go_ret
          exact ⟨ret_bb fin.out, rfl⟩
      · have q1 : decide ((s[k].toNat : Int) < 97) = true := decide_eq_true (by omega)
        by_cases a3 : (48 : Int) ≤ (s[k].toNat : Int)
        · have q3 : decide ((s[k].toNat : Int) < 48) = false := decide_eq_false (by omega)
          by_cases a4 : (s[k].toNat : Int) ≤ 57
          · have nl : Hid (allN (s.data.toList.take (k + 1)) = true) := nx.out (by unfold nameC; simp; omega)
            have q4 : decide (57 < (s[k].toNat : Int)) = false := decide_eq_false (by omega)
            clear nx stp
            go_wp2
            exact ⟨⟨k + 1, by omega, by simp, nl⟩, by simp [intOf]; omega⟩
          · have fin : Hid (T = false) := stp.out (by unfold nameC; simp; omega)
            have q4 : decide (57 < (s[k].toNat : Int)) = true := decide_eq_true (by omega)
            clear nx stp
            go_wp2
            go_ret
            exact ⟨ret_bb fin.out, rfl⟩
        · have fin : Hid (T = false) := stp.out (by unfold nameC; simp; omega)
          have q3 : decide ((s[k].toNat : Int) < 48) = true := decide_eq_true (by omega)
          clear nx stp
          go_wp2
          go_ret
          exact ⟨ret_bb fin.out, rfl⟩
    · obtain rfl : k = s.size := by omega
      have fin : Hid (T = true) := by
        have h := hall.out
        rw [List.take_of_length_le (by simp)] at h
        rw [← hT.out]
        exact h
      clear hall hT hlt g3 g4 c1 c2
      go_wp2
      go_ret
      exact ⟨ret_bb fin.out, rfl⟩
set_option maxRecDepth 100000 in
set_option maxHeartbeats 4000000 in
theorem rname_zero (s : ByteArray) (w : World) (h0 : (s.size : Int) < 1) :
    Calls Tryd.prog 16 #[.string s] w fun e w' => e = .returned (.bool false) ∧ w' = w := by
  have g1 : decide ((s.size : Int) < 1) = true := decide_eq_true (by omega)
  go_enter Tryd.func16, Tryd.ntmps16
  go_wp2
  go_ret
  exact ⟨rfl, rfl⟩
set_option maxRecDepth 100000 in
set_option maxHeartbeats 4000000 in
theorem rname_long (s : ByteArray) (w : World) (h12 : 12 < (s.size : Int)) :
    Calls Tryd.prog 16 #[.string s] w fun e w' => e = .returned (.bool false) ∧ w' = w := by
  have g1 : decide ((s.size : Int) < 1) = false := decide_eq_false (by omega)
  have g2 : decide (12 < (s.size : Int)) = true := decide_eq_true (by omega)
  go_enter Tryd.func16, Tryd.ntmps16
  go_wp2
  go_ret
  exact ⟨rfl, rfl⟩
set_option maxRecDepth 100000 in
set_option maxHeartbeats 4000000 in
theorem rname_low (s : ByteArray) (w : World) (h0 : 0 < s.size) (h12 : (s.size : Int) ≤ 12) (c1 : (s[0].toNat : Int) < 97) :
    Calls Tryd.prog 16 #[.string s] w fun e w' => e = .returned (.bool false) ∧ w' = w := by
  have h0i : (0 : Int) < (s.size : Int) := by omega
  have g1 : decide ((s.size : Int) < 1) = false := decide_eq_false (by omega)
  have g2 : decide (12 < (s.size : Int)) = false := decide_eq_false (by omega)
  have g3 : decide ((s[0].toNat : Int) < 97) = true := decide_eq_true (by omega)
  go_enter Tryd.func16, Tryd.ntmps16
  go_wp2
  go_ret
  exact ⟨rfl, rfl⟩
set_option maxRecDepth 100000 in
set_option maxHeartbeats 4000000 in
theorem rname_high (s : ByteArray) (w : World) (h0 : 0 < s.size) (h12 : (s.size : Int) ≤ 12) (c1 : (97 : Int) ≤ (s[0].toNat : Int)) (c2 : (122 : Int) < (s[0].toNat : Int)) :
    Calls Tryd.prog 16 #[.string s] w fun e w' => e = .returned (.bool false) ∧ w' = w := by
  have h0i : (0 : Int) < (s.size : Int) := by omega
  have g1 : decide ((s.size : Int) < 1) = false := decide_eq_false (by omega)
  have g2 : decide (12 < (s.size : Int)) = false := decide_eq_false (by omega)
  have g3 : decide ((s[0].toNat : Int) < 97) = false := decide_eq_false (by omega)
  have g4 : decide (122 < (s[0].toNat : Int)) = true := decide_eq_true (by omega)
  go_enter Tryd.func16, Tryd.ntmps16
  go_wp2
  go_ret
  exact ⟨rfl, rfl⟩
theorem rname_any (s : ByteArray) (w : World) : Calls Tryd.prog 16 #[.string s] w fun e w' => e = .returned (.bool (nameB s.data.toList)) ∧ w' = w := by
  by_cases h0 : 0 < s.size
  · rw [name_form h0]
    by_cases h12 : (s.size : Int) ≤ 12
    · rw [decide_eq_true (show s.size ≤ 12 by omega), Bool.true_and]
      by_cases c1 : (97 : Int) ≤ (s[0].toNat : Int)
      · by_cases c2 : (s[0].toNat : Int) ≤ 122
        · rw [show lowB s[0] = true by unfold lowB; simp; omega, Bool.true_and]
          exact rname_main s w h0 h12 c1 c2
        · rw [show lowB s[0] = false by unfold lowB; simp; omega, Bool.false_and]
          exact rname_high s w h0 h12 c1 (by omega)
      · rw [show lowB s[0] = false by unfold lowB; simp; omega, Bool.false_and]
        exact rname_low s w h0 h12 (by omega)
    · rw [decide_eq_false (show ¬ s.size ≤ 12 by omega), Bool.false_and]
      exact rname_long s w (by omega)
  · have e : s.data.toList = [] := List.length_eq_zero_iff.1 (by rw [show s.data.toList.length = s.size by simp]; omega)
    rw [e]
    exact rname_zero s w (by omega)
set_option maxRecDepth 100000 in
set_option maxHeartbeats 4000000 in
theorem rnum_e (s : ByteArray) (w : World) (lo hi V E : Int) (bV : -9223372036854775808 ≤ V ∧ V ≤ 9223372036854775807) (hE : ¬ E = 0) (hE2 : (E != 0) = true) (f : Hid (Calls Tryd.prog 22 #[.string s] w fun e w' => e = .returned (.tuple #[.int .i64 V, .int .i64 E]) ∧ w' = w)) :
    Calls Tryd.prog 12 #[.string s, .int .i64 lo, .int .i64 hi] w fun e w' => e = .returned (.tuple #[.int .i64 0, .bool false]) ∧ w' = w := by
  go_enter Tryd.func12, Tryd.ntmps12
  go_wp2_with fail
  refine f.out.mono ?_
  rintro e w1 ⟨rfl, rfl⟩
  clear f
  go_wp2
  go_ret2
  exact ⟨rfl, rfl⟩
set_option maxRecDepth 100000 in
set_option maxHeartbeats 4000000 in
theorem rnum_lo (s : ByteArray) (w : World) (lo hi V : Int) (bV : -9223372036854775808 ≤ V ∧ V ≤ 9223372036854775807) (q1 : V < lo) (f : Hid (Calls Tryd.prog 22 #[.string s] w fun e w' => e = .returned (.tuple #[.int .i64 V, .int .i64 0]) ∧ w' = w)) :
    Calls Tryd.prog 12 #[.string s, .int .i64 lo, .int .i64 hi] w fun e w' => e = .returned (.tuple #[.int .i64 0, .bool false]) ∧ w' = w := by
  go_enter Tryd.func12, Tryd.ntmps12
  go_wp2_with fail
  refine f.out.mono ?_
  rintro e w1 ⟨rfl, rfl⟩
  clear f
  go_wp2
  go_ret2
  exact ⟨rfl, rfl⟩
set_option maxRecDepth 100000 in
set_option maxHeartbeats 4000000 in
theorem rnum_hi (s : ByteArray) (w : World) (lo hi V : Int) (bV : -9223372036854775808 ≤ V ∧ V ≤ 9223372036854775807) (q0 : lo ≤ V) (q1 : hi < V) (f : Hid (Calls Tryd.prog 22 #[.string s] w fun e w' => e = .returned (.tuple #[.int .i64 V, .int .i64 0]) ∧ w' = w)) :
    Calls Tryd.prog 12 #[.string s, .int .i64 lo, .int .i64 hi] w fun e w' => e = .returned (.tuple #[.int .i64 0, .bool false]) ∧ w' = w := by
  go_enter Tryd.func12, Tryd.ntmps12
  go_wp2_with fail
  refine f.out.mono ?_
  rintro e w1 ⟨rfl, rfl⟩
  clear f
  go_wp2
  go_ret2
  exact ⟨rfl, rfl⟩
set_option maxRecDepth 100000 in
set_option maxHeartbeats 4000000 in
theorem rnum_ok (s : ByteArray) (w : World) (lo hi V : Int) (bV : -9223372036854775808 ≤ V ∧ V ≤ 9223372036854775807) (q0 : lo ≤ V) (q1 : V ≤ hi) (f : Hid (Calls Tryd.prog 22 #[.string s] w fun e w' => e = .returned (.tuple #[.int .i64 V, .int .i64 0]) ∧ w' = w)) :
    Calls Tryd.prog 12 #[.string s, .int .i64 lo, .int .i64 hi] w fun e w' => e = .returned (.tuple #[.int .i64 V, .bool true]) ∧ w' = w := by
  go_enter Tryd.func12, Tryd.ntmps12
  go_wp2_with fail
  refine f.out.mono ?_
  rintro e w1 ⟨rfl, rfl⟩
  clear f
  go_wp2
  go_ret2
  exact ⟨rfl, rfl⟩
theorem rnum_any (s : ByteArray) (w : World) (hs : s.size ≤ maxLen) (lo hi : Int) : Calls Tryd.prog 12 #[.string s, .int .i64 lo, .int .i64 hi] w fun e w' => e = .returned (.tuple #[.int .i64 (numV s.data.toList lo hi), .bool (numB s.data.toList lo hi)]) ∧ w' = w := by
  have f := rread_any s w hs
  have bV := readV_bd s.data.toList
  unfold numV
  obtain ⟨B, hB⟩ : ∃ B, numB s.data.toList lo hi = B := ⟨_, rfl⟩
  have hB2 := hB
  unfold numB at hB2
  rw [hB]
  by_cases hE : readE s.data.toList = 0
  · rw [hE] at f hB2
    by_cases q0 : lo ≤ readV s.data.toList
    · by_cases q1 : readV s.data.toList ≤ hi
      · obtain rfl : B = true := by rw [← hB2]; simp [q0, q1]
        rw [if_pos rfl]
        exact rnum_ok s w lo hi _ bV q0 q1 f
      · obtain rfl : B = false := by rw [← hB2]; simp; omega
        rw [if_neg (by simp)]
        exact rnum_hi s w lo hi _ bV q0 (by omega) f
    · obtain rfl : B = false := by rw [← hB2]; simp; omega
      rw [if_neg (by simp)]
      exact rnum_lo s w lo hi _ bV (by omega) f
  · obtain rfl : B = false := by rw [← hB2]; simp [hE]
    rw [if_neg (by simp)]
    exact rnum_e s w lo hi _ _ bV hE (bne_iff_ne.2 hE) f
end Go.Proofs.YteemaofajcbniaaDoor
