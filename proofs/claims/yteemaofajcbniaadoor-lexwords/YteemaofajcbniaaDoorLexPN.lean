/-
  What the program's own Number returns (layer 7): it is the document's. Conditions: as the contract says.
-/
import Derived.Test.YteemaofajcbniaaDoorReads2
import Derived.Test.YteemaofajcbniaaDoorLexLawW
namespace Go.Proofs.YteemaofajcbniaaDoor
open Go.RowKit
set_option linter.unusedVariables false

set_option maxRecDepth 100000 in
set_option maxHeartbeats 4000000 in
theorem pnum_e (s : ByteArray) (w : World) (lo hi V E : Int) (bV : -9223372036854775808 ≤ V ∧ V ≤ 9223372036854775807) (hE : ¬ E = 0) (hE2 : (E != 0) = true) (f : Hid (Calls Tryd.prog 21 #[.string s] w fun e w' => e = .returned (.tuple #[.int .i64 V, .int .i64 E]) ∧ w' = w)) :
    Calls Tryd.prog 11 #[.string s, .int .i64 lo, .int .i64 hi] w fun e w' => e = .returned (.tuple #[.int .i64 0, .bool false]) ∧ w' = w := by
  go_enter Tryd.func11, Tryd.ntmps11
  go_wp2_with fail
  refine f.out.mono ?_
  rintro e w1 ⟨rfl, rfl⟩
  clear f
  go_wp2
  go_ret2
  exact ⟨rfl, rfl⟩
set_option maxRecDepth 100000 in
set_option maxHeartbeats 4000000 in
theorem pnum_lo (s : ByteArray) (w : World) (lo hi V : Int) (bV : -9223372036854775808 ≤ V ∧ V ≤ 9223372036854775807) (q1 : V < lo) (f : Hid (Calls Tryd.prog 21 #[.string s] w fun e w' => e = .returned (.tuple #[.int .i64 V, .int .i64 0]) ∧ w' = w)) :
    Calls Tryd.prog 11 #[.string s, .int .i64 lo, .int .i64 hi] w fun e w' => e = .returned (.tuple #[.int .i64 0, .bool false]) ∧ w' = w := by
  go_enter Tryd.func11, Tryd.ntmps11
  go_wp2_with fail
  refine f.out.mono ?_
  rintro e w1 ⟨rfl, rfl⟩
  clear f
  go_wp2
  go_ret2
  exact ⟨rfl, rfl⟩
set_option maxRecDepth 100000 in
set_option maxHeartbeats 4000000 in
theorem pnum_hi (s : ByteArray) (w : World) (lo hi V : Int) (bV : -9223372036854775808 ≤ V ∧ V ≤ 9223372036854775807) (q0 : lo ≤ V) (q1 : hi < V) (f : Hid (Calls Tryd.prog 21 #[.string s] w fun e w' => e = .returned (.tuple #[.int .i64 V, .int .i64 0]) ∧ w' = w)) :
    Calls Tryd.prog 11 #[.string s, .int .i64 lo, .int .i64 hi] w fun e w' => e = .returned (.tuple #[.int .i64 0, .bool false]) ∧ w' = w := by
  go_enter Tryd.func11, Tryd.ntmps11
  go_wp2_with fail
  refine f.out.mono ?_
  rintro e w1 ⟨rfl, rfl⟩
  clear f
  go_wp2
  go_ret2
  exact ⟨rfl, rfl⟩
set_option maxRecDepth 100000 in
set_option maxHeartbeats 4000000 in
theorem pnum_ok (s : ByteArray) (w : World) (lo hi V : Int) (bV : -9223372036854775808 ≤ V ∧ V ≤ 9223372036854775807) (q0 : lo ≤ V) (q1 : V ≤ hi) (f : Hid (Calls Tryd.prog 21 #[.string s] w fun e w' => e = .returned (.tuple #[.int .i64 V, .int .i64 0]) ∧ w' = w)) :
    Calls Tryd.prog 11 #[.string s, .int .i64 lo, .int .i64 hi] w fun e w' => e = .returned (.tuple #[.int .i64 V, .bool true]) ∧ w' = w := by
  go_enter Tryd.func11, Tryd.ntmps11
  go_wp2_with fail
  refine f.out.mono ?_
  rintro e w1 ⟨rfl, rfl⟩
  clear f
  go_wp2
  go_ret2
  exact ⟨rfl, rfl⟩
theorem pnum_any (s : ByteArray) (w : World) (hs : s.size ≤ maxLen) (lo hi : Int) : Calls Tryd.prog 11 #[.string s, .int .i64 lo, .int .i64 hi] w fun e w' => e = .returned (.tuple #[.int .i64 (numV s.data.toList lo hi), .bool (numB s.data.toList lo hi)]) ∧ w' = w := by
  have f := read_any s w hs
  have bV := readV_bd s.data.toList
  unfold numV
  obtain ⟨B, hB⟩ : ∃ B, numB s.data.toList lo hi = B := ⟨_, rfl⟩
  have hB2 := hB
  unfold numB at hB2
  rw [hB]
  by_cases hE : readE s.data.toList = 0
  · rw [hE] at f hB2
    by_cases q0 : lo ≤ readV s.data.toList
    · by_cases q1 : readV s.data.toList ≤ hi
      · obtain rfl : B = true := by rw [← hB2]; simp [q0, q1]
        rw [if_pos rfl]
        exact pnum_ok s w lo hi _ bV q0 q1 f
      · obtain rfl : B = false := by rw [← hB2]; simp; omega
        rw [if_neg (by simp)]
        exact pnum_hi s w lo hi _ bV q0 (by omega) f
    · obtain rfl : B = false := by rw [← hB2]; simp; omega
      rw [if_neg (by simp)]
      exact pnum_lo s w lo hi _ bV (by omega) f
  · obtain rfl : B = false := by rw [← hB2]; simp [hE]
    rw [if_neg (by simp)]
    exact pnum_e s w lo hi _ _ bV hE (bne_iff_ne.2 hE) f
theorem HN : NumP := fun s lo hi w hs hlo hhi => same_w (pnum_any s w (by unfold maxLen; omega) lo hi)
end Go.Proofs.YteemaofajcbniaaDoor
