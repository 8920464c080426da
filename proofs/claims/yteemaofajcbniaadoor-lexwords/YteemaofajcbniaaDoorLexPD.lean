/-
  What the program's own digit and Hex return (layer 7): they are the document's. Conditions: as the contract says.
-/
import Derived.Test.YteemaofajcbniaaDoorLexLawW
import Derived.Deep.OwnRows
namespace Go.Proofs.YteemaofajcbniaaDoor
open Go.RowKit
set_option linter.unusedVariables false

set_option maxRecDepth 100000 in
set_option maxHeartbeats 4000000 in
theorem digit_fig (c : Nat) (hc : (0 : Int) ≤ (c : Int) ∧ (c : Int) < 256) (h1 : (48 : Int) ≤ (c : Int)) (h2 : (c : Int) ≤ 57) (w : World) : Calls Tryd.prog 23 #[.int .u8 (c : Int)] w fun e w' => e = .returned (.tuple #[.int .u8 ((c : Int) - 48), .bool true]) ∧ w' = w := by
  have q1 : decide ((48 : Int) ≤ (c : Int)) = true := decide_eq_true h1
  have q2 : decide ((c : Int) ≤ 57) = true := decide_eq_true h2
  have wr : IntKind.u8.wrap ((c : Int) - 48) = (c : Int) - 48 := by simp only [IntKind.wrap_u8']; omega
  go_enter Tryd.func23, Tryd.ntmps23
  go_wp2
  go_ret2
  exact ⟨rfl, rfl⟩
set_option maxRecDepth 100000 in
set_option maxHeartbeats 4000000 in
theorem digit_low (c : Nat) (hc : (0 : Int) ≤ (c : Int) ∧ (c : Int) < 256) (h1 : (97 : Int) ≤ (c : Int)) (h2 : (c : Int) ≤ 102) (w : World) : Calls Tryd.prog 23 #[.int .u8 (c : Int)] w fun e w' => e = .returned (.tuple #[.int .u8 ((c : Int) - 97 + 10), .bool true]) ∧ w' = w := by
  have q1 : decide ((48 : Int) ≤ (c : Int)) = true := decide_eq_true (by omega)
  have q2 : decide ((c : Int) ≤ 57) = false := decide_eq_false (by omega)
  have q3 : decide ((97 : Int) ≤ (c : Int)) = true := decide_eq_true h1
  have q4 : decide ((c : Int) ≤ 102) = true := decide_eq_true h2
  have wr : IntKind.u8.wrap ((c : Int) - 97) = (c : Int) - 97 := by simp only [IntKind.wrap_u8']; omega
  have wr2 : IntKind.u8.wrap ((c : Int) - 97 + 10) = (c : Int) - 97 + 10 := by simp only [IntKind.wrap_u8']; omega
  go_enter Tryd.func23, Tryd.ntmps23
  go_wp2
  go_ret2
  exact ⟨rfl, rfl⟩
set_option maxRecDepth 100000 in
set_option maxHeartbeats 4000000 in
theorem digit_n1 (c : Nat) (hc : (0 : Int) ≤ (c : Int) ∧ (c : Int) < 256) (h1 : (c : Int) < 48) (w : World) : Calls Tryd.prog 23 #[.int .u8 (c : Int)] w fun e w' => e = .returned (.tuple #[.int .u8 (0), .bool false]) ∧ w' = w := by
  have q1 : decide ((48 : Int) ≤ (c : Int)) = false := decide_eq_false (by omega)
  have q3 : decide ((97 : Int) ≤ (c : Int)) = false := decide_eq_false (by omega)
  go_enter Tryd.func23, Tryd.ntmps23
  go_wp2
  go_ret2
  exact ⟨rfl, rfl⟩
set_option maxRecDepth 100000 in
set_option maxHeartbeats 4000000 in
theorem digit_n2 (c : Nat) (hc : (0 : Int) ≤ (c : Int) ∧ (c : Int) < 256) (h1 : (57 : Int) < (c : Int)) (h2 : (c : Int) < 97) (w : World) : Calls Tryd.prog 23 #[.int .u8 (c : Int)] w fun e w' => e = .returned (.tuple #[.int .u8 (0), .bool false]) ∧ w' = w := by
  have q1 : decide ((48 : Int) ≤ (c : Int)) = true := decide_eq_true (by omega)
  have q2 : decide ((c : Int) ≤ 57) = false := decide_eq_false (by omega)
  have q3 : decide ((97 : Int) ≤ (c : Int)) = false := decide_eq_false (by omega)
  go_enter Tryd.func23, Tryd.ntmps23
  go_wp2
  go_ret2
  exact ⟨rfl, rfl⟩
set_option maxRecDepth 100000 in
set_option maxHeartbeats 4000000 in
theorem digit_n3 (c : Nat) (hc : (0 : Int) ≤ (c : Int) ∧ (c : Int) < 256) (h1 : (102 : Int) < (c : Int)) (w : World) : Calls Tryd.prog 23 #[.int .u8 (c : Int)] w fun e w' => e = .returned (.tuple #[.int .u8 (0), .bool false]) ∧ w' = w := by
  have q1 : decide ((48 : Int) ≤ (c : Int)) = true := decide_eq_true (by omega)
  have q2 : decide ((c : Int) ≤ 57) = false := decide_eq_false (by omega)
  have q3 : decide ((97 : Int) ≤ (c : Int)) = true := decide_eq_true (by omega)
  have q4 : decide ((c : Int) ≤ 102) = false := decide_eq_false (by omega)
  go_enter Tryd.func23, Tryd.ntmps23
  go_wp2
  go_ret2
  exact ⟨rfl, rfl⟩
/-- what a digit counts: a number, and that it is one -/
def dgV (c : Nat) : Nat := (halfC c).toNat
def dgB (c : Nat) : Bool := decide (0 ≤ halfC c)
theorem dgV_lt (c : Nat) : dgV c < 16 := by unfold dgV; have := half_bd c; omega
theorem digit_any (c : Nat) (hc : c < 256) (w : World) : Calls Tryd.prog 23 #[.int .u8 (c : Int)] w fun e w' => e = .returned (.tuple #[.int .u8 ((dgV c : Nat) : Int), .bool (dgB c)]) ∧ w' = w := by
  have hci : (0 : Int) ≤ (c : Int) ∧ (c : Int) < 256 := ⟨by omega, by omega⟩
  have key : ∀ (V : Int) (B : Bool), (Calls Tryd.prog 23 #[.int .u8 (c : Int)] w fun e w' => e = .returned (.tuple #[.int .u8 V, .bool B]) ∧ w' = w) → V = ((dgV c : Nat) : Int) → B = dgB c → Calls Tryd.prog 23 #[.int .u8 (c : Int)] w fun e w' => e = .returned (.tuple #[.int .u8 ((dgV c : Nat) : Int), .bool (dgB c)]) ∧ w' = w := fun V B h e1 e2 => by rw [← e1, ← e2]; exact h
  by_cases h1 : 48 ≤ c
  · by_cases h2 : c ≤ 57
    · have e : halfC c = (c : Int) - 48 := by unfold halfC; rw [if_pos ⟨h1, h2⟩]
      exact key _ _ (digit_fig c hci (by omega) (by omega) w) (by unfold dgV; rw [e]; omega) (by unfold dgB; rw [e]; exact (decide_eq_true (by omega)).symm)
    · by_cases h3 : 97 ≤ c
      · by_cases h4 : c ≤ 102
        · have e : halfC c = (c : Int) - 87 := by unfold halfC; rw [if_neg (by omega), if_pos ⟨h3, h4⟩]
          exact key _ _ (digit_low c hci (by omega) (by omega) w) (by unfold dgV; rw [e]; omega) (by unfold dgB; rw [e]; exact (decide_eq_true (by omega)).symm)
        · have e : halfC c = -1 := by unfold halfC; rw [if_neg (by omega), if_neg (by omega)]
          exact key _ _ (digit_n3 c hci (by omega) w) (by unfold dgV; rw [e]; rfl) (by unfold dgB; rw [e]; rfl)
      · have e : halfC c = -1 := by unfold halfC; rw [if_neg (by omega), if_neg (by omega)]
        exact key _ _ (digit_n2 c hci (by omega) (by omega) w) (by unfold dgV; rw [e]; rfl) (by unfold dgB; rw [e]; rfl)
  · have e : halfC c = -1 := by unfold halfC; rw [if_neg (by omega), if_neg (by omega)]
    exact key _ _ (digit_n1 c hci (by omega) w) (by unfold dgV; rw [e]; rfl) (by unfold dgB; rw [e]; rfl)
end Go.Proofs.YteemaofajcbniaaDoor
