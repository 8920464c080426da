/-
  What the program's own fits and divide return, of each kind of number (layer 4). Conditions: the numbers are of their kinds.
-/
import Derived.Test.YtoocppfdcalmfaaCrcPA
namespace Go.Proofs.Ytoocppfdcalmfaa
open Go.RowKit
set_option linter.unusedVariables false

theorem stN_lt {w p r : Nat} (hw : 1 ≤ w) (hp : p < 2 ^ w) (hr : r < 2 ^ w) : stN w p r < 2 ^ w := by
  have d : 2 ^ w = 2 * 2 ^ (w - 1) := by rw [← Nat.pow_succ']; congr 1; omega
  unfold stN
  split
  · exact Nat.xor_lt_two_pow (by omega) hp
  · omega
theorem itN_lt {w p : Nat} (hw : 1 ≤ w) (hp : p < 2 ^ w) (k : Nat) : ∀ {r : Nat}, r < 2 ^ w → itN w p k r < 2 ^ w := by
  induction k with
  | zero => intro r h; exact h
  | succ k ih => intro r h; exact ih (stN_lt hw hp h)
/-- what is left to do behind k steps -/
def LeftD (w p x k T : Nat) : Prop := itN w p (8 - k) x = T
theorem LeftD.next {w p x k T : Nat} (h : LeftD w p x k T) (hk : k < 8) : LeftD w p (stN w p x) (k + 1) T := by
  unfold LeftD at *
  rw [show 8 - k = (8 - (k + 1)) + 1 by omega] at h
  exact h
theorem LeftD.done {w p x T : Nat} (h : LeftD w p x 8 T) : x = T := h

theorem fits8_yes (v : Nat) (w : World) (h : v < 256) : Calls Try.prog 33 #[.int .u32 (v : Int)] w fun e w' => e = .returned (.bool true) ∧ w' = w := by
  have a1 : IntKind.u8.wrap (v : Int) = (v : Int) := by simp only [IntKind.wrap_u8']; omega
  have a2 : IntKind.u32.wrap (v : Int) = (v : Int) := by simp only [IntKind.wrap_u32']; omega
  go_enter Try.func33, Try.ntmps33
  go_wp2
  go_ret
  exact ⟨rfl, rfl⟩
theorem fits8_no (v : Nat) (w : World) (h : 256 ≤ v) (h2 : v < 4294967296) : Calls Try.prog 33 #[.int .u32 (v : Int)] w fun e w' => e = .returned (.bool false) ∧ w' = w := by
  obtain ⟨u, hu⟩ : ∃ u : Nat, u = v % 256 := ⟨_, rfl⟩
  have a1 : IntKind.u8.wrap (v : Int) = (u : Int) := by simp only [IntKind.wrap_u8']; omega
  have a2 : IntKind.u32.wrap (u : Int) = (u : Int) := by simp only [IntKind.wrap_u32']; omega
  have a3 : ((u : Int) == (v : Int)) = false := by rw [beq_eq_false_iff_ne]; omega
  have HU : Hid (u = v % 256) := hu
  clear hu
  go_enter Try.func33, Try.ntmps33
  go_wp2
  go_ret
  exact ⟨rfl, rfl⟩

set_option maxHeartbeats 2000000 in
theorem div8_any (r p : Nat) (w : World) (hr : r < 256) (hp : p < 256) : Calls Try.prog 35 #[.int .u8 (r : Int), .int .u8 (p : Int), .int .i64 8] w fun e w' => e = .returned (.int .u8 ((itN 8 p 8 r : Nat) : Int)) ∧ w' = w := by
  obtain ⟨T, hT⟩ : ∃ T, itN 8 p 8 r = T := ⟨_, rfl⟩
  rw [hT]
  have L0 : Hid (LeftD 8 p r 0 T) := hT
  clear hT
  go_enter Try.func35, Try.ntmps35
  go_wp2
  go_loop [0, 8] (fun a i => ∃ k x : Nat, k ≤ 8 ∧ x < 256 ∧ i = .int .i64 (k : Int) ∧ a = .int .u8 (x : Int) ∧ Hid (LeftD 8 p x k T)) (fun _ i => 8 - (intOf i).toNat)
  case atStart => exact ⟨0, r, by omega, hr, rfl, rfl, L0⟩
  case round =>
    obtain ⟨k, x, hk, hx, rfl, rfl, L⟩ := hrel
    clear L0
    by_cases hlt : (k : Int) < 8
    · have hxs : Hid (stN 8 p x < 256) := stN_lt (w := 8) (by omega) hp hx
      have L1 : Hid (LeftD 8 p (stN 8 p x) (k + 1) T) := L.out.next (by omega)
      clear L
      by_cases hh : 128 ≤ x
      · have e0 : Hid (stN 8 p x = (2 * x - 256) ^^^ p) := by
          show _ = _
          unfold stN; rw [if_pos (by simpa using hh)]
        obtain ⟨y, hy⟩ : ∃ y : Nat, y = 2 * x - 256 := ⟨_, rfl⟩
        rw [← hy] at e0
        replace e0 : Hid (stN 8 p x = y ^^^ p) := e0
        have a1 : (x : Int) / 128 = 1 := by omega
        have a2 : IntKind.u8.wrap ((x : Int) * 2) = (y : Int) := by simp only [IntKind.wrap_u8']; omega
        have yb : y < 256 := by omega
        clear hy
        obtain ⟨u, hu⟩ : ∃ u : Nat, u = y ^^^ p := ⟨_, rfl⟩
        have a3 : bits .xor .u8 (y : Int) (p : Int) = (u : Int) := by rw [u8_xor_nat y p yb hp, hu]
        rw [← hu] at e0
        replace e0 : Hid (stN 8 p x = u) := e0
        clear hu
        go_wp2
        exact ⟨⟨k + 1, u, by omega, by rw [← e0.out]; exact hxs.out, by simp, rfl, by unfold Hid; rw [← e0.out]; exact L1.out⟩, by simp [intOf]; omega⟩
      · have e0 : Hid (stN 8 p x = 2 * x) := by
          show _ = _
          unfold stN; rw [if_neg (by simpa using hh)]
        have a1 : (x : Int) / 128 = 0 := by omega
        have a2 : IntKind.u8.wrap ((x : Int) * 2) = (x : Int) * 2 := by simp only [IntKind.wrap_u8']; omega
        go_wp2
        exact ⟨⟨k + 1, 2 * x, by omega, by rw [← e0.out]; exact hxs.out, by simp, by congr 1; omega, by unfold Hid; rw [← e0.out]; exact L1.out⟩, by simp [intOf]; omega⟩
    · obtain rfl : k = 8 := by omega
      go_wp2
      go_ret
      exact ⟨ret_nat L.out.done, rfl⟩

theorem fits16_yes (v : Nat) (w : World) (h : v < 65536) : Calls Try.prog 36 #[.int .u32 (v : Int)] w fun e w' => e = .returned (.bool true) ∧ w' = w := by
  have a1 : IntKind.u16.wrap (v : Int) = (v : Int) := by simp only [IntKind.wrap_u16]; omega
  have a2 : IntKind.u32.wrap (v : Int) = (v : Int) := by simp only [IntKind.wrap_u32']; omega
  go_enter Try.func36, Try.ntmps36
  go_wp2
  go_ret
  exact ⟨rfl, rfl⟩
theorem fits16_no (v : Nat) (w : World) (h : 65536 ≤ v) (h2 : v < 4294967296) : Calls Try.prog 36 #[.int .u32 (v : Int)] w fun e w' => e = .returned (.bool false) ∧ w' = w := by
  obtain ⟨u, hu⟩ : ∃ u : Nat, u = v % 65536 := ⟨_, rfl⟩
  have a1 : IntKind.u16.wrap (v : Int) = (u : Int) := by simp only [IntKind.wrap_u16]; omega
  have a2 : IntKind.u32.wrap (u : Int) = (u : Int) := by simp only [IntKind.wrap_u32']; omega
  have a3 : ((u : Int) == (v : Int)) = false := by rw [beq_eq_false_iff_ne]; omega
  have HU : Hid (u = v % 65536) := hu
  clear hu
  go_enter Try.func36, Try.ntmps36
  go_wp2
  go_ret
  exact ⟨rfl, rfl⟩

set_option maxHeartbeats 2000000 in
theorem div16_any (r p : Nat) (w : World) (hr : r < 65536) (hp : p < 65536) : Calls Try.prog 37 #[.int .u16 (r : Int), .int .u16 (p : Int), .int .i64 16] w fun e w' => e = .returned (.int .u16 ((itN 16 p 8 r : Nat) : Int)) ∧ w' = w := by
  obtain ⟨T, hT⟩ : ∃ T, itN 16 p 8 r = T := ⟨_, rfl⟩
  rw [hT]
  have L0 : Hid (LeftD 16 p r 0 T) := hT
  clear hT
  go_enter Try.func37, Try.ntmps37
  go_wp2
  go_loop [0, 8] (fun a i => ∃ k x : Nat, k ≤ 8 ∧ x < 65536 ∧ i = .int .i64 (k : Int) ∧ a = .int .u16 (x : Int) ∧ Hid (LeftD 16 p x k T)) (fun _ i => 8 - (intOf i).toNat)
  case atStart => exact ⟨0, r, by omega, hr, rfl, rfl, L0⟩
  case round =>
    obtain ⟨k, x, hk, hx, rfl, rfl, L⟩ := hrel
    clear L0
    by_cases hlt : (k : Int) < 8
    · have hxs : Hid (stN 16 p x < 65536) := stN_lt (w := 16) (by omega) hp hx
      have L1 : Hid (LeftD 16 p (stN 16 p x) (k + 1) T) := L.out.next (by omega)
      clear L
      by_cases hh : 32768 ≤ x
      · have e0 : Hid (stN 16 p x = (2 * x - 65536) ^^^ p) := by
          show _ = _
          unfold stN; rw [if_pos (by simpa using hh)]
        obtain ⟨y, hy⟩ : ∃ y : Nat, y = 2 * x - 65536 := ⟨_, rfl⟩
        rw [← hy] at e0
        replace e0 : Hid (stN 16 p x = y ^^^ p) := e0
        have a1 : (x : Int) / 32768 = 1 := by omega
        have a2 : IntKind.u16.wrap ((x : Int) * 2) = (y : Int) := by simp only [IntKind.wrap_u16]; omega
        have yb : y < 65536 := by omega
        clear hy
        obtain ⟨u, hu⟩ : ∃ u : Nat, u = y ^^^ p := ⟨_, rfl⟩
        have a3 : bits .xor .u16 (y : Int) (p : Int) = (u : Int) := by rw [u16_xor_nat y p yb hp, hu]
        rw [← hu] at e0
        replace e0 : Hid (stN 16 p x = u) := e0
        clear hu
        go_wp2
        exact ⟨⟨k + 1, u, by omega, by rw [← e0.out]; exact hxs.out, by simp, rfl, by unfold Hid; rw [← e0.out]; exact L1.out⟩, by simp [intOf]; omega⟩
      · have e0 : Hid (stN 16 p x = 2 * x) := by
          show _ = _
          unfold stN; rw [if_neg (by simpa using hh)]
        have a1 : (x : Int) / 32768 = 0 := by omega
        have a2 : IntKind.u16.wrap ((x : Int) * 2) = (x : Int) * 2 := by simp only [IntKind.wrap_u16]; omega
        go_wp2
        exact ⟨⟨k + 1, 2 * x, by omega, by rw [← e0.out]; exact hxs.out, by simp, by congr 1; omega, by unfold Hid; rw [← e0.out]; exact L1.out⟩, by simp [intOf]; omega⟩
    · obtain rfl : k = 8 := by omega
      go_wp2
      go_ret
      exact ⟨ret_nat L.out.done, rfl⟩

theorem fits32_yes (v : Nat) (w : World) (h : v < 4294967296) : Calls Try.prog 38 #[.int .u32 (v : Int)] w fun e w' => e = .returned (.bool true) ∧ w' = w := by
  have a2 : IntKind.u32.wrap (v : Int) = (v : Int) := by simp only [IntKind.wrap_u32']; omega
  go_enter Try.func38, Try.ntmps38
  go_wp2
  go_ret
  exact ⟨rfl, rfl⟩

set_option maxHeartbeats 2000000 in
theorem div32_any (r p : Nat) (w : World) (hr : r < 4294967296) (hp : p < 4294967296) : Calls Try.prog 39 #[.int .u32 (r : Int), .int .u32 (p : Int), .int .i64 32] w fun e w' => e = .returned (.int .u32 ((itN 32 p 8 r : Nat) : Int)) ∧ w' = w := by
  obtain ⟨T, hT⟩ : ∃ T, itN 32 p 8 r = T := ⟨_, rfl⟩
  rw [hT]
  have L0 : Hid (LeftD 32 p r 0 T) := hT
  clear hT
  go_enter Try.func39, Try.ntmps39
  go_wp2
  go_loop [0, 8] (fun a i => ∃ k x : Nat, k ≤ 8 ∧ x < 4294967296 ∧ i = .int .i64 (k : Int) ∧ a = .int .u32 (x : Int) ∧ Hid (LeftD 32 p x k T)) (fun _ i => 8 - (intOf i).toNat)
  case atStart => exact ⟨0, r, by omega, hr, rfl, rfl, L0⟩
  case round =>
    obtain ⟨k, x, hk, hx, rfl, rfl, L⟩ := hrel
    clear L0
    by_cases hlt : (k : Int) < 8
    · have hxs : Hid (stN 32 p x < 4294967296) := stN_lt (w := 32) (by omega) hp hx
      have L1 : Hid (LeftD 32 p (stN 32 p x) (k + 1) T) := L.out.next (by omega)
      clear L
      by_cases hh : 2147483648 ≤ x
      · have e0 : Hid (stN 32 p x = (2 * x - 4294967296) ^^^ p) := by
          show _ = _
          unfold stN; rw [if_pos (by simpa using hh)]
        obtain ⟨y, hy⟩ : ∃ y : Nat, y = 2 * x - 4294967296 := ⟨_, rfl⟩
        rw [← hy] at e0
        replace e0 : Hid (stN 32 p x = y ^^^ p) := e0
        have a1 : (x : Int) / 2147483648 = 1 := by omega
        have a2 : IntKind.u32.wrap ((x : Int) * 2) = (y : Int) := by simp only [IntKind.wrap_u32']; omega
        have yb : y < 4294967296 := by omega
        clear hy
        obtain ⟨u, hu⟩ : ∃ u : Nat, u = y ^^^ p := ⟨_, rfl⟩
        have a3 : bits .xor .u32 (y : Int) (p : Int) = (u : Int) := by rw [u32_xor_nat y p yb hp, hu]
        rw [← hu] at e0
        replace e0 : Hid (stN 32 p x = u) := e0
        clear hu
        go_wp2
        exact ⟨⟨k + 1, u, by omega, by rw [← e0.out]; exact hxs.out, by simp, rfl, by unfold Hid; rw [← e0.out]; exact L1.out⟩, by simp [intOf]; omega⟩
      · have e0 : Hid (stN 32 p x = 2 * x) := by
          show _ = _
          unfold stN; rw [if_neg (by simpa using hh)]
        have a1 : (x : Int) / 2147483648 = 0 := by omega
        have a2 : IntKind.u32.wrap ((x : Int) * 2) = (x : Int) * 2 := by simp only [IntKind.wrap_u32']; omega
        go_wp2
        exact ⟨⟨k + 1, 2 * x, by omega, by rw [← e0.out]; exact hxs.out, by simp, by congr 1; omega, by unfold Hid; rw [← e0.out]; exact L1.out⟩, by simp [intOf]; omega⟩
    · obtain rfl : k = 8 := by omega
      go_wp2
      go_ret
      exact ⟨ret_nat L.out.done, rfl⟩
end Go.Proofs.Ytoocppfdcalmfaa
