/-
  What the document's own Turn and Right return (layer 4). Conditions: the numbers are of their kinds.
-/
import Derived.Test.YtjbgjiodmhpbbaaCrcRefA
namespace Go.Proofs.Ytjbgjiodmhpbbaa
open Go.RowKit
set_option linter.unusedVariables false

theorem belowT {a b c : World} (h : Below a.heap.size a b) (k : Below b.heap.size b c) : Below a.heap.size a c := h.trans (k.mono h.size)

/-- what Turn answers -/
def turnV (v : Nat) (n : Int) : Nat := if 1 ≤ n ∧ n ≤ 32 then turnL v n.toNat else 0

set_option maxHeartbeats 2000000 in
theorem rturn_any (v : Nat) (n : Int) (w : World) (hv : v < 4294967296) (hn : -9223372036854775808 ≤ n ∧ n ≤ 9223372036854775807) :
    Calls Try.prog 15 #[.int .u32 (v : Int), .int .i64 n] w fun e w' => e = .returned (.int .u32 ((turnV v n : Nat) : Int)) ∧ Below w.heap.size w w' := by
  unfold turnV
  by_cases h1 : n < 1
  · rw [if_neg (by omega)]
    go_enter Try.func15, Try.ntmps15
    go_wp2
    go_ret
    exact ⟨rfl, Below.refl _ _⟩
  · by_cases h2 : 32 < n
    · rw [if_neg (by omega)]
      go_enter Try.func15, Try.ntmps15
      go_wp2
      go_ret
      exact ⟨rfl, Below.refl _ _⟩
    · rw [if_pos (by omega)]
      obtain ⟨m, rfl⟩ : ∃ m : Nat, n = m := ⟨n.toNat, by omega⟩
      simp only [Int.toNat_natCast]
      have f1 : Hid (∀ w, Calls Try.prog 19 #[.int .u32 (v : Int), .int .i64 (m : Int)] w fun e w' => ∃ x, e = .returned x ∧ Row w' w.heap.size x (bitsL v m) ∧ Below w.heap.size w w') := fun w => bits_any v m w hv (by omega)
      have hl : Hid ((bitsL v m).length ≤ 32 ∧ (bitsL v m).reverse.length ≤ 32) := by
        refine ⟨?_, ?_⟩ <;> simp [bitsL_len] <;> omega
      go_enter Try.func15, Try.ntmps15
      go_wp2_with fail
      refine (f1.out _).mono ?_
      rintro e w1 ⟨x, rfl, hx, hb1⟩
      have X : Hid (Row w1 w.heap.size x (bitsL v m)) := hx
      have B : Hid (Below w.heap.size w w1) := hb1
      clear hx hb1 f1
      go_wp2_with fail
      refine (turned_any (bitsL v m) x w.heap.size w1 X.out (by have := hl.out.1; omega)).mono ?_
      rintro e w2 ⟨y, rfl, hy, hb2⟩
      have Y : Hid (Row w2 w1.heap.size y (bitsL v m).reverse) := hy
      replace B : Hid (Below w.heap.size w w2) := belowT B.out hb2
      clear hy hb2 X
      go_wp2_with fail
      refine (number_any (bitsL v m).reverse y w1.heap.size w2 Y.out hl.out.2).mono ?_
      rintro e w3 ⟨rfl, rfl⟩
      clear Y
      go_wp2
      go_ret
      exact ⟨rfl, B.out⟩

theorem ret_bl {a b : Bool} (h : b = a) : Ending.returned (.bool a) = .returned (.bool b) := by rw [h]
/-- a kind's value -/
abbrev kv (W : Int) (p f : Nat) (t : Bool) (z : Nat) : Value := .agg #[.int .i64 W, .int .u32 (p : Int), .int .u32 (f : Int), .bool t, .int .u32 (z : Int)]
/-- may a kind be? -/
def kindB (W : Int) (p f z : Nat) : Bool := decide (W = 8 ∨ W = 16 ∨ W = 32) && (decide (p < 2 ^ W.toNat) && (decide (f < 2 ^ W.toNat) && decide (z < 2 ^ W.toNat)))

set_option maxRecDepth 100000 in
set_option maxHeartbeats 4000000 in
theorem rkind8 (p f : Nat) (t : Bool) (z : Nat) (w : World) (hp : p < 4294967296) (hf : f < 4294967296) (hz : z < 4294967296) :
    Calls Try.prog 11 #[kv 8 p f t z] w fun e w' => e = .returned (.bool (decide (p < 256) && (decide (f < 256) && decide (z < 256)))) ∧ Below w.heap.size w w' := by
  have G : Hid (Below w.heap.size w (w.alloc (.cells #[.int .i64 8, .int .u32 (p : Int), .int .u32 (f : Int), .bool t, .int .u32 (z : Int)] 24))) := (Below.refl _ _).alloc (Nat.le_refl _) _
  obtain ⟨R, hR⟩ : ∃ R, R = (decide (p < 256) && (decide (f < 256) && decide (z < 256))) := ⟨_, rfl⟩
  rw [← hR]
  have HR : Hid (R = (decide (p < 256) && (decide (f < 256) && decide (z < 256)))) := hR
  clear hR
  go_enter Try.func11, Try.ntmps11
  go_wp2
  go_loop [3, 4] (fun m i => ∃ k q : Nat, k ≤ 8 ∧ i = .int .i64 (k : Int) ∧ m = .int .u64 (q : Int) ∧ Hid (q = 2 ^ k)) (fun _ i => 8 - (intOf i).toNat)
  case atStart => exact ⟨0, 1, by omega, rfl, rfl, rfl⟩
  case round =>
    obtain ⟨k, q, hk, rfl, rfl, hq⟩ := hrel
    by_cases h1 : (k : Int) < 8
    · have hqb : (1 : Int) ≤ (q : Int) ∧ (q : Int) ≤ 4294967296 := by
        have h1 : 2 ^ k ≤ 2 ^ 32 := Nat.pow_le_pow_right (by omega) (by omega)
        have h2 : 0 < 2 ^ k := Nat.two_pow_pos k
        have := hq.out
        exact ⟨by omega, by omega⟩
      have w1 : IntKind.u64.wrap ((q : Int) * 2) = (q : Int) * 2 := by simp only [IntKind.wrap_u64]; omega
      have hn : Hid (q * 2 = 2 ^ (k + 1)) := by show _ = _; rw [hq.out, Nat.pow_succ]
      go_wp2
      exact ⟨⟨k + 1, q * 2, by omega, by simp, by simp, hn⟩, by simp [intOf]; omega⟩
    · obtain rfl : k = 8 := by omega
      obtain rfl : q = 256 := hq.out
      clear hq hk
      by_cases c1 : (p : Int) < 256
      · by_cases c2 : (f : Int) < 256
        · by_cases c3 : (z : Int) < 256
          all_goals
            go_wp2
            go_ret
            exact ⟨ret_bl (by rw [HR.out]; simp; omega), G.out⟩
        · go_wp2
          go_ret
          exact ⟨ret_bl (by rw [HR.out]; simp; omega), G.out⟩
      · go_wp2
        go_ret
        exact ⟨ret_bl (by rw [HR.out]; simp; omega), G.out⟩
set_option maxRecDepth 100000 in
set_option maxHeartbeats 4000000 in
theorem rkind16 (p f : Nat) (t : Bool) (z : Nat) (w : World) (hp : p < 4294967296) (hf : f < 4294967296) (hz : z < 4294967296) :
    Calls Try.prog 11 #[kv 16 p f t z] w fun e w' => e = .returned (.bool (decide (p < 65536) && (decide (f < 65536) && decide (z < 65536)))) ∧ Below w.heap.size w w' := by
  have G : Hid (Below w.heap.size w (w.alloc (.cells #[.int .i64 16, .int .u32 (p : Int), .int .u32 (f : Int), .bool t, .int .u32 (z : Int)] 24))) := (Below.refl _ _).alloc (Nat.le_refl _) _
  obtain ⟨R, hR⟩ : ∃ R, R = (decide (p < 65536) && (decide (f < 65536) && decide (z < 65536))) := ⟨_, rfl⟩
  rw [← hR]
  have HR : Hid (R = (decide (p < 65536) && (decide (f < 65536) && decide (z < 65536)))) := hR
  clear hR
  go_enter Try.func11, Try.ntmps11
  go_wp2
  go_loop [3, 4] (fun m i => ∃ k q : Nat, k ≤ 16 ∧ i = .int .i64 (k : Int) ∧ m = .int .u64 (q : Int) ∧ Hid (q = 2 ^ k)) (fun _ i => 16 - (intOf i).toNat)
  case atStart => exact ⟨0, 1, by omega, rfl, rfl, rfl⟩
  case round =>
    obtain ⟨k, q, hk, rfl, rfl, hq⟩ := hrel
    by_cases h1 : (k : Int) < 16
    · have hqb : (1 : Int) ≤ (q : Int) ∧ (q : Int) ≤ 4294967296 := by
        have h1 : 2 ^ k ≤ 2 ^ 32 := Nat.pow_le_pow_right (by omega) (by omega)
        have h2 : 0 < 2 ^ k := Nat.two_pow_pos k
        have := hq.out
        exact ⟨by omega, by omega⟩
      have w1 : IntKind.u64.wrap ((q : Int) * 2) = (q : Int) * 2 := by simp only [IntKind.wrap_u64]; omega
      have hn : Hid (q * 2 = 2 ^ (k + 1)) := by show _ = _; rw [hq.out, Nat.pow_succ]
      go_wp2
      exact ⟨⟨k + 1, q * 2, by omega, by simp, by simp, hn⟩, by simp [intOf]; omega⟩
    · obtain rfl : k = 16 := by omega
      obtain rfl : q = 65536 := hq.out
      clear hq hk
      by_cases c1 : (p : Int) < 65536
      · by_cases c2 : (f : Int) < 65536
        · by_cases c3 : (z : Int) < 65536
          all_goals
            go_wp2
            go_ret
            exact ⟨ret_bl (by rw [HR.out]; simp; omega), G.out⟩
        · go_wp2
          go_ret
          exact ⟨ret_bl (by rw [HR.out]; simp; omega), G.out⟩
      · go_wp2
        go_ret
        exact ⟨ret_bl (by rw [HR.out]; simp; omega), G.out⟩
set_option maxRecDepth 100000 in
set_option maxHeartbeats 4000000 in
theorem rkind32 (p f : Nat) (t : Bool) (z : Nat) (w : World) (hp : p < 4294967296) (hf : f < 4294967296) (hz : z < 4294967296) :
    Calls Try.prog 11 #[kv 32 p f t z] w fun e w' => e = .returned (.bool (decide (p < 4294967296) && (decide (f < 4294967296) && decide (z < 4294967296)))) ∧ Below w.heap.size w w' := by
  have G : Hid (Below w.heap.size w (w.alloc (.cells #[.int .i64 32, .int .u32 (p : Int), .int .u32 (f : Int), .bool t, .int .u32 (z : Int)] 24))) := (Below.refl _ _).alloc (Nat.le_refl _) _
  obtain ⟨R, hR⟩ : ∃ R, R = (decide (p < 4294967296) && (decide (f < 4294967296) && decide (z < 4294967296))) := ⟨_, rfl⟩
  rw [← hR]
  have HR : Hid (R = (decide (p < 4294967296) && (decide (f < 4294967296) && decide (z < 4294967296)))) := hR
  clear hR
  go_enter Try.func11, Try.ntmps11
  go_wp2
  go_loop [3, 4] (fun m i => ∃ k q : Nat, k ≤ 32 ∧ i = .int .i64 (k : Int) ∧ m = .int .u64 (q : Int) ∧ Hid (q = 2 ^ k)) (fun _ i => 32 - (intOf i).toNat)
  case atStart => exact ⟨0, 1, by omega, rfl, rfl, rfl⟩
  case round =>
    obtain ⟨k, q, hk, rfl, rfl, hq⟩ := hrel
    by_cases h1 : (k : Int) < 32
    · have hqb : (1 : Int) ≤ (q : Int) ∧ (q : Int) ≤ 4294967296 := by
        have h1 : 2 ^ k ≤ 2 ^ 32 := Nat.pow_le_pow_right (by omega) (by omega)
        have h2 : 0 < 2 ^ k := Nat.two_pow_pos k
        have := hq.out
        exact ⟨by omega, by omega⟩
      have w1 : IntKind.u64.wrap ((q : Int) * 2) = (q : Int) * 2 := by simp only [IntKind.wrap_u64]; omega
      have hn : Hid (q * 2 = 2 ^ (k + 1)) := by show _ = _; rw [hq.out, Nat.pow_succ]
      go_wp2
      exact ⟨⟨k + 1, q * 2, by omega, by simp, by simp, hn⟩, by simp [intOf]; omega⟩
    · obtain rfl : k = 32 := by omega
      obtain rfl : q = 4294967296 := hq.out
      clear hq hk
      have c1 : (p : Int) < 4294967296 := by omega
      have c2 : (f : Int) < 4294967296 := by omega
      have c3 : (z : Int) < 4294967296 := by omega
      go_wp2
      go_ret
      exact ⟨ret_bl (by rw [HR.out]; simp; omega), G.out⟩
set_option maxRecDepth 100000 in
set_option maxHeartbeats 4000000 in
theorem rkind_no (W : Int) (p f : Nat) (t : Bool) (z : Nat) (w : World) (hW : -9223372036854775808 ≤ W ∧ W ≤ 9223372036854775807) (h8 : (W == 8) = false) (h16 : (W == 16) = false) (h32 : (W == 32) = false) :
    Calls Try.prog 11 #[kv W p f t z] w fun e w' => e = .returned (.bool false) ∧ Below w.heap.size w w' := by
  have G : Hid (Below w.heap.size w (w.alloc (.cells #[.int .i64 W, .int .u32 (p : Int), .int .u32 (f : Int), .bool t, .int .u32 (z : Int)] 24))) := (Below.refl _ _).alloc (Nat.le_refl _) _
  go_enter Try.func11, Try.ntmps11
  go_wp2
  go_loop [3, 4] (fun m i => ∃ k : Nat, ∃ q : Int, k ≤ 40 ∧ i = .int .i64 (k : Int) ∧ m = .int .u64 q) (fun _ i => 40 - (intOf i).toNat)
  case atStart => exact ⟨0, 1, by omega, rfl, rfl⟩
  case round =>
    obtain ⟨k, q, hk, rfl, rfl⟩ := hrel
    by_cases h1 : (k : Int) < W
    · by_cases h2 : (k : Int) < 40
      · go_wp2
        exact ⟨⟨k + 1, _, by omega, by simp, rfl⟩, by simp [intOf]; omega⟩
      · go_wp2
        go_ret
        exact ⟨rfl, G.out⟩
    · go_wp2
      go_ret
      exact ⟨rfl, G.out⟩

theorem rkind_any (W : Int) (p f : Nat) (t : Bool) (z : Nat) (w : World) (hW : -9223372036854775808 ≤ W ∧ W ≤ 9223372036854775807) (hp : p < 4294967296) (hf : f < 4294967296) (hz : z < 4294967296) :
    Calls Try.prog 11 #[kv W p f t z] w fun e w' => e = .returned (.bool (kindB W p f z)) ∧ Below w.heap.size w w' := by
  by_cases h8 : W = 8
  · subst h8; exact rkind8 p f t z w hp hf hz
  by_cases h16 : W = 16
  · subst h16; exact rkind16 p f t z w hp hf hz
  by_cases h32 : W = 32
  · subst h32; exact rkind32 p f t z w hp hf hz
  have : kindB W p f z = false := by unfold kindB; simp [h8, h16, h32]
  rw [this]
  exact rkind_no W p f t z w hW (by simp [h8]) (by simp [h16]) (by simp [h32])
end Go.Proofs.Ytjbgjiodmhpbbaa
