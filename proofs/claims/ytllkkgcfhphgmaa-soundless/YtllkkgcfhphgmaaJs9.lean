/-
  Texts that belong together, one behind the other: CrcKind, CrcRefC, CrcPA, CrcPB, DsMemK, MapStr, BitRefAR, BitPBR, LexKit. Conditions: as each says.
-/
import Derived.Laws.BitsAllLaws
import Derived.Laws.Concat
import Derived.Laws.Shifts
import Derived.Laws.Tables
import Derived.LoopN
import Derived.Maps.AppendAt
import Derived.Test.YtllkkgcfhphgmaaJs1
import Derived.Test.YtllkkgcfhphgmaaJs2
import Derived.Test.YtllkkgcfhphgmaaJs4
import Derived.Test.YtllkkgcfhphgmaaJs8
/-
  A kind of sum as a value, and when it may be; what Turn answers (layer 4). No conditions.
-/
namespace Go.Proofs.Ytllkkgcfhphgmaa
open Go.RowKit
set_option linter.unusedVariables false


/-- what Turn answers -/
def turnV (v : Nat) (n : Int) : Nat := if 1 ≤ n ∧ n ≤ 32 then turnL v n.toNat else 0

theorem ret_bl {a b : Bool} (h : b = a) : Ending.returned (.bool a) = .returned (.bool b) := by rw [h]
/-- a kind's value -/
abbrev kv (W : Int) (p f : Nat) (t : Bool) (z : Nat) : Value := .agg #[.int .i64 W, .int .u32 (p : Int), .int .u32 (f : Int), .bool t, .int .u32 (z : Int)]
/-- may a kind be? -/
def kindB (W : Int) (p f z : Nat) : Bool := decide (W = 8 ∨ W = 16 ∨ W = 32) && (decide (p < 2 ^ W.toNat) && (decide (f < 2 ^ W.toNat) && decide (z < 2 ^ W.toNat)))

end Go.Proofs.Ytllkkgcfhphgmaa
/-
  Rows of bits that are written in place; what the document's own Sum keeps from round to round (layer 4). No conditions but those that each says.
-/
namespace Go.Proofs.Ytllkkgcfhphgmaa
open Go.RowKit
set_option linter.unusedVariables false

/-- a row of W bits from the start of block g on -/
def RowW (x : World) (g cap W : Nat) (l : List Bool) : Prop :=
  l.length = W ∧ W ≤ cap ∧ cap ≤ maxLen ∧ ∃ cur : Array Value, x.heap[g]? = some (.cells cur 4 (0, 0)) ∧ cur.size = cap ∧ cur.toList.take W = l.map Value.bool
theorem RowW.lt {x : World} {g cap W : Nat} {l : List Bool} (h : RowW x g cap W l) : g < x.heap.size := by
  obtain ⟨_, _, _, cur, h4, _⟩ := h
  exact (Array.getElem?_eq_some_iff.1 h4).1
theorem RowW.row {x : World} {g cap W base : Nat} {l : List Bool} (h : RowW x g cap W l) (hb : base ≤ g) : Row x base (.slice (some ⟨g, 0, none⟩) W cap) l := by
  obtain ⟨h1, h2, h3, cur, h4, h5, h6⟩ := h
  subst h1
  exact ⟨by simp, .inr ⟨g, cap, cur, rfl, hb, h4, h2, h3, by omega, by simpa using h6⟩⟩
theorem RowW.of {x : World} {base : Nat} {v : Value} {l : List Bool} (h : Row x base v l) (hl : 0 < l.length) : ∃ g cap, v = .slice (some ⟨g, 0, none⟩) l.length cap ∧ base ≤ g ∧ RowW x g cap l.length l := by
  rcases h.2 with ⟨_, k⟩ | ⟨g, cap, cur, h1, h2, h3, h4, h5, h6, h7⟩
  · omega
  · exact ⟨g, cap, h1, h2, rfl, h4, h5, cur, h3, by omega, by simpa using h7⟩
theorem RowW.cell {x : World} {g cap W : Nat} {l : List Bool} (h : RowW x g cap W l) (j : Nat) (hj : j < l.length) : x.cell? ⟨g, j, none⟩ = some (.bool l[j]) ∧ x.frozen? ⟨g, j, none⟩ = false := by
  obtain ⟨h1, h2, h3, cur, h4, h5, h6⟩ := h
  refine ⟨?_, ?_⟩
  · have : cur[j]? = some (.bool l[j]) := by
      rw [← Array.getElem?_toList]
      have e : (cur.toList.take W)[j]? = some (.bool l[j]) := by rw [h6, List.getElem?_map, List.getElem?_eq_getElem hj]; rfl
      rwa [List.getElem?_take_of_lt (by omega)] at e
    simp [World.cell?, h4, this]
  · simp [World.frozen?, h4]
theorem RowW.block {x y : World} {g cap W : Nat} {l : List Bool} (h : RowW x g cap W l) (e : y.heap[g]? = x.heap[g]?) : RowW y g cap W l := by
  obtain ⟨h1, h2, h3, cur, h4, h5⟩ := h
  exact ⟨h1, h2, h3, cur, e.trans h4, h5⟩
theorem RowW.below {x y : World} {g cap W : Nat} {l : List Bool} (h : RowW x g cap W l) (hb : Below x.heap.size x y) : RowW y g cap W l := h.block (hb.block g h.lt)
theorem RowW.set {x : World} {g cap W : Nat} {l : List Bool} (h : RowW x g cap W l) (j : Nat) (b : Bool) : RowW (x.setCell ⟨g, j, none⟩ (.bool b)) g cap W (l.set j b) := by
  obtain ⟨h1, h2, h3, cur, h4, h5, h6⟩ := h
  refine ⟨by rw [List.length_set]; exact h1, h2, h3, cur.setIfInBounds j (.bool b), ?_, by simp [h5], ?_⟩
  · rw [setCell_eq_setRow x g j cur _ (0, 0) _ h4]; exact setRow_heap x g cur _ _ (0, 0) h4
  · rw [Array.toList_setIfInBounds, List.take_set, h6, List.map_set]

/-- what is kept: r in block g, p in block gp, the kind in the first new block -/
structure SumSt (w x : World) (kc : Array Value) (g cap gp capp W : Nat) (rl pl : List Bool) : Prop where
  r : RowW x g cap W rl
  p : RowW x gp capp W pl
  ne : g ≠ gp
  gl : w.heap.size < g
  gpl : w.heap.size < gp
  k : x.heap[w.heap.size]? = some (.cells kc 53 (0, 0))
  b : Below w.heap.size w x
theorem SumSt.below {w x y : World} {kc : Array Value} {g cap gp capp W : Nat} {rl pl : List Bool} (h : SumSt w x kc g cap gp capp W rl pl) (hb : Below x.heap.size x y) : SumSt w y kc g cap gp capp W rl pl :=
  ⟨h.r.below hb, h.p.below hb, h.ne, h.gl, h.gpl, (hb.block _ (Array.getElem?_eq_some_iff.1 h.k).1).trans h.k, belowT h.b hb⟩
theorem SumSt.set {w x : World} {kc : Array Value} {g cap gp capp W : Nat} {rl pl : List Bool} (h : SumSt w x kc g cap gp capp W rl pl) (j : Nat) (b : Bool) :
    SumSt w (x.setCell ⟨g, j, none⟩ (.bool b)) kc g cap gp capp W (rl.set j b) pl :=
  ⟨h.r.set j b, h.p.block (blk_far _ _ _ _ h.ne.symm), h.ne, h.gl, h.gpl, (blk_far _ _ _ _ (by have := h.gl; simp; omega)).trans h.k, h.b.setCell (p := ⟨g, j, none⟩) (Nat.le_of_lt h.gl) _⟩

/-- the first j bits made one -/
def partL (j : Nat) (r c : List Bool) : List Bool := xl (r.take j) (c.take j) ++ r.drop j
theorem partL_zero (r c : List Bool) : partL 0 r c = r := by simp [partL, xl]
theorem partL_len {j : Nat} {r c : List Bool} (h : j ≤ c.length) (k : j ≤ r.length) : (partL j r c).length = r.length := by
  unfold partL
  rw [List.length_append, xl_len (by simp; omega), List.length_take, List.length_drop]; omega
theorem partL_get {j : Nat} {r c : List Bool} (h : j ≤ c.length) (k : j < r.length) (l : j < (partL j r c).length) : (partL j r c)[j] = r[j] := by
  have e : (xl (r.take j) (c.take j)).length = j := by rw [xl_len (by simp; omega), List.length_take]; omega
  have g : (partL j r c)[j]? = some r[j] := by
    unfold partL
    rw [List.getElem?_append_right (by omega), e, Nat.sub_self, List.getElem?_drop, Nat.add_zero, List.getElem?_eq_getElem k]
  rw [List.getElem?_eq_getElem l] at g
  exact Option.some.inj g
theorem partL_next {j : Nat} {r c : List Bool} (h : j < c.length) (k : j < r.length) : (partL j r c).set j (r[j] ^^ c[j]) = partL (j + 1) r c := by
  have e : (xl (r.take j) (c.take j)).length = j := by rw [xl_len (by simp; omega), List.length_take]; omega
  unfold partL
  rw [List.set_append_right _ _ (by omega), e, Nat.sub_self, List.drop_eq_getElem_cons k, List.set_cons_zero]
  rw [← List.take_append_getElem k, ← List.take_append_getElem h, xl_app (by simp; omega), List.append_assoc]
  rfl
theorem partL_mix {r c : List Bool} (h : c.length = 8) : partL 8 r c = mixL r c := by
  unfold partL mixL; rw [show c.take 8 = c from List.take_of_length_le (by omega)]
theorem partL_all {r c : List Bool} (h : c.length = r.length) : partL r.length r c = xl r c := by
  unfold partL; rw [List.take_length, ← h, List.take_length, h, List.drop_length, List.append_nil]
end Go.Proofs.Ytllkkgcfhphgmaa
/-
  What the program's own Turn returns (layer 4). Conditions: the numbers are of their kinds.
-/
namespace Go.Proofs.Ytllkkgcfhphgmaa
open Go.RowKit
set_option linter.unusedVariables false

theorem turn_next (v k : Nat) : turnL v (k + 1) = 2 * turnL v k + v / 2 ^ k % 2 := by
  unfold turnL
  rw [bits_cons, List.reverse_cons, numL_snoc]
  congr 1
  rcases Nat.mod_two_eq_zero_or_one (v / 2 ^ k) with h | h <;> simp [h]

set_option maxHeartbeats 2000000 in
theorem turn_any (v : Nat) (n : Int) (w : World) (hv : v < 4294967296) (hn : -9223372036854775808 ≤ n ∧ n ≤ 9223372036854775807) :
    Calls Try.prog 76 #[.int .u32 (v : Int), .int .i64 n] w fun e w' => e = .returned (.int .u32 ((turnV v n : Nat) : Int)) ∧ w' = w := by
  unfold turnV
  by_cases h1 : n < 1
  · rw [if_neg (by omega)]
    go_enter Try.func76, Try.ntmps76
    go_wp2
    go_ret
    exact ⟨rfl, rfl⟩
  · by_cases h2 : 32 < n
    · rw [if_neg (by omega)]
      go_enter Try.func76, Try.ntmps76
      go_wp2
      go_ret
      exact ⟨rfl, rfl⟩
    · rw [if_pos (by omega)]
      obtain ⟨q, rfl⟩ : ∃ q : Nat, n = q := ⟨n.toNat, by omega⟩
      simp only [Int.toNat_natCast]
      go_enter Try.func76, Try.ntmps76
      go_wp2
      go_loop [0, 5, 13] (fun a o i => ∃ k m t : Nat, k ≤ q ∧ i = .int .i64 (k : Int) ∧ a = .int .u32 (m : Int) ∧ o = .int .u32 (t : Int) ∧ Hid (m = v / 2 ^ k) ∧ Hid (t = turnL v k)) (fun _ _ i => q - (intOf i).toNat)
      case atStart => exact ⟨0, v, 0, by omega, rfl, rfl, rfl, by show _ = _; simp, rfl⟩
      case round =>
        obtain ⟨k, m, t, hk, rfl, rfl, rfl, hm, ht⟩ := hrel
        by_cases hlt : k < q
        · have hki : (k : Int) < (q : Int) := by omega
          have htb : t < 2147483648 := by
            have h1 := turn_lt v k
            have h3 : 2 ^ k ≤ 2 ^ 31 := Nat.pow_le_pow_right (by omega) (by omega)
            have := ht.out
            omega
          have hmb : m < 4294967296 := by
            have : v / 2 ^ k ≤ v := Nat.div_le_self _ _
            have := hm.out
            omega
          have hnx : Hid (turnL v (k + 1) = 2 * t + m % 2) := by
            show _ = _
            rw [ht.out, hm.out]; exact turn_next v k
          have hdiv : Hid (m / 2 = v / 2 ^ (k + 1)) := by
            show _ = _
            rw [hm.out, Nat.div_div_eq_div_mul, Nat.pow_succ]
          have a1 : bits .and .u32 (m : Int) 1 = ((m % 2 : Nat) : Int) := by
            rw [show (1 : Int) = ((1 : Nat) : Int) from rfl, u32_and_nat m 1 hmb (by omega), nat_mask1]
          have a2 : IntKind.u32.wrap ((t : Int) * 2) = (t : Int) * 2 := by simp only [IntKind.wrap_u32]; omega
          have a3 : bits .or .u32 ((t : Int) * 2) ((m : Int) % 2) = 2 * (t : Int) + (m : Int) % 2 := by
            have e1 : ((t : Int) * 2) = ((t * 2 : Nat) : Int) := by omega
            have e2 : ((m : Int) % 2) = ((m % 2 : Nat) : Int) := by omega
            rw [e1, e2, u32_or_nat _ _ (by omega) (by omega), nat_join 1 (t * 2) (m % 2) (by omega) (by omega)]
            omega
          go_wp2
          exact ⟨⟨k + 1, m / 2, 2 * t + m % 2, by omega, by simp, by simp, by simp, hdiv, hnx.out.symm⟩, by simp [intOf]; omega⟩
        · obtain rfl : k = q := by omega
          go_wp2
          go_ret
          exact ⟨ret_nat ht.out, rfl⟩
end Go.Proofs.Ytllkkgcfhphgmaa
/-
  What the program's own fits and divide return, of each kind of number (layer 4). Conditions: the numbers are of their kinds.
-/
namespace Go.Proofs.Ytllkkgcfhphgmaa
open Go.RowKit
set_option linter.unusedVariables false

theorem stN_lt {w p r : Nat} (hw : 1 ≤ w) (hp : p < 2 ^ w) (hr : r < 2 ^ w) : stN w p r < 2 ^ w := by
  have d : 2 ^ w = 2 * 2 ^ (w - 1) := by rw [← Nat.pow_succ']; congr 1; omega
  unfold stN
  split
  · exact Nat.xor_lt_two_pow (by omega) hp
  · omega
theorem itN_lt {w p : Nat} (hw : 1 ≤ w) (hp : p < 2 ^ w) (k : Nat) : ∀ {r : Nat}, r < 2 ^ w → itN w p k r < 2 ^ w := by
  induction k with
  | zero => intro r h; exact h
  | succ k ih => intro r h; exact ih (stN_lt hw hp h)
/-- what is left to do behind k steps -/
def LeftD (w p x k T : Nat) : Prop := itN w p (8 - k) x = T
theorem LeftD.next {w p x k T : Nat} (h : LeftD w p x k T) (hk : k < 8) : LeftD w p (stN w p x) (k + 1) T := by
  unfold LeftD at *
  rw [show 8 - k = (8 - (k + 1)) + 1 by omega] at h
  exact h
theorem LeftD.done {w p x T : Nat} (h : LeftD w p x 8 T) : x = T := h

theorem fits8_yes (v : Nat) (w : World) (h : v < 256) : Calls Try.prog 75 #[.int .u32 (v : Int)] w fun e w' => e = .returned (.bool true) ∧ w' = w := by
  have a1 : IntKind.u8.wrap (v : Int) = (v : Int) := by simp only [IntKind.wrap_u8']; omega
  have a2 : IntKind.u32.wrap (v : Int) = (v : Int) := by simp only [IntKind.wrap_u32']; omega
  go_enter Try.func75, Try.ntmps75
  go_wp2
  go_ret
  exact ⟨rfl, rfl⟩
theorem fits8_no (v : Nat) (w : World) (h : 256 ≤ v) (h2 : v < 4294967296) : Calls Try.prog 75 #[.int .u32 (v : Int)] w fun e w' => e = .returned (.bool false) ∧ w' = w := by
  obtain ⟨u, hu⟩ : ∃ u : Nat, u = v % 256 := ⟨_, rfl⟩
  have a1 : IntKind.u8.wrap (v : Int) = (u : Int) := by simp only [IntKind.wrap_u8']; omega
  have a2 : IntKind.u32.wrap (u : Int) = (u : Int) := by simp only [IntKind.wrap_u32']; omega
  have a3 : ((u : Int) == (v : Int)) = false := by rw [beq_eq_false_iff_ne]; omega
  have HU : Hid (u = v % 256) := hu
  clear hu
  go_enter Try.func75, Try.ntmps75
  go_wp2
  go_ret
  exact ⟨rfl, rfl⟩

set_option maxHeartbeats 2000000 in
theorem div8_any (r p : Nat) (w : World) (hr : r < 256) (hp : p < 256) : Calls Try.prog 77 #[.int .u8 (r : Int), .int .u8 (p : Int), .int .i64 8] w fun e w' => e = .returned (.int .u8 ((itN 8 p 8 r : Nat) : Int)) ∧ w' = w := by
  obtain ⟨T, hT⟩ : ∃ T, itN 8 p 8 r = T := ⟨_, rfl⟩
  rw [hT]
  have L0 : Hid (LeftD 8 p r 0 T) := hT
  clear hT
  go_enter Try.func77, Try.ntmps77
  go_wp2
  go_loop [0, 8] (fun a i => ∃ k x : Nat, k ≤ 8 ∧ x < 256 ∧ i = .int .i64 (k : Int) ∧ a = .int .u8 (x : Int) ∧ Hid (LeftD 8 p x k T)) (fun _ i => 8 - (intOf i).toNat)
  case atStart => exact ⟨0, r, by omega, hr, rfl, rfl, L0⟩
  case round =>
    obtain ⟨k, x, hk, hx, rfl, rfl, L⟩ := hrel
    clear L0
    by_cases hlt : (k : Int) < 8
    · have hxs : Hid (stN 8 p x < 256) := stN_lt (w := 8) (by omega) hp hx
      have L1 : Hid (LeftD 8 p (stN 8 p x) (k + 1) T) := L.out.next (by omega)
      clear L
      by_cases hh : 128 ≤ x
      · have e0 : Hid (stN 8 p x = (2 * x - 256) ^^^ p) := by
          show _ = _
          unfold stN; rw [if_pos (by simpa using hh)]
        obtain ⟨y, hy⟩ : ∃ y : Nat, y = 2 * x - 256 := ⟨_, rfl⟩
        rw [← hy] at e0
        replace e0 : Hid (stN 8 p x = y ^^^ p) := e0
        have a1 : (x : Int) / 128 = 1 := by omega
        have a2 : IntKind.u8.wrap ((x : Int) * 2) = (y : Int) := by simp only [IntKind.wrap_u8']; omega
        have yb : y < 256 := by omega
        clear hy
        obtain ⟨u, hu⟩ : ∃ u : Nat, u = y ^^^ p := ⟨_, rfl⟩
        have a3 : bits .xor .u8 (y : Int) (p : Int) = (u : Int) := by rw [u8_xor_nat y p yb hp, hu]
        rw [← hu] at e0
        replace e0 : Hid (stN 8 p x = u) := e0
        clear hu
        go_wp2
        exact ⟨⟨k + 1, u, by omega, by rw [← e0.out]; exact hxs.out, by simp, rfl, by unfold Hid; rw [← e0.out]; exact L1.out⟩, by simp [intOf]; omega⟩
      · have e0 : Hid (stN 8 p x = 2 * x) := by
          show _ = _
          unfold stN; rw [if_neg (by simpa using hh)]
        have a1 : (x : Int) / 128 = 0 := by omega
        have a2 : IntKind.u8.wrap ((x : Int) * 2) = (x : Int) * 2 := by simp only [IntKind.wrap_u8']; omega
        go_wp2
        exact ⟨⟨k + 1, 2 * x, by omega, by rw [← e0.out]; exact hxs.out, by simp, by congr 1; omega, by unfold Hid; rw [← e0.out]; exact L1.out⟩, by simp [intOf]; omega⟩
    · obtain rfl : k = 8 := by omega
      go_wp2
      go_ret
      exact ⟨ret_nat L.out.done, rfl⟩

theorem fits16_yes (v : Nat) (w : World) (h : v < 65536) : Calls Try.prog 78 #[.int .u32 (v : Int)] w fun e w' => e = .returned (.bool true) ∧ w' = w := by
  have a1 : IntKind.u16.wrap (v : Int) = (v : Int) := by simp only [IntKind.wrap_u16]; omega
  have a2 : IntKind.u32.wrap (v : Int) = (v : Int) := by simp only [IntKind.wrap_u32']; omega
  go_enter Try.func78, Try.ntmps78
  go_wp2
  go_ret
  exact ⟨rfl, rfl⟩
theorem fits16_no (v : Nat) (w : World) (h : 65536 ≤ v) (h2 : v < 4294967296) : Calls Try.prog 78 #[.int .u32 (v : Int)] w fun e w' => e = .returned (.bool false) ∧ w' = w := by
  obtain ⟨u, hu⟩ : ∃ u : Nat, u = v % 65536 := ⟨_, rfl⟩
  have a1 : IntKind.u16.wrap (v : Int) = (u : Int) := by simp only [IntKind.wrap_u16]; omega
  have a2 : IntKind.u32.wrap (u : Int) = (u : Int) := by simp only [IntKind.wrap_u32']; omega
  have a3 : ((u : Int) == (v : Int)) = false := by rw [beq_eq_false_iff_ne]; omega
  have HU : Hid (u = v % 65536) := hu
  clear hu
  go_enter Try.func78, Try.ntmps78
  go_wp2
  go_ret
  exact ⟨rfl, rfl⟩

set_option maxHeartbeats 2000000 in
theorem div16_any (r p : Nat) (w : World) (hr : r < 65536) (hp : p < 65536) : Calls Try.prog 79 #[.int .u16 (r : Int), .int .u16 (p : Int), .int .i64 16] w fun e w' => e = .returned (.int .u16 ((itN 16 p 8 r : Nat) : Int)) ∧ w' = w := by
  obtain ⟨T, hT⟩ : ∃ T, itN 16 p 8 r = T := ⟨_, rfl⟩
  rw [hT]
  have L0 : Hid (LeftD 16 p r 0 T) := hT
  clear hT
  go_enter Try.func79, Try.ntmps79
  go_wp2
  go_loop [0, 8] (fun a i => ∃ k x : Nat, k ≤ 8 ∧ x < 65536 ∧ i = .int .i64 (k : Int) ∧ a = .int .u16 (x : Int) ∧ Hid (LeftD 16 p x k T)) (fun _ i => 8 - (intOf i).toNat)
  case atStart => exact ⟨0, r, by omega, hr, rfl, rfl, L0⟩
  case round =>
    obtain ⟨k, x, hk, hx, rfl, rfl, L⟩ := hrel
    clear L0
    by_cases hlt : (k : Int) < 8
    · have hxs : Hid (stN 16 p x < 65536) := stN_lt (w := 16) (by omega) hp hx
      have L1 : Hid (LeftD 16 p (stN 16 p x) (k + 1) T) := L.out.next (by omega)
      clear L
      by_cases hh : 32768 ≤ x
      · have e0 : Hid (stN 16 p x = (2 * x - 65536) ^^^ p) := by
          show _ = _
          unfold stN; rw [if_pos (by simpa using hh)]
        obtain ⟨y, hy⟩ : ∃ y : Nat, y = 2 * x - 65536 := ⟨_, rfl⟩
        rw [← hy] at e0
        replace e0 : Hid (stN 16 p x = y ^^^ p) := e0
        have a1 : (x : Int) / 32768 = 1 := by omega
        have a2 : IntKind.u16.wrap ((x : Int) * 2) = (y : Int) := by simp only [IntKind.wrap_u16]; omega
        have yb : y < 65536 := by omega
        clear hy
        obtain ⟨u, hu⟩ : ∃ u : Nat, u = y ^^^ p := ⟨_, rfl⟩
        have a3 : bits .xor .u16 (y : Int) (p : Int) = (u : Int) := by rw [u16_xor_nat y p yb hp, hu]
        rw [← hu] at e0
        replace e0 : Hid (stN 16 p x = u) := e0
        clear hu
        go_wp2
        exact ⟨⟨k + 1, u, by omega, by rw [← e0.out]; exact hxs.out, by simp, rfl, by unfold Hid; rw [← e0.out]; exact L1.out⟩, by simp [intOf]; omega⟩
      · have e0 : Hid (stN 16 p x = 2 * x) := by
          show _ = _
          unfold stN; rw [if_neg (by simpa using hh)]
        have a1 : (x : Int) / 32768 = 0 := by omega
        have a2 : IntKind.u16.wrap ((x : Int) * 2) = (x : Int) * 2 := by simp only [IntKind.wrap_u16]; omega
        go_wp2
        exact ⟨⟨k + 1, 2 * x, by omega, by rw [← e0.out]; exact hxs.out, by simp, by congr 1; omega, by unfold Hid; rw [← e0.out]; exact L1.out⟩, by simp [intOf]; omega⟩
    · obtain rfl : k = 8 := by omega
      go_wp2
      go_ret
      exact ⟨ret_nat L.out.done, rfl⟩

theorem fits32_yes (v : Nat) (w : World) (h : v < 4294967296) : Calls Try.prog 80 #[.int .u32 (v : Int)] w fun e w' => e = .returned (.bool true) ∧ w' = w := by
  have a2 : IntKind.u32.wrap (v : Int) = (v : Int) := by simp only [IntKind.wrap_u32']; omega
  go_enter Try.func80, Try.ntmps80
  go_wp2
  go_ret
  exact ⟨rfl, rfl⟩

set_option maxHeartbeats 2000000 in
theorem div32_any (r p : Nat) (w : World) (hr : r < 4294967296) (hp : p < 4294967296) : Calls Try.prog 81 #[.int .u32 (r : Int), .int .u32 (p : Int), .int .i64 32] w fun e w' => e = .returned (.int .u32 ((itN 32 p 8 r : Nat) : Int)) ∧ w' = w := by
  obtain ⟨T, hT⟩ : ∃ T, itN 32 p 8 r = T := ⟨_, rfl⟩
  rw [hT]
  have L0 : Hid (LeftD 32 p r 0 T) := hT
  clear hT
  go_enter Try.func81, Try.ntmps81
  go_wp2
  go_loop [0, 8] (fun a i => ∃ k x : Nat, k ≤ 8 ∧ x < 4294967296 ∧ i = .int .i64 (k : Int) ∧ a = .int .u32 (x : Int) ∧ Hid (LeftD 32 p x k T)) (fun _ i => 8 - (intOf i).toNat)
  case atStart => exact ⟨0, r, by omega, hr, rfl, rfl, L0⟩
  case round =>
    obtain ⟨k, x, hk, hx, rfl, rfl, L⟩ := hrel
    clear L0
    by_cases hlt : (k : Int) < 8
    · have hxs : Hid (stN 32 p x < 4294967296) := stN_lt (w := 32) (by omega) hp hx
      have L1 : Hid (LeftD 32 p (stN 32 p x) (k + 1) T) := L.out.next (by omega)
      clear L
      by_cases hh : 2147483648 ≤ x
      · have e0 : Hid (stN 32 p x = (2 * x - 4294967296) ^^^ p) := by
          show _ = _
          unfold stN; rw [if_pos (by simpa using hh)]
        obtain ⟨y, hy⟩ : ∃ y : Nat, y = 2 * x - 4294967296 := ⟨_, rfl⟩
        rw [← hy] at e0
        replace e0 : Hid (stN 32 p x = y ^^^ p) := e0
        have a1 : (x : Int) / 2147483648 = 1 := by omega
        have a2 : IntKind.u32.wrap ((x : Int) * 2) = (y : Int) := by simp only [IntKind.wrap_u32']; omega
        have yb : y < 4294967296 := by omega
        clear hy
        obtain ⟨u, hu⟩ : ∃ u : Nat, u = y ^^^ p := ⟨_, rfl⟩
        have a3 : bits .xor .u32 (y : Int) (p : Int) = (u : Int) := by rw [u32_xor_nat y p yb hp, hu]
        rw [← hu] at e0
        replace e0 : Hid (stN 32 p x = u) := e0
        clear hu
        go_wp2
        exact ⟨⟨k + 1, u, by omega, by rw [← e0.out]; exact hxs.out, by simp, rfl, by unfold Hid; rw [← e0.out]; exact L1.out⟩, by simp [intOf]; omega⟩
      · have e0 : Hid (stN 32 p x = 2 * x) := by
          show _ = _
          unfold stN; rw [if_neg (by simpa using hh)]
        have a1 : (x : Int) / 2147483648 = 0 := by omega
        have a2 : IntKind.u32.wrap ((x : Int) * 2) = (x : Int) * 2 := by simp only [IntKind.wrap_u32']; omega
        go_wp2
        exact ⟨⟨k + 1, 2 * x, by omega, by rw [← e0.out]; exact hxs.out, by simp, by congr 1; omega, by unfold Hid; rw [← e0.out]; exact L1.out⟩, by simp [intOf]; omega⟩
    · obtain rfl : k = 8 := by omega
      go_wp2
      go_ret
      exact ⟨ret_nat L.out.done, rfl⟩
end Go.Proofs.Ytllkkgcfhphgmaa
/-
  Devices and fields in memory (layer 8). No function of a program is named here. No conditions but those that each says.
-/
namespace Go.Proofs.Ytllkkgcfhphgmaa
open Go.RowKit
set_option linter.unusedVariables false

/-- a field's cells -/
def fdC (f : Fd) : List Value := [.string (txt f.nm), .int .i64 f.pl, .string (txt f.kd), .int .i64 f.wd, .int .i64 f.sn, .int .i64 f.sd, .int .i64 f.on, .int .i64 f.od, .string (txt f.un)]
theorem fdC_len (f : Fd) : (fdC f).length = 9 := rfl
/-- a device's value -/
abbrev dvV (d : Dv) (fv qv : Value) : Value := .agg #[.string (txt d.nm), .int .i64 d.st, .int .i64 d.es, .int .i64 d.mx, .int .i64 d.sz, .string (txt d.sm), fv, qv, .int .i64 d.po, .int .i64 d.ti, .int .i64 d.re, .int .i64 d.ag]
/-- fields, from a place on -/
def FldsIn (x : World) (g o : Nat) (fs : List Fd) : Prop := ∀ j (h : j < fs.length) k v, (fdC fs[j])[k]? = some v → x.cell? ⟨g, o + 9 * j + k, none⟩ = some v
def FldsAt (x : World) (v : Value) (fs : List Fd) : Prop := (v = .slice none 0 0 ∧ fs = []) ∨ ∃ g o cap, v = .slice (some ⟨g, o, none⟩) fs.length cap ∧ FldsIn x g o fs ∧ g < x.heap.size
theorem FldsAt.below {x y : World} {v : Value} {fs : List Fd} (h : FldsAt x v fs) (k : Below x.heap.size x y) : FldsAt y v fs := by
  rcases h with h | ⟨g, o, cap, h1, h2, h3⟩
  · exact .inl h
  · exact .inr ⟨g, o, cap, h1, fun j hj i u hu => (k.cell (p := ⟨g, o + 9 * j + i, none⟩) h3).trans (h2 j hj i u hu), Nat.lt_of_lt_of_le h3 k.size⟩
end Go.Proofs.Ytllkkgcfhphgmaa
/-
  Maps by texts that a call lays as a literal: an entry more, a look-up (at a key that is a text). Conditions: as each says.
-/
namespace Go.Proofs.Ytllkkgcfhphgmaa
open Go.RowKit
set_option linter.unusedVariables false

section
variable {P : Program}
theorem obj_map (w : World) (g : Nat) (es : Array MapEntry) (c : Nat) (h : w.heap[g]? = some (.map es c)) : (getObj g).run P w = .ok (.map es c) w := by
  simp [getObj, Sem.run, h]
theorem set_map (w : World) (g : Nat) (es : Array MapEntry) (c : Nat) (h : w.heap[g]? = some (.map es c)) {o : Obj} : (setObj g o).run P w = .ok () { w with heap := w.heap.setIfInBounds g o } := by
  simp [setObj, Sem.run, h]
theorem key_str (w : World) (b : Bool) (K : TypeId) (hk : P.underlying K = some .string) (s : ByteArray) : (Instr.checkKey b 10000 K (.string s)).run P w = .ok () w := by
  unfold Instr.checkKey
  simp [run_underlying hk, Result.andThen]
theorem find_str (w : World) (K : TypeId) (hk : P.underlying K = some .string) (s : ByteArray) (es : List MapEntry) (r : Option (Nat × Value)) (hf : Instr.findNow .string (.string s) es 0 = some r) : (Instr.findKey K (.string s) es).run P w = .ok r w := by
  simp [Instr.findKey, run_underlying hk, Result.andThen, hf]
theorem push_last (h : Array Obj) (o o' : Obj) : (h.push o).setIfInBounds h.size o' = h.push o' := by
  apply Array.ext_getElem?
  intro i
  rw [Array.getElem?_setIfInBounds, Array.getElem?_push, Array.getElem?_push]
  by_cases e : h.size = i
  · subst e; simp
  · rw [if_neg e, if_neg (Ne.symm e), if_neg (Ne.symm e)]
theorem mset_last (w : World) (o o' : Obj) : ({ w.alloc o with heap := (w.alloc o).heap.setIfInBounds w.heap.size o' } : World) = w.alloc o' := by
  show ({ w with heap := (w.heap.push o).setIfInBounds w.heap.size o' } : World) = { w with heap := w.heap.push o' }
  rw [push_last]
/-- an entry more, in the block that was laid last -/
theorem insert_str (T K E : TypeId) (ht : P.underlying T = some (.map K E)) (hk : P.underlying K = some .string) (es : Array MapEntry) (c : Nat) (s : ByteArray) (v : Value) (hf : Instr.findNow .string (.string s) es.toList 0 = some none) (w : World) :
    (Instr.mapUpdate T (.map (some w.heap.size)) (.string s) v).run P (w.alloc (.map es c)) = .ok () (w.alloc (.map (es.push { key := .string s, val := v, born := c }) (c + 1))) := by
  have hb : (w.alloc (.map es c)).heap[w.heap.size]? = some (.map es c) := World.alloc_heap_new w _
  have hs : (setObj w.heap.size (.map (es.push { key := .string s, val := v, born := c }) (c + 1))).run P (w.alloc (.map es c)) = .ok () (w.alloc (.map (es.push { key := .string s, val := v, born := c }) (c + 1))) := by
    rw [set_map (w.alloc (.map es c)) _ _ _ hb, mset_last]
  unfold Instr.mapUpdate
  simp [run_underlying ht, obj_map _ _ _ _ hb, key_str _ _ _ hk, find_str _ _ hk _ _ _ hf, hs, Result.andThen]
/-- a look-up -/
theorem lookup_str (T K E : TypeId) (ht : P.underlying T = some (.map K E)) (hk : P.underlying K = some .string) (w : World) (g : Nat) (es : Array MapEntry) (c : Nat) (hb : w.heap[g]? = some (.map es c)) (s : ByteArray) (i : Nat) (v : Value) (hf : Instr.findNow .string (.string s) es.toList 0 = some (some (i, v))) :
    (Instr.lookup T (.map (some g)) (.string s) true).run P w = .ok (.tuple #[v, .bool true]) w := by
  unfold Instr.lookup
  simp [run_underlying ht, obj_map _ _ _ _ hb, key_str _ _ _ hk, find_str _ _ hk _ _ _ hf, Result.andThen]
theorem lookup_no (T K E : TypeId) (ht : P.underlying T = some (.map K E)) (hk : P.underlying K = some .string) (w : World) (g : Nat) (es : Array MapEntry) (c : Nat) (hb : w.heap[g]? = some (.map es c)) (s : ByteArray) (z : Value) (hz : (zeroValue E).run P w = .ok z w) (hf : Instr.findNow .string (.string s) es.toList 0 = some none) :
    (Instr.lookup T (.map (some g)) (.string s) true).run P w = .ok (.tuple #[z, .bool false]) w := by
  unfold Instr.lookup
  simp [run_underlying ht, obj_map _ _ _ _ hb, key_str _ _ _ hk, find_str _ _ hk _ _ _ hf, hz, Result.andThen]
end
end Go.Proofs.Ytllkkgcfhphgmaa
/-
  What the document's own Right returns (layer 6). Conditions: as each says.
-/
namespace Go.Proofs.Ytllkkgcfhphgmaa
open Go.RowKit
set_option linter.unusedVariables false

theorem not_kBe {s : ByteArray} (h : ¬ s = kBe) : (s.toList == [98, 101]) = false := by have := txt_no h; rwa [show kBe.toList = [98, 101] by rw [ByteArray.toList_eq]] at this
theorem not_kLe {s : ByteArray} (h : ¬ s = kLe) : (s.toList == [108, 101]) = false := by have := txt_no h; rwa [show kLe.toList = [108, 101] by rw [ByteArray.toList_eq]] at this
theorem not_kSbe {s : ByteArray} (h : ¬ s = kSbe) : (s.toList == [115, 98, 101]) = false := by have := txt_no h; rwa [show kSbe.toList = [115, 98, 101] by rw [ByteArray.toList_eq]] at this
theorem not_kSle {s : ByteArray} (h : ¬ s = kSle) : (s.toList == [115, 108, 101]) = false := by have := txt_no h; rwa [show kSle.toList = [115, 108, 101] by rw [ByteArray.toList_eq]] at this
theorem not_kBcd {s : ByteArray} (h : ¬ s = kBcd) : (s.toList == [98, 99, 100]) = false := by have := txt_no h; rwa [show kBcd.toList = [98, 99, 100] by rw [ByteArray.toList_eq]] at this
theorem not_kDec {s : ByteArray} (h : ¬ s = kDec) : (s.toList == [100, 101, 99]) = false := by have := txt_no h; rwa [show kDec.toList = [100, 101, 99] by rw [ByteArray.toList_eq]] at this

set_option maxRecDepth 100000 in
set_option maxHeartbeats 2000000 in
theorem bright_be (n : Int) (w : World) (hn : -9223372036854775808 ≤ n ∧ n ≤ 9223372036854775807) : Calls Try.prog 40 #[.string kBe, .int .i64 n] w fun e w' => e = .returned (.bool (rgtB 0 n)) ∧ w' = w := by
  by_cases h1 : 1 ≤ n
  · by_cases h2 : n ≤ 4
    · have e : rgtB 0 n = true := by unfold rgtB; simp [h1, h2]
      rw [e]
      go_enter Try.func40, Try.ntmps40
      go_wp2
      go_ret
      exact ⟨rfl, rfl⟩
    · have e : rgtB 0 n = false := by unfold rgtB; simp [h2]
      rw [e]
      go_enter Try.func40, Try.ntmps40
      go_wp2
      go_ret
      exact ⟨rfl, rfl⟩
  · have e : rgtB 0 n = false := by unfold rgtB; simp [h1]
    rw [e]
    go_enter Try.func40, Try.ntmps40
    go_wp2
    go_ret
    exact ⟨rfl, rfl⟩

set_option maxRecDepth 100000 in
set_option maxHeartbeats 2000000 in
theorem bright_le (n : Int) (w : World) (hn : -9223372036854775808 ≤ n ∧ n ≤ 9223372036854775807) : Calls Try.prog 40 #[.string kLe, .int .i64 n] w fun e w' => e = .returned (.bool (rgtB 1 n)) ∧ w' = w := by
  by_cases h1 : 1 ≤ n
  · by_cases h2 : n ≤ 4
    · have e : rgtB 1 n = true := by unfold rgtB; simp [h1, h2]
      rw [e]
      go_enter Try.func40, Try.ntmps40
      go_wp2
      go_ret
      exact ⟨rfl, rfl⟩
    · have e : rgtB 1 n = false := by unfold rgtB; simp [h2]
      rw [e]
      go_enter Try.func40, Try.ntmps40
      go_wp2
      go_ret
      exact ⟨rfl, rfl⟩
  · have e : rgtB 1 n = false := by unfold rgtB; simp [h1]
    rw [e]
    go_enter Try.func40, Try.ntmps40
    go_wp2
    go_ret
    exact ⟨rfl, rfl⟩

set_option maxRecDepth 100000 in
set_option maxHeartbeats 2000000 in
theorem bright_sbe (n : Int) (w : World) (hn : -9223372036854775808 ≤ n ∧ n ≤ 9223372036854775807) : Calls Try.prog 40 #[.string kSbe, .int .i64 n] w fun e w' => e = .returned (.bool (rgtB 2 n)) ∧ w' = w := by
  by_cases h1 : 1 ≤ n
  · by_cases h2 : n ≤ 4
    · have e : rgtB 2 n = true := by unfold rgtB; simp [h1, h2]
      rw [e]
      go_enter Try.func40, Try.ntmps40
      go_wp2
      go_ret
      exact ⟨rfl, rfl⟩
    · have e : rgtB 2 n = false := by unfold rgtB; simp [h2]
      rw [e]
      go_enter Try.func40, Try.ntmps40
      go_wp2
      go_ret
      exact ⟨rfl, rfl⟩
  · have e : rgtB 2 n = false := by unfold rgtB; simp [h1]
    rw [e]
    go_enter Try.func40, Try.ntmps40
    go_wp2
    go_ret
    exact ⟨rfl, rfl⟩

set_option maxRecDepth 100000 in
set_option maxHeartbeats 2000000 in
theorem bright_sle (n : Int) (w : World) (hn : -9223372036854775808 ≤ n ∧ n ≤ 9223372036854775807) : Calls Try.prog 40 #[.string kSle, .int .i64 n] w fun e w' => e = .returned (.bool (rgtB 3 n)) ∧ w' = w := by
  by_cases h1 : 1 ≤ n
  · by_cases h2 : n ≤ 4
    · have e : rgtB 3 n = true := by unfold rgtB; simp [h1, h2]
      rw [e]
      go_enter Try.func40, Try.ntmps40
      go_wp2
      go_ret
      exact ⟨rfl, rfl⟩
    · have e : rgtB 3 n = false := by unfold rgtB; simp [h2]
      rw [e]
      go_enter Try.func40, Try.ntmps40
      go_wp2
      go_ret
      exact ⟨rfl, rfl⟩
  · have e : rgtB 3 n = false := by unfold rgtB; simp [h1]
    rw [e]
    go_enter Try.func40, Try.ntmps40
    go_wp2
    go_ret
    exact ⟨rfl, rfl⟩

set_option maxRecDepth 100000 in
set_option maxHeartbeats 2000000 in
theorem bright_bcd (n : Int) (w : World) (hn : -9223372036854775808 ≤ n ∧ n ≤ 9223372036854775807) : Calls Try.prog 40 #[.string kBcd, .int .i64 n] w fun e w' => e = .returned (.bool (rgtB 4 n)) ∧ w' = w := by
  by_cases h1 : 1 ≤ n
  · by_cases h2 : n ≤ 4
    · have e : rgtB 4 n = true := by unfold rgtB; simp [h1, h2]
      rw [e]
      go_enter Try.func40, Try.ntmps40
      go_wp2
      go_ret
      exact ⟨rfl, rfl⟩
    · have e : rgtB 4 n = false := by unfold rgtB; simp [h2]
      rw [e]
      go_enter Try.func40, Try.ntmps40
      go_wp2
      go_ret
      exact ⟨rfl, rfl⟩
  · have e : rgtB 4 n = false := by unfold rgtB; simp [h1]
    rw [e]
    go_enter Try.func40, Try.ntmps40
    go_wp2
    go_ret
    exact ⟨rfl, rfl⟩

set_option maxRecDepth 100000 in
set_option maxHeartbeats 2000000 in
theorem bright_dec (n : Int) (w : World) (hn : -9223372036854775808 ≤ n ∧ n ≤ 9223372036854775807) : Calls Try.prog 40 #[.string kDec, .int .i64 n] w fun e w' => e = .returned (.bool (rgtB 5 n)) ∧ w' = w := by
  by_cases h1 : 1 ≤ n
  · by_cases h2 : n ≤ 8
    · have e : rgtB 5 n = true := by unfold rgtB; simp [h1, h2]
      rw [e]
      go_enter Try.func40, Try.ntmps40
      go_wp2
      go_ret
      exact ⟨rfl, rfl⟩
    · have e : rgtB 5 n = false := by unfold rgtB; simp [h2]
      rw [e]
      go_enter Try.func40, Try.ntmps40
      go_wp2
      go_ret
      exact ⟨rfl, rfl⟩
  · have e : rgtB 5 n = false := by unfold rgtB; simp [h1]
    rw [e]
    go_enter Try.func40, Try.ntmps40
    go_wp2
    go_ret
    exact ⟨rfl, rfl⟩

set_option maxRecDepth 100000 in
set_option maxHeartbeats 2000000 in
theorem bright_no (s : ByteArray) (n : Int) (w : World) (hs : NoKind s) : Calls Try.prog 40 #[.string s, .int .i64 n] w fun e w' => e = .returned (.bool (rgtB 6 n)) ∧ w' = w := by
  obtain ⟨n0, n1, n2, n3, n4, n5⟩ := hs
  have q0 := not_kBe n0
  have q1 := not_kLe n1
  have q2 := not_kSbe n2
  have q3 := not_kSle n3
  have q4 := not_kBcd n4
  have q5 := not_kDec n5
  clear n0 n1 n2 n3 n4 n5
  have e : rgtB 6 n = false := rfl
  rw [e]
  go_enter Try.func40, Try.ntmps40
  go_wp2
  go_ret
  exact ⟨rfl, rfl⟩
theorem bright_any (s : ByteArray) (n : Int) (w : World) (hn : -9223372036854775808 ≤ n ∧ n ≤ 9223372036854775807) : Calls Try.prog 40 #[.string s, .int .i64 n] w fun e w' => e = .returned (.bool (rgtB (kindI s) n)) ∧ w' = w := by
  rcases kind_cases s with rfl | rfl | rfl | rfl | rfl | rfl | hs
  · rw [kind_be]; exact bright_be n w hn
  · rw [kind_le]; exact bright_le n w hn
  · rw [kind_sbe]; exact bright_sbe n w hn
  · rw [kind_sle]; exact bright_sle n w hn
  · rw [kind_bcd]; exact bright_bcd n w hn
  · rw [kind_dec]; exact bright_dec n w hn
  · rw [kind_no hs]; exact bright_no s n w hs
end Go.Proofs.Ytllkkgcfhphgmaa
/-
  What the program's own Right returns (layer 6). Conditions: as each says.
-/
namespace Go.Proofs.Ytllkkgcfhphgmaa
open Go.RowKit
set_option linter.unusedVariables false

set_option maxRecDepth 100000 in
set_option maxHeartbeats 2000000 in
theorem pright_be (n : Int) (w : World) (hn : -9223372036854775808 ≤ n ∧ n ≤ 9223372036854775807) : Calls Try.prog 33 #[.string kBe, .int .i64 n] w fun e w' => e = .returned (.bool (rgtB 0 n)) ∧ w' = w := by
  by_cases h1 : 1 ≤ n
  · by_cases h2 : n ≤ 4
    · have e : rgtB 0 n = true := by unfold rgtB; simp [h1, h2]
      rw [e]
      go_enter Try.func33, Try.ntmps33
      go_wp2
      go_ret
      exact ⟨rfl, rfl⟩
    · have e : rgtB 0 n = false := by unfold rgtB; simp [h2]
      rw [e]
      go_enter Try.func33, Try.ntmps33
      go_wp2
      go_ret
      exact ⟨rfl, rfl⟩
  · have e : rgtB 0 n = false := by unfold rgtB; simp [h1]
    rw [e]
    go_enter Try.func33, Try.ntmps33
    go_wp2
    go_ret
    exact ⟨rfl, rfl⟩

set_option maxRecDepth 100000 in
set_option maxHeartbeats 2000000 in
theorem pright_le (n : Int) (w : World) (hn : -9223372036854775808 ≤ n ∧ n ≤ 9223372036854775807) : Calls Try.prog 33 #[.string kLe, .int .i64 n] w fun e w' => e = .returned (.bool (rgtB 1 n)) ∧ w' = w := by
  by_cases h1 : 1 ≤ n
  · by_cases h2 : n ≤ 4
    · have e : rgtB 1 n = true := by unfold rgtB; simp [h1, h2]
      rw [e]
      go_enter Try.func33, Try.ntmps33
      go_wp2
      go_ret
      exact ⟨rfl, rfl⟩
    · have e : rgtB 1 n = false := by unfold rgtB; simp [h2]
      rw [e]
      go_enter Try.func33, Try.ntmps33
      go_wp2
      go_ret
      exact ⟨rfl, rfl⟩
  · have e : rgtB 1 n = false := by unfold rgtB; simp [h1]
    rw [e]
    go_enter Try.func33, Try.ntmps33
    go_wp2
    go_ret
    exact ⟨rfl, rfl⟩

set_option maxRecDepth 100000 in
set_option maxHeartbeats 2000000 in
theorem pright_sbe (n : Int) (w : World) (hn : -9223372036854775808 ≤ n ∧ n ≤ 9223372036854775807) : Calls Try.prog 33 #[.string kSbe, .int .i64 n] w fun e w' => e = .returned (.bool (rgtB 2 n)) ∧ w' = w := by
  by_cases h1 : 1 ≤ n
  · by_cases h2 : n ≤ 4
    · have e : rgtB 2 n = true := by unfold rgtB; simp [h1, h2]
      rw [e]
      go_enter Try.func33, Try.ntmps33
      go_wp2
      go_ret
      exact ⟨rfl, rfl⟩
    · have e : rgtB 2 n = false := by unfold rgtB; simp [h2]
      rw [e]
      go_enter Try.func33, Try.ntmps33
      go_wp2
      go_ret
      exact ⟨rfl, rfl⟩
  · have e : rgtB 2 n = false := by unfold rgtB; simp [h1]
    rw [e]
    go_enter Try.func33, Try.ntmps33
    go_wp2
    go_ret
    exact ⟨rfl, rfl⟩

set_option maxRecDepth 100000 in
set_option maxHeartbeats 2000000 in
theorem pright_sle (n : Int) (w : World) (hn : -9223372036854775808 ≤ n ∧ n ≤ 9223372036854775807) : Calls Try.prog 33 #[.string kSle, .int .i64 n] w fun e w' => e = .returned (.bool (rgtB 3 n)) ∧ w' = w := by
  by_cases h1 : 1 ≤ n
  · by_cases h2 : n ≤ 4
    · have e : rgtB 3 n = true := by unfold rgtB; simp [h1, h2]
      rw [e]
      go_enter Try.func33, Try.ntmps33
      go_wp2
      go_ret
      exact ⟨rfl, rfl⟩
    · have e : rgtB 3 n = false := by unfold rgtB; simp [h2]
      rw [e]
      go_enter Try.func33, Try.ntmps33
      go_wp2
      go_ret
      exact ⟨rfl, rfl⟩
  · have e : rgtB 3 n = false := by unfold rgtB; simp [h1]
    rw [e]
    go_enter Try.func33, Try.ntmps33
    go_wp2
    go_ret
    exact ⟨rfl, rfl⟩

set_option maxRecDepth 100000 in
set_option maxHeartbeats 2000000 in
theorem pright_bcd (n : Int) (w : World) (hn : -9223372036854775808 ≤ n ∧ n ≤ 9223372036854775807) : Calls Try.prog 33 #[.string kBcd, .int .i64 n] w fun e w' => e = .returned (.bool (rgtB 4 n)) ∧ w' = w := by
  by_cases h1 : 1 ≤ n
  · by_cases h2 : n ≤ 4
    · have e : rgtB 4 n = true := by unfold rgtB; simp [h1, h2]
      rw [e]
      go_enter Try.func33, Try.ntmps33
      go_wp2
      go_ret
      exact ⟨rfl, rfl⟩
    · have e : rgtB 4 n = false := by unfold rgtB; simp [h2]
      rw [e]
      go_enter Try.func33, Try.ntmps33
      go_wp2
      go_ret
      exact ⟨rfl, rfl⟩
  · have e : rgtB 4 n = false := by unfold rgtB; simp [h1]
    rw [e]
    go_enter Try.func33, Try.ntmps33
    go_wp2
    go_ret
    exact ⟨rfl, rfl⟩

set_option maxRecDepth 100000 in
set_option maxHeartbeats 2000000 in
theorem pright_dec (n : Int) (w : World) (hn : -9223372036854775808 ≤ n ∧ n ≤ 9223372036854775807) : Calls Try.prog 33 #[.string kDec, .int .i64 n] w fun e w' => e = .returned (.bool (rgtB 5 n)) ∧ w' = w := by
  by_cases h1 : 1 ≤ n
  · by_cases h2 : n ≤ 8
    · have e : rgtB 5 n = true := by unfold rgtB; simp [h1, h2]
      rw [e]
      go_enter Try.func33, Try.ntmps33
      go_wp2
      go_ret
      exact ⟨rfl, rfl⟩
    · have e : rgtB 5 n = false := by unfold rgtB; simp [h2]
      rw [e]
      go_enter Try.func33, Try.ntmps33
      go_wp2
      go_ret
      exact ⟨rfl, rfl⟩
  · have e : rgtB 5 n = false := by unfold rgtB; simp [h1]
    rw [e]
    go_enter Try.func33, Try.ntmps33
    go_wp2
    go_ret
    exact ⟨rfl, rfl⟩

set_option maxRecDepth 100000 in
set_option maxHeartbeats 2000000 in
theorem pright_no (s : ByteArray) (n : Int) (w : World) (hs : NoKind s) : Calls Try.prog 33 #[.string s, .int .i64 n] w fun e w' => e = .returned (.bool (rgtB 6 n)) ∧ w' = w := by
  obtain ⟨n0, n1, n2, n3, n4, n5⟩ := hs
  have q0 := not_kBe n0
  have q1 := not_kLe n1
  have q2 := not_kSbe n2
  have q3 := not_kSle n3
  have q4 := not_kBcd n4
  have q5 := not_kDec n5
  clear n0 n1 n2 n3 n4 n5
  have e : rgtB 6 n = false := rfl
  rw [e]
  go_enter Try.func33, Try.ntmps33
  go_wp2
  go_ret
  exact ⟨rfl, rfl⟩
theorem pright_any (s : ByteArray) (n : Int) (w : World) (hn : -9223372036854775808 ≤ n ∧ n ≤ 9223372036854775807) : Calls Try.prog 33 #[.string s, .int .i64 n] w fun e w' => e = .returned (.bool (rgtB (kindI s) n)) ∧ w' = w := by
  rcases kind_cases s with rfl | rfl | rfl | rfl | rfl | rfl | hs
  · rw [kind_be]; exact pright_be n w hn
  · rw [kind_le]; exact pright_le n w hn
  · rw [kind_sbe]; exact pright_sbe n w hn
  · rw [kind_sle]; exact pright_sle n w hn
  · rw [kind_bcd]; exact pright_bcd n w hn
  · rw [kind_dec]; exact pright_dec n w hn
  · rw [kind_no hs]; exact pright_no s n w hs
end Go.Proofs.Ytllkkgcfhphgmaa
/-
  What is wanted of texts and lines where Rows is walked (layer 7). No function of a program is named here. No conditions but those that each says.
-/
namespace Go.Proofs.Ytllkkgcfhphgmaa
open Go.RowKit
set_option linter.unusedVariables false

theorem cell_two_new (w : World) (a b : Value) (t : TypeId) : ∀ j u, [a, b][j]? = some u → (w.alloc (.cells #[a, b] t)).cell? ((⟨w.heap.size, 0, none⟩ : Addr).add j) = some u := by
  intro j u hj
  match j, hj with
  | 0, hj => simp at hj; subst hj; simp [Addr.add]
  | 1, hj => simp at hj; subst hj; simp [Addr.add]
theorem info_st : (Try.prog.info? 9).map (fun i => (i.zero, i.size, i.bytes)) = some (some (.string ⟨#[]⟩), 1, 16) := by kernel_rfl
theorem own_one {x : World} {base : Nat} {e : TypeId} {size : Nat} {v : Value} {n : Nat} {xs : List Value} (h : x.ownsRow base e size v n xs) : v.oneCell' = true := by
  rcases own_slice h with ⟨h1, _⟩ | ⟨g, cap, h1, _⟩ <;> rw [h1] <;> rfl
theorem own_row {x : World} {base : Nat} {e : TypeId} {size : Nat} {v : Value} {n : Nat} {xs : List Value} (h : x.ownsRow base e size v n xs) (hn : 0 < n) : ∃ g cap, v = .slice (some ⟨g, 0, none⟩) n cap := by
  rcases own_slice h with ⟨_, h1⟩ | ⟨g, cap, h1, _⟩
  · omega
  · exact ⟨g, cap, h1⟩
theorem str_cell {x : World} {base : Nat} {g cap n : Nat} {ws : List Wd} {w0 : Wd} {r : List Wd} (h : x.ownsRow base 9 1 (.slice (some ⟨g, 0, none⟩) n cap) n (strV ws)) (hn : 0 < n) (hw : ws = w0 :: r) : x.cell? ⟨g, 0, none⟩ = some (.string (txt w0)) := by
  rw [World.ownsRow.cellAt h 0 (by omega), hw]; rfl
theorem str_cell2 {x : World} {base : Nat} {g cap n : Nat} {ws : List Wd} {d w0 : Wd} {r : List Wd} (h : x.ownsRow base 9 1 (.slice (some ⟨g, 0, none⟩) n cap) n (strV ws ++ [.string (txt d)])) (hn : 0 < n) (hw : ws ++ [d] = w0 :: r) : x.cell? ⟨g, 0, none⟩ = some (.string (txt w0)) := by
  have e : strV ws ++ [.string (txt d)] = strV (ws ++ [d]) := by simp
  rw [e] at h
  exact str_cell h hn hw
def WsOk (ws : List Wd) : Prop := ∀ d ∈ ws, ¬ d = []
theorem head_form {ws : List Wd} (h : WsOk ws) (hn : ¬ ws = []) : ∃ c r rest, ws = (c :: r) :: rest := by
  cases ws with
  | nil => exact absurd rfl hn
  | cons d rest =>
    cases d with
    | nil => exact absurd rfl (h [] (by simp))
    | cons c r => exact ⟨c, r, rest, rfl⟩
theorem txt_emp {d : Wd} (h : ¬ d = []) : (txt d).toList.isEmpty = false := by
  rw [ByteArray.toList_eq]
  cases d with
  | nil => exact absurd rfl h
  | cons c r => rfl
theorem txt_ne {d : Wd} (h : ¬ d = []) : ¬ (txt d).toList = [] := by
  intro e
  have := txt_emp h
  rw [e] at this
  cases this
theorem txt_get (c : UInt8) (r : Wd) (h : 0 < (txt (c :: r)).size) : (txt (c :: r))[0] = c := rfl
theorem txt_cat {s : ByteArray} {d : Wd} {k : Nat} (hk : k < s.size) : txt d ++ s.extract k (k + 1) = txt (d ++ [s[k]]) := by
  apply ByteArray.ext
  apply Array.toList_inj.1
  have e : (s.extract k (k + 1)).data.toList = [s[k]] := by
    have h1 : (s.extract k (k + 1)).data = s.data.extract k (k + 1) := by simp
    rw [h1, Array.toList_extract, List.extract_eq_take_drop]
    have hl : k < s.data.toList.length := by simpa using hk
    rw [List.drop_eq_getElem_cons hl]
    rw [show k + 1 - k = 1 by omega]
    simp
    rfl
  rw [ByteArray.data_append, Array.toList_append, e]
  rfl
theorem drop_at {s : ByteArray} {k : Nat} (hk : k < s.size) : s.data.toList.drop k = s[k] :: s.data.toList.drop (k + 1) := by
  have hl : k < s.data.toList.length := by simpa using hk
  rw [List.drop_eq_getElem_cons hl]
  rfl
theorem drop_end (s : ByteArray) : s.data.toList.drop s.size = [] := List.drop_eq_nil_of_le (by simp)
/-- what is left at place k, of a text of n bytes -/
def LeftK (s : ByteArray) (fs : List Dn) (l : Nat) (ws : List Wd) (d : Wd) (k : Nat) (T : Except Nat (List Ln)) : Prop :=
  if k ≤ s.size then LeftL (fs.map (·.1)) l ws d (s.data.toList.drop k) T else T = .ok (fs.map (·.1))
theorem LeftK.at {s : ByteArray} {fs : List Dn} {l : Nat} {ws : List Wd} {d : Wd} {k : Nat} {T : Except Nat (List Ln)} (h : LeftK s fs l ws d k T) (hk : k < s.size) : LeftL (fs.map (·.1)) l ws d (s[k] :: s.data.toList.drop (k + 1)) T := by
  unfold LeftK at h; rw [if_pos (by omega), drop_at hk] at h; exact h
theorem LeftK.end' {s : ByteArray} {fs : List Dn} {l : Nat} {ws : List Wd} {d : Wd} {T : Except Nat (List Ln)} (h : LeftK s fs l ws d s.size T) : T = .ok (fs.map (·.1) ++ closeL l (flushW ws d)) := by
  unfold LeftK at h; rw [if_pos (Nat.le_refl _), drop_end] at h; exact h.fin
theorem LeftK.of {s : ByteArray} {fs : List Dn} {l : Nat} {ws : List Wd} {d : Wd} {k : Nat} {T : Except Nat (List Ln)} (hk : k < s.size) (h : LeftL (fs.map (·.1)) l ws d (s.data.toList.drop (k + 1)) T) : LeftK s fs l ws d (k + 1) T := by
  unfold LeftK; rw [if_pos (by omega)]; exact h
theorem LeftK.past {s : ByteArray} {fs : List Dn} {l : Nat} {ws : List Wd} {d : Wd} {T : Except Nat (List Ln)} (h : T = .ok (fs.map (·.1))) : LeftK s fs l ws d (s.size + 1) T := by
  unfold LeftK; rw [if_neg (by omega)]; exact h
theorem LeftK.out {s : ByteArray} {fs : List Dn} {l : Nat} {ws : List Wd} {d : Wd} {T : Except Nat (List Ln)} (h : LeftK s fs l ws d (s.size + 1) T) : T = .ok (fs.map (·.1)) := by
  unfold LeftK at h; rwa [if_neg (by omega)] at h
theorem close_no {l : Nat} {c : UInt8} {r : Wd} {rest : List Wd} (h : c = 35) : closeL l ((c :: r) :: rest) = [] := by
  subst h; rfl
theorem close_yes {l : Nat} {c : UInt8} {r : Wd} {rest : List Wd} (h : ¬ c = 35) : closeL l ((c :: r) :: rest) = [(l, (c :: r) :: rest)] := by
  unfold closeL countsB
  simp [h]
theorem close_nil (l : Nat) : closeL l [] = [] := rfl
theorem flush_ne {ws : List Wd} {d : Wd} (h : ¬ d = []) : flushW ws d = ws ++ [d] := by unfold flushW; rw [if_neg h]
theorem wsok_snoc {ws : List Wd} {d : Wd} (h : WsOk ws) (hd : ¬ d = []) : WsOk (ws ++ [d]) := by
  intro x hx
  rcases List.mem_append.1 hx with h1 | h1
  · exact h x h1
  · rw [List.mem_singleton.1 h1]; exact hd
theorem u8_ne {c : UInt8} {n : Nat} (hn : n < 256) (h : ¬ c = UInt8.ofNat n) : ¬ (c.toNat : Int) = (n : Int) := by
  intro e
  apply h
  apply UInt8.toNat_inj.1
  rw [UInt8.toNat_ofNat']
  omega
theorem u8_eq {c : UInt8} {n : Nat} (hn : n < 256) (h : (c.toNat : Int) = (n : Int)) : c = UInt8.ofNat n := by
  apply UInt8.toNat_inj.1
  rw [UInt8.toNat_ofNat']
  omega
theorem map_dn (fs : List Dn) (f : Dn) : (fs ++ [f]).map (·.1) = fs.map (·.1) ++ [f.1] := by simp
end Go.Proofs.Ytllkkgcfhphgmaa
