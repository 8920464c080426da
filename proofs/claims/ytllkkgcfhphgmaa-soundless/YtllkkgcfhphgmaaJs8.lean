/-
  Texts that belong together, one behind the other: CrcRefA. Conditions: as each says.
-/
import Derived.Below
import Derived.Handy
import Derived.Laws.OwnMore
import Derived.Maps.AppendAt
import Derived.OwnWalk
import Derived.RangeFuncBox
import Derived.Test.YtllkkgcfhphgmaaJs1
import Derived.Test.YtllkkgcfhphgmaaProg
import Derived.WalkKit
import Derived.WalkLawsBesides
import Derived.WalkSpells
/-
  What the document's own bits, number and turned return (layer 4). Conditions: as each says.
-/
namespace Go.Proofs.Ytllkkgcfhphgmaa
open Go.RowKit
set_option linter.unusedVariables false

theorem info_bool : (Try.prog.info? 4).map (fun i => (i.zero, i.size, i.bytes)) = some (some (.bool false), 1, 1) := by kernel_rfl

/-- a slice of bits that lies in a block of its own, at or beyond base -/
def Row (w : World) (base : Nat) (x : Value) (l : List Bool) : Prop := w.ownsRow base 4 1 x l.length (l.map Value.bool)
theorem Row.form {w : World} {base : Nat} {x : Value} {l : List Bool} (h : Row w base x l) : (x = .slice none 0 0 ∧ l = []) ∨ ∃ g cap, x = .slice (some ⟨g, 0, none⟩) l.length cap ∧ l.length ≤ cap ∧ base ≤ g ∧ g < w.heap.size := by
  rcases h.2 with ⟨h1, h2⟩ | ⟨g, cap, cur, h1, h2, h3, h4, _⟩
  · exact .inl ⟨h1, List.length_eq_zero_iff.1 h2⟩
  · exact .inr ⟨g, cap, h1, h4, h2, (Array.getElem?_eq_some_iff.1 h3).1⟩
theorem Row.cell {w : World} {base g cap : Nat} {l : List Bool} (h : Row w base (.slice (some ⟨g, 0, none⟩) l.length cap) l) (j : Nat) (hj : j < l.length) : w.cell? ⟨g, j, none⟩ = some (.bool l[j]) := by
  rw [World.ownsRow.cellAt h j (by omega), List.getElem?_map, List.getElem?_eq_getElem hj]; rfl
theorem Row.below {w w' : World} {base : Nat} {x : Value} {l : List Bool} (h : Row w base x l) (hb : Below w.heap.size w w') : Row w' base x l := by
  refine ⟨h.1, ?_⟩
  rcases h.2 with k | ⟨g, cap, cur, h1, h2, h3, h4⟩
  · exact .inl k
  · exact .inr ⟨g, cap, cur, h1, h2, (hb.block g (Array.getElem?_eq_some_iff.1 h3).1).trans h3, h4⟩

theorem numL_take (l : List Bool) {k : Nat} (h : k < l.length) : numL (l.take (k + 1)) = 2 * numL (l.take k) + l[k].toNat := by
  rw [← List.take_append_getElem h, numL_snoc]

set_option maxHeartbeats 2000000 in
theorem number_any (l : List Bool) (x : Value) (base : Nat) (w : World) (h : Row w base x l) (hl : l.length ≤ 32) :
    Calls Try.prog 45 #[x] w fun e w' => e = .returned (.int .u32 (numL l : Int)) ∧ w' = w := by
  rcases h.form with ⟨rfl, rfl⟩ | ⟨g, cap, rfl, hc, _, _⟩
  · go_enter Try.func45, Try.ntmps45
    go_wp2
    go_loop [3, 4] (fun v i => v = .int .u32 0 ∧ i = .int .i64 0) (fun _ _ => 0)
    case atStart => exact ⟨rfl, rfl⟩
    case round =>
      obtain ⟨rfl, rfl⟩ := hrel
      go_wp2
      go_ret
      exact ⟨rfl, rfl⟩
  · have HC : Hid (∀ j (hj : j < l.length), w.cell? ⟨g, j, none⟩ = some (.bool l[j])) := fun j hj => h.cell j hj
    have hl1 : (l.length : Int) ≤ 32 := by omega
    clear h
    go_enter Try.func45, Try.ntmps45
    go_wp2
    go_loop [3, 4] (fun v i => ∃ k : Nat, k ≤ l.length ∧ i = .int .i64 (k : Int) ∧ v = .int .u32 ((numL (l.take k) : Nat) : Int)) (fun _ i => l.length - (intOf i).toNat)
    case atStart => exact ⟨0, by omega, rfl, rfl⟩
    case round =>
      obtain ⟨k, hk, rfl, rfl⟩ := hrel
      by_cases hlt : k < l.length
      · have hcell := HC.out k hlt
        have hnx : Hid (numL (l.take (k + 1)) = 2 * numL (l.take k) + l[k].toNat) := numL_take l hlt
        have hbd : numL (l.take k) < 2147483648 := by
          have h1 := numL_lt (l.take k)
          have h2 : (l.take k).length ≤ 31 := by rw [List.length_take]; omega
          have h3 : 2 ^ (l.take k).length ≤ 2 ^ 31 := Nat.pow_le_pow_right (by omega) h2
          omega
        have hb0 : (0 : Int) ≤ ((numL (l.take k) : Nat) : Int) ∧ ((numL (l.take k) : Nat) : Int) < 2147483648 := ⟨by omega, by omega⟩
        have hki : (k : Int) < (l.length : Int) := by omega
        generalize l[k] = b at *
        generalize numL (l.take k) = m at *
        obtain ⟨m', hm'⟩ : ∃ m', numL (l.take (k + 1)) = m' := ⟨_, rfl⟩
        have hm : numL (l.take (k + 1)) = m' := hm'
        rw [hm'] at hnx
        replace hm : Hid (numL (l.take (k + 1)) = m') := hm
        clear hm'
        have w1 : IntKind.u32.wrap (2 * (m : Int)) = 2 * (m : Int) := by
          simp only [IntKind.wrap_u32]; omega
        have w2 : IntKind.u32.wrap (2 * (m : Int) + 1) = 2 * (m : Int) + 1 := by
          simp only [IntKind.wrap_u32]; omega
        cases b
        · go_wp2
          exact ⟨⟨k + 1, by omega, by simp, by rw [hm.out, hnx.out]; simp⟩, by simp [intOf]; omega⟩
        · go_wp2
          exact ⟨⟨k + 1, by omega, by simp, by rw [hm.out, hnx.out]; simp⟩, by simp [intOf]; omega⟩
      · obtain rfl : k = l.length := by omega
        go_wp2
        go_ret
        exact ⟨rfl, rfl⟩

theorem bits_cons (v k : Nat) : bitsL v (k + 1) = decide (v / 2 ^ k % 2 = 1) :: bitsL v k := by
  refine numL_inj (by simp [bitsL_len]) ?_
  rw [numL_bits, numL_cons, bitsL_len, numL_bits]
  have h : (decide (v / 2 ^ k % 2 = 1)).toNat = v / 2 ^ k % 2 := by
    rcases Nat.mod_two_eq_zero_or_one (v / 2 ^ k) with h | h <;> simp [h]
  rw [h, Nat.pow_succ, Nat.mod_mul]
  grind

/-- one bit, in a block of its own -/
theorem row_one (w : World) (base : Nat) (b : Bool) (h : base ≤ w.heap.size) : (w.alloc (.cells #[.bool b] 4)).ownsRow base 4 1 (.slice (some ⟨w.heap.size, 0, none⟩) 1 1) 1 [.bool b] :=
  ⟨rfl, .inr ⟨w.heap.size, 1, #[.bool b], rfl, h, World.alloc_heap_new w _, by omega, by unfold maxLen; omega, rfl, rfl⟩⟩

set_option maxHeartbeats 4000000 in
theorem bits_any (v n : Nat) (w : World) (hv : v < 4294967296) (hn : n ≤ 40) :
    Calls Try.prog 43 #[.int .u32 (v : Int), .int .i64 (n : Int)] w fun e w' => ∃ x, e = .returned x ∧ Row w' w.heap.size x (bitsL v n) ∧ Below w.heap.size w w' := by
  obtain ⟨i0, hi, hz0, hz1, hz2⟩ := info_parts info_bool
  have hni : (n : Int) ≤ 40 := by omega
  go_enter Try.func43, Try.ntmps43
  go_wp2
  go_loopw [0, 5, 6] (fun a o i wr => ∃ k m : Nat, k ≤ n ∧ i = .int .i64 (k : Int) ∧ a = .int .u32 (m : Int) ∧ Hid (m = v / 2 ^ k) ∧ Hid (Row wr w.heap.size o (bitsL v k)) ∧ Hid (Below w.heap.size w wr)) (fun _ _ i _ => n - (intOf i).toNat)
  case atStart => exact ⟨0, v, by omega, rfl, rfl, by show _ = _; simp, World.ownsRow_nil _ _ _ _, Below.refl _ _⟩
  case round =>
    obtain ⟨k, m, hk, rfl, rfl, hm, hrow, hB⟩ := hrel
    have hmb : (0 : Int) ≤ (m : Int) ∧ (m : Int) < 4294967296 := by
      have : v / 2 ^ k ≤ v := Nat.div_le_self _ _
      have := hm.out
      exact ⟨by omega, by omega⟩
    by_cases hlt : k < n
    · have hki : (k : Int) < (n : Int) := by omega
      have hbit : Hid (bitsL v (k + 1) = decide (m % 2 = 1) :: bitsL v k) := by
        show _ = _
        rw [hm.out]; exact bits_cons v k
      have hdiv : Hid (m / 2 = v / 2 ^ (k + 1)) := by
        show _ = _
        rw [hm.out, Nat.div_div_eq_div_mul, Nat.pow_succ]
      have hbb : ((m : Int) % 2 == 1) = decide (m % 2 = 1) := by
        rw [Bool.eq_iff_iff]; simp; omega
      rcases hrow.out.form with ⟨rfl, hz⟩ | ⟨g, cap, rfl, hc, hg, hgl⟩
      · have hr1 : Hid (Row (wr.alloc (.cells #[.bool (decide (m % 2 = 1))] 4)) w.heap.size (.slice (some ⟨wr.heap.size, 0, none⟩) 1 1) (bitsL v (k + 1))) := by
          unfold Hid Row
          rw [hbit.out, hz]; exact row_one wr _ _ hB.out.size
        have hB1 : Hid (Below w.heap.size w (wr.alloc (.cells #[.bool (decide (m % 2 = 1))] 4))) := hB.out.alloc hB.out.size _
        clear hbit hm
        go_wp2
        exact ⟨⟨k + 1, m / 2, by omega, by simp, by simp, hdiv, hr1, hB1⟩, by simp [intOf]; omega⟩
      · have hkl : (bitsL v k).length = k := bitsL_len k v
        have hone : ∀ u ∈ (bitsL v k).map Value.bool, u.oneCell' = true := fun u hu => by
          obtain ⟨b, _, rfl⟩ := List.mem_map.1 hu; rfl
        have h63 : 1 + (bitsL v k).length ≤ maxLen := by unfold maxLen; omega
        have hby : (1 + (bitsL v k).length) * 1 ≤ 140737488355328 := by omega
        have hsz := hB.out.size
        go_wp2_with (at_builtin; refine wpList_append_own _ rfl _ _ 72 rfl w.heap.size 4 i0 (.bool false) 1 1 Try.underlying72 hi hz0 hz1 hz2 rfl (by decide) _ _ _ rfl (row_one wr w.heap.size (decide (m % 2 = 1)) hsz) ⟨g, 0, none⟩ (bitsL v k).length cap ((bitsL v k).map Value.bool) rfl (by simp) ((World.ownsRow.alloc hrow.out _).cells rfl) hone h63 hby (by simp; omega) ?_; intro v' w1 hown' hgrow _)
        have hr1 : Row w1 w.heap.size v' (bitsL v (k + 1)) := by
          unfold Row
          rw [hbit.out, List.length_cons, Nat.add_comm]
          exact hown'
        have hB1 : Below w.heap.size w w1 := by
          refine (hB.out.alloc hsz _).grown hgrow (by simp; omega) (fun j ej => ?_)
          exact (World.ownsRow.lt (row_one wr w.heap.size (decide (m % 2 = 1)) hsz) j ej).1
        exact ⟨⟨k + 1, m / 2, by omega, by simp, by simp, hdiv, hr1, hB1⟩, by simp [intOf]; omega⟩
    · obtain rfl : k = n := by omega
      go_wp2
      go_ret
      exact ⟨_, rfl, hrow.out, hB.out⟩

theorem drop_rev (l : List Bool) {j : Nat} (h : j < l.length) : (l.drop j).reverse = (l.drop (j + 1)).reverse ++ [l[j]] := by
  rw [List.drop_eq_getElem_cons h, List.reverse_cons]

set_option maxHeartbeats 4000000 in
theorem turned_any (l : List Bool) (x : Value) (base : Nat) (w : World) (h : Row w base x l) (hl : l.length ≤ 40) :
    Calls Try.prog 44 #[x] w fun e w' => ∃ y, e = .returned y ∧ Row w' w.heap.size y l.reverse ∧ Below w.heap.size w w' := by
  obtain ⟨i0, hi, hz0, hz1, hz2⟩ := info_parts info_bool
  rcases h.form with ⟨rfl, rfl⟩ | ⟨g, cap, rfl, hc, _, hgl⟩
  · go_enter Try.func44, Try.ntmps44
    go_wp2
    go_loop [3, 4] (fun o i => o = .slice none 0 0 ∧ i = .int .i64 (-1)) (fun _ _ => 0)
    case atStart => exact ⟨rfl, rfl⟩
    case round =>
      obtain ⟨rfl, rfl⟩ := hrel
      go_wp2
      go_ret
      exact ⟨_, rfl, World.ownsRow_nil _ _ _ _, Below.refl _ _⟩
  · have HC : Hid (∀ j (hj : j < l.length), w.cell? ⟨g, j, none⟩ = some (.bool l[j])) := fun j hj => h.cell j hj
    have hl1 : (l.length : Int) ≤ 40 := by omega
    clear h
    go_enter Try.func44, Try.ntmps44
    go_wp2
    go_loopw [3, 4] (fun o i wr => ∃ j : Nat, j ≤ l.length ∧ i = .int .i64 ((j : Int) - 1) ∧ Hid (Row wr w.heap.size o (l.drop j).reverse) ∧ Hid (Below w.heap.size w wr)) (fun _ i _ => (intOf i + 1).toNat)
    case atStart => exact ⟨l.length, by omega, by simp, by unfold Hid; rw [List.drop_length]; exact World.ownsRow_nil _ _ _ _, Below.refl _ _⟩
    case round =>
      obtain ⟨j, hj, rfl, hrow, hB⟩ := hrel
      cases j with
      | zero =>
        go_wp2
        go_ret
        exact ⟨_, rfl, hrow.out, hB.out⟩
      | succ j =>
        have ej : ((j + 1 : Nat) : Int) - 1 = (j : Int) := by omega
        have hji : (j : Int) < (l.length : Int) := by omega
        have hcell : wr.cell? ⟨g, j, none⟩ = some (.bool l[j]) := (hB.out.cell (p := ⟨g, j, none⟩) hgl).trans (HC.out j (by omega))
        have hrev : Hid ((l.drop j).reverse = (l.drop (j + 1)).reverse ++ [l[j]]) := drop_rev l (by omega)
        have hlen : (l.drop (j + 1)).reverse.length ≤ 40 := by simp; omega
        have h63 : (l.drop (j + 1)).reverse.length + 1 ≤ maxLen := by unfold maxLen; omega
        have hby : ((l.drop (j + 1)).reverse.length + 1) * 1 ≤ 140737488355328 := by omega
        have hsz := hB.out.size
        generalize l[j] = b at *
        rw [ej]
        go_wp2_with (at_builtin; refine wpList_append_own _ rfl _ _ 72 rfl w.heap.size 4 i0 (.bool false) 1 1 Try.underlying72 hi hz0 hz1 hz2 rfl (by decide) _ _ _ rfl (World.ownsRow.alloc hrow.out _) ⟨wr.heap.size, 0, none⟩ 1 1 [.bool b] rfl rfl (cell_one_new _ _ _) (by simp [Value.oneCell']) h63 hby (by simp; omega) ?_; intro v' w1 hown' hgrow _)
        have hr1 : Row w1 w.heap.size v' (l.drop j).reverse := by
          unfold Row
          rw [hrev.out, List.length_append, List.map_append]
          exact hown'
        have hB1 : Below w.heap.size w w1 := by
          refine (hB.out.alloc hsz _).grown hgrow (by simp; omega) (fun q eq => ?_)
          exact (World.ownsRow.lt hrow.out q eq).1
        exact ⟨⟨j, by omega, by simp, hr1, hB1⟩, by simp [intOf]⟩
end Go.Proofs.Ytllkkgcfhphgmaa
