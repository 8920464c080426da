/-
  What the document's own big returns (layer 5). Conditions: as it says.
-/
import Derived.Test.YtoocppfdcalmfaaSumMath
import Derived.Test.YtoocppfdcalmfaaCrcRows
namespace Go.Proofs.Ytoocppfdcalmfaa
open Go.RowKit
set_option linter.unusedVariables false

/-- a slice of bytes that lies in a block of its own, at or beyond base -/
def RowB (w : World) (base : Nat) (x : Value) (l : List Nat) : Prop := w.ownsRow base 5 1 x l.length (u8v l)
theorem RowB.form {w : World} {base : Nat} {x : Value} {l : List Nat} (h : RowB w base x l) : (x = .slice none 0 0 ∧ l = []) ∨ ∃ g cap, x = .slice (some ⟨g, 0, none⟩) l.length cap ∧ l.length ≤ cap ∧ base ≤ g ∧ g < w.heap.size := by
  rcases h.2 with ⟨h1, h2⟩ | ⟨g, cap, cur, h1, h2, h3, h4, _⟩
  · exact .inl ⟨h1, List.length_eq_zero_iff.1 h2⟩
  · exact .inr ⟨g, cap, h1, h4, h2, (Array.getElem?_eq_some_iff.1 h3).1⟩
theorem RowB.at {w : World} {base : Nat} {x : Value} {l : List Nat} (h : RowB w base x l) : BytesAt w x l := by
  rcases h.form with h1 | ⟨g, cap, rfl, _, _, hl⟩
  · exact .inl h1
  · refine .inr ⟨g, 0, cap, rfl, fun j hj => ?_, hl⟩
    rw [Nat.zero_add]
    rw [World.ownsRow.cellAt h j (by omega), List.getElem?_map, List.getElem?_eq_getElem hj]; rfl
theorem rowB_one (w : World) (base : Nat) (b : Nat) (h : base ≤ w.heap.size) : (w.alloc (.cells #[.int .u8 (b : Int)] 5)).ownsRow base 5 1 (.slice (some ⟨w.heap.size, 0, none⟩) 1 1) 1 [.int .u8 (b : Int)] :=
  ⟨rfl, .inr ⟨w.heap.size, 1, #[.int .u8 (b : Int)], rfl, h, World.alloc_heap_new w _, by omega, by unfold maxLen; omega, rfl, rfl⟩⟩

set_option maxHeartbeats 4000000 in
theorem big_any (v n : Nat) (w : World) (hv : v < 4294967296) (hn : n ≤ 40) :
    Calls Try.prog 15 #[.int .u32 (v : Int), .int .i64 (n : Int)] w fun e w' => ∃ x, e = .returned x ∧ RowB w' w.heap.size x (bigL v n) ∧ Below w.heap.size w w' := by
  obtain ⟨i0, hi, hz0, hz1, hz2⟩ := info_parts info_u8
  have hni : (n : Int) ≤ 40 := by omega
  go_enter Try.func15, Try.ntmps15
  go_wp2
  go_loopw [0, 5, 6] (fun a o i wr => ∃ k m : Nat, k ≤ n ∧ i = .int .i64 (k : Int) ∧ a = .int .u32 (m : Int) ∧ Hid (m = v / 256 ^ k) ∧ Hid (RowB wr w.heap.size o (bigL v k)) ∧ Hid (Below w.heap.size w wr)) (fun _ _ i _ => n - (intOf i).toNat)
  case atStart => exact ⟨0, v, by omega, rfl, rfl, by show _ = _; simp, World.ownsRow_nil _ _ _ _, Below.refl _ _⟩
  case round =>
    obtain ⟨k, m, hk, rfl, rfl, hm, hrow, hB⟩ := hrel
    have hmb : (0 : Int) ≤ (m : Int) ∧ (m : Int) < 4294967296 := by
      have : v / 256 ^ k ≤ v := Nat.div_le_self _ _
      have := hm.out
      exact ⟨by omega, by omega⟩
    by_cases hlt : k < n
    · have hki : (k : Int) < (n : Int) := by omega
      obtain ⟨b, hb⟩ : ∃ b : Nat, b = m % 256 := ⟨_, rfl⟩
      have hbit : Hid (bigL v (k + 1) = b :: bigL v k) := by
        show _ = _
        rw [hb, hm.out]; exact bigL_cons k v
      have hdiv : Hid (m / 256 = v / 256 ^ (k + 1)) := by
        show _ = _
        rw [hm.out, Nat.div_div_eq_div_mul, Nat.pow_succ]
      have hb1 : (m : Int) % 256 = (b : Int) := by omega
      have hb2 : IntKind.u8.wrap (b : Int) = (b : Int) := by simp only [IntKind.wrap_u8']; omega
      rcases hrow.out.form with ⟨rfl, hz⟩ | ⟨g, cap, rfl, hc, hg, hgl⟩
      · have hr1 : Hid (RowB (wr.alloc (.cells #[.int .u8 (b : Int)] 5)) w.heap.size (.slice (some ⟨wr.heap.size, 0, none⟩) 1 1) (bigL v (k + 1))) := by
          unfold Hid RowB
          rw [hbit.out, hz]; exact rowB_one wr _ _ hB.out.size
        have hB1 : Hid (Below w.heap.size w (wr.alloc (.cells #[.int .u8 (b : Int)] 5))) := hB.out.alloc hB.out.size _
        clear hbit hm hb
        go_wp2
        exact ⟨⟨k + 1, m / 256, by omega, by simp, by simp, hdiv, hr1, hB1⟩, by simp [intOf]; omega⟩
      · have hkl : (bigL v k).length = k := bigL_len k v
        have hone : ∀ u ∈ u8v (bigL v k), u.oneCell' = true := bytes_one _
        have h63 : 1 + (bigL v k).length ≤ maxLen := by unfold maxLen; omega
        have hby : (1 + (bigL v k).length) * 1 ≤ 140737488355328 := by omega
        have hsz := hB.out.size
        clear hb
        go_wp2_with (at_builtin; refine wpList_append_own _ rfl _ _ 22 rfl w.heap.size 5 i0 (.int .u8 0) 1 1 Try.underlying22 hi hz0 hz1 hz2 rfl (by decide) _ _ _ rfl (rowB_one wr w.heap.size b hsz) ⟨g, 0, none⟩ (bigL v k).length cap (u8v (bigL v k)) rfl (by simp) ((World.ownsRow.alloc hrow.out _).cells rfl) hone h63 hby (by simp; omega) ?_; intro v' w1 hown' hgrow _)
        have hr1 : RowB w1 w.heap.size v' (bigL v (k + 1)) := by
          unfold RowB
          rw [hbit.out, List.length_cons, Nat.add_comm]
          exact hown'
        have hB1 : Below w.heap.size w w1 := by
          refine (hB.out.alloc hsz _).grown hgrow (by simp; omega) (fun j ej => ?_)
          exact (World.ownsRow.lt (rowB_one wr w.heap.size b hsz) j ej).1
        exact ⟨⟨k + 1, m / 256, by omega, by simp, by simp, hdiv, hr1, hB1⟩, by simp [intOf]; omega⟩
    · obtain rfl : k = n := by omega
      go_wp2
      go_ret
      exact ⟨_, rfl, hrow.out, hB.out⟩
end Go.Proofs.Ytoocppfdcalmfaa
