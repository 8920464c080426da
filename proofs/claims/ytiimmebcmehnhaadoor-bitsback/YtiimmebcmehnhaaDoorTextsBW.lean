/-
  What whole.Text returns, once more: that it lays new blocks alone ('Below'). Condition: the number is one of 64 bits.
-/
import Derived.Test.YtiimmebcmehnhaaDoorTextsW
import Derived.Below
namespace Go.Proofs.YtiimmebcmehnhaaDoor
open Go.RowKit
set_option linter.unusedVariables false

set_option maxHeartbeats 1000000 in
theorem btext_any (a : Int) (w : World) (ha : -9223372036854775808 ≤ a ∧ a ≤ 9223372036854775807) :
    Calls Tryd.prog 25 #[.int .i64 a] w fun e w' => e = .returned (.string ⟨(textL a).toArray⟩) ∧ Below w.heap.size w w' := by
  have hn : (a.natAbs : Int) ≤ 9223372036854775808 := by omega
  go_enter Tryd.func25, Tryd.ntmps25
  go_wp2_with fail
  refine (size_any a _ ha).mono ?_
  rintro e w' ⟨rfl, rfl⟩
  generalize hq : a.natAbs = q at *
  have hq' : Hid _ := hq
  clear hq
  go_wp2
  go_loopw [4, 5, 8] (fun u v i wx => ∃ j k m : Nat, u = .int .i64 ((j : Int) + 1) ∧ v = .int .u64 (m : Int) ∧ i = .int .i64 (k : Int) ∧ j + k ≤ 19 ∧ 19 ≤ j + k ∧ m ≤ q ∧ Hid (m = q / 10 ^ k) ∧ Hid (k = 0 ∨ q / 10 ^ k ≠ 0) ∧ wx = w.alloc (.cells (bufC (j + 1) k q) 62)) (fun _ _ i _ => 19 - (intOf i).toNat)
  case atStart => exact ⟨19, 0, q, rfl, rfl, rfl, by omega, by omega, by omega, by show _ = _; simp, .inl rfl, by rw [buf0]⟩
  case round =>
    obtain ⟨j, k, m, rfl, rfl, rfl, h1, h2, hmq, hm, h3, rfl⟩ := hrel
    by_cases h0 : (k : Int) < 19
    · have hcell : (w.alloc (.cells (bufC (j + 1) k q) 62)).cell? ⟨w.heap.size, j, none⟩ = some (.int .u8 0) := by
        simp [buf_at]
      have hset := buf_set j k q m hm.out
      have hdm : Hid (m / 10 = q / 10 ^ (k + 1)) := by show _ = _; rw [hm.out, Nat.div_div_eq_div_mul, Nat.pow_succ]
      obtain ⟨i, rfl⟩ : ∃ i, j = i + 1 := ⟨j - 1, by omega⟩
      have hat : (w.alloc (.cells (bufC (i + 1) (k + 1) q) 62)).cell? ⟨w.heap.size, i, none⟩ = some (.int .u8 0) := by
        simp [buf_at]
      have hset2 := bufM_set i (k + 1) q
      by_cases hz : (m : Int) / 10 = 0
      · have hend := text_end hq'.out (show q / 10 ^ (k + 1) = 0 by rw [← hdm.out]; omega) h3.out (by omega)
        have HE : Hid _ := hend
        clear hend
        by_cases hs : a < 0
        · have hsl := fun wx => slice_tail w.heap.size i (by omega) wx
          have hcv := conv_M w i (k + 1) q (by omega)
          go_wp2
          go_ret
          exact ⟨ret_s (HE.out.1 hs), (Below.refl _ _).alloc (Nat.le_refl _) _⟩
        · have hs : 0 ≤ a := by omega
          have hsl := fun wx => slice_tail w.heap.size (i + 1) (by omega) wx
          simp only [Int.natCast_add, Int.natCast_one] at hsl
          have hcv := conv_C w (i + 1) (k + 1) q (by omega)
          rw [show 20 - (i + 1) = 19 - i by omega] at hcv
          go_wp2
          go_ret
          exact ⟨ret_s (HE.out.2 hs), (Below.refl _ _).alloc (Nat.le_refl _) _⟩
      · go_wp2
        go_roundw
        case rel => exact ⟨i, k + 1, m / 10, by go_num, by go_num, by go_num, by omega, by omega, by omega, hdm, .inr (by rw [← hdm.out]; omega), rfl⟩
        case measure => simp [intOf]; omega
    · exfalso
      have hk : k = 19 := by omega
      subst hk
      rcases h3.out with h | h
      · omega
      · exact h (pow19 hn)

end Go.Proofs.YtiimmebcmehnhaaDoor
