/-
  The document's own Text of any number of 64 bits. Condition: the number is one of 64 bits.
-/
import Derived.Test.YtlhjhefbindlkaaTexts
namespace Go.Proofs.Ytlhjhefbindlkaa
open Go.RowKit
set_option linter.unusedVariables false

theorem conv_one (w : World) (m : Nat) :
    (convert 66 9 (.slice (some ⟨w.heap.size, 0, none⟩) 1 1)).run Try.prog (w.alloc (.cells #[.int .u8 (48 + (m : Int) % 10)] 5)) = .ok (.string ⟨#[dig m]⟩) (w.alloc (.cells #[.int .u8 (48 + (m : Int) % 10)] 5)) := by
  have := run_convert_bytes_back (P := Try.prog) (w.alloc (.cells #[.int .u8 (48 + (m : Int) % 10)] 5)) 66 9 5 ⟨w.heap.size, 0, none⟩ 1 [dig m] Try.underlying66 Try.underlying5 Try.underlying9 (fun i hi => by
    rw [addr_add]
    have : i = 0 := by simpa using hi
    subst this
    simp [dig_toNat])
  exact this

theorem conv_two (w : World) (m : Nat) :
    (convert 66 9 (.slice (some ⟨w.heap.size, 0, none⟩) 1 1)).run Try.prog (w.alloc (.cells #[.int .u8 (48 + (m : Int) / 10 % 10)] 5)) = .ok (.string ⟨#[dig (m / 10)]⟩) (w.alloc (.cells #[.int .u8 (48 + (m : Int) / 10 % 10)] 5)) := by
  have := conv_one w (m / 10)
  rw [Int.natCast_ediv] at this
  exact this

theorem cat_one (c : UInt8) (l : List UInt8) : (ByteArray.mk #[c] ++ ByteArray.mk l.toArray) = ByteArray.mk (c :: l).toArray := by
  apply ByteArray.ext
  apply Array.toList_inj.1
  rw [ByteArray.data_append]
  simp

set_option maxHeartbeats 1000000 in
theorem rtext_any (a : Int) (w : World) (ha : -9223372036854775808 ≤ a ∧ a ≤ 9223372036854775807) :
    Calls Try.prog 25 #[.int .i64 a] w fun e w' => e = .returned (.string ⟨(textL a).toArray⟩) ∧ Grown w w' := by
  have hn : (a.natAbs : Int) ≤ 9223372036854775808 := by omega
  have hcv := fun w m => conv_one w m
  have hct := fun c l => cat_one c l
  go_enter Try.func25, Try.ntmps25
  go_wp2_with fail
  refine (rsize_any a _ ha).mono ?_
  rintro e w' ⟨rfl, rfl⟩
  generalize hq : a.natAbs = q at *
  have hq' : Hid _ := hq
  clear hq
  go_wp2
  go_loopw [3, 4] (fun n u wx => ∃ k m : Nat, ∃ L : List UInt8, n = .int .u64 (m : Int) ∧ u = .string ⟨L.toArray⟩ ∧ m ≤ q ∧ k ≤ 18 ∧ Hid (m = q / 10 ^ k) ∧ Hid (L = low (k + 1) q) ∧ Hid (k = 0 ∨ q / 10 ^ k ≠ 0) ∧ Grown w' wx) (fun n _ _ => (intOf n).toNat)
  case atStart => exact ⟨0, q, [dig q], rfl, rfl, by omega, by omega, by show _ = _; simp, by show _ = _; simp [low], .inl rfl, (Grown.refl _).alloc _ _⟩
  case round =>
    obtain ⟨k, m, L, rfl, rfl, hmq, hk, hm, hL, h3, hg⟩ := hrel
    have hdm : Hid (m / 10 = q / 10 ^ (k + 1)) := by show _ = _; rw [hm.out, Nat.div_div_eq_div_mul, Nat.pow_succ]
    have hlen : L.length ≤ 20 := by rw [hL.out, low_length]; omega
    by_cases h9 : (9 : Int) < (m : Int)
    · have hcv2 := fun w => conv_two w m
      go_wp2
      go_roundw
      case rel => exact ⟨k + 1, m / 10, dig (m / 10) :: L, by go_num, rfl, by omega, by
          rcases Nat.lt_or_ge k 18 with h | h
          · omega
          · exfalso
            have : k = 18 := by omega
            subst this
            have := pow19 hn
            have h2 := hdm.out
            omega, hdm, by show _ = _; rw [hL.out, hdm.out]; rfl, .inr (by rw [← hdm.out]; omega), hg.alloc _ _⟩
      case measure => simp [intOf]; omega
    · have hend := text_end hq'.out (show q / 10 ^ (k + 1) = 0 by rw [← hdm.out]; omega) h3.out hk
      rw [← hL.out] at hend
      have HE : Hid _ := hend
      clear hend hcv
      by_cases hs : a < 0
      · go_wp2
        go_ret
        exact ⟨ret_s (HE.out.1 hs), hg⟩
      · have hs : 0 ≤ a := by omega
        go_wp2
        go_ret
        exact ⟨ret_s (HE.out.2 hs), hg⟩
end Go.Proofs.Ytlhjhefbindlkaa
