/-
  The document's own Read, whole: what it returns of any text; and its own Text of any number of 64 bits. Conditions: the text fits memory; the number is one of 64 bits.
-/
import Derived.Test.YtaiiimmdhfcnmaaRefReads
namespace Go.Proofs.Ytaiiimmdhfcnmaa
open Go.RowKit
set_option linter.unusedVariables false

set_option maxHeartbeats 1000000 in
theorem rread_none_minus (s t : ByteArray) (w : World) (hs : s.size ≤ maxLen) (hx : s.extract 1 s.size = t) (h0 : 0 < s.size) (hm : ((s[0].toNat : Int) == 45) = true) (hz0 : t.size = 0) :
    Calls Try.prog 19 #[.string s] w fun e w' => e = .returned (.tuple #[.int .i64 (coreV t.data.toList true), .int .i64 (coreE t.data.toList true)]) ∧ w' = w := by
  unfold maxLen at hs
  have hz : ((t.size : Int) == 0) = true := beq_iff_eq.2 (by omega)
  have hz2 : t = ByteArray.empty := ByteArray.ext (Array.eq_empty_of_size_eq_zero hz0)
  have H : Hid (coreV t.data.toList true = 0 ∧ coreE t.data.toList true = 6) := core_bad (bad_none hz0)
  clear hz0
  go_enter Try.func19, Try.ntmps19
  go_wp2
  go_ret2
  exact ⟨ret_nn H.out, rfl⟩
set_option maxHeartbeats 1000000 in
theorem rread_none_plus (t : ByteArray) (w : World) (hz0 : t.size = 0) :
    Calls Try.prog 19 #[.string t] w fun e w' => e = .returned (.tuple #[.int .i64 (coreV t.data.toList false), .int .i64 (coreE t.data.toList false)]) ∧ w' = w := by
  have H : Hid (coreV t.data.toList false = 0 ∧ coreE t.data.toList false = 6) := core_bad (bad_none hz0)
  have hz2 : t = ByteArray.empty := ByteArray.ext (Array.eq_empty_of_size_eq_zero hz0)
  subst hz2
  go_enter Try.func19, Try.ntmps19
  go_wp2
  go_ret2
  exact ⟨ret_nn H.out, rfl⟩

set_option maxHeartbeats 1000000 in
theorem rread_zero (s t : ByteArray) (m : Bool) (w : World) (hs : s.size ≤ maxLen) (ht : t.size ≤ maxLen)
    (hc : (m = true ∧ s.extract 1 s.size = t ∧ ∃ h0 : 0 < s.size, ((s[0].toNat : Int) == 45) = true) ∨ (m = false ∧ s = t ∧ ∃ h0 : 0 < s.size, ((s[0].toNat : Int) == 45) = false))
    (h0 : 0 < t.size) (hn2 : ((t[0].toNat : Int) == 48) = true) (hok : (1 : Int) < (t.size : Int) ∨ ((t.size : Int) ≤ 1 ∧ m = true)) :
    Calls Try.prog 19 #[.string s] w fun e w' => e = .returned (.tuple #[.int .i64 (coreV t.data.toList m), .int .i64 (coreE t.data.toList m)]) ∧ w' = w := by
  unfold maxLen at hs ht
  have hz : ((t.size : Int) == 0) = false := beq_eq_false_iff_ne.2 (by omega)
  have H : Hid (coreV t.data.toList m = 0 ∧ coreE t.data.toList m = 6) := core_bad (bad_zero h0 (by simpa using hn2) (by
    rcases hok with h | ⟨_, h⟩
    · exact .inl (by omega)
    · exact .inr h))
  rcases hc with ⟨rfl, hx, hs0, hm⟩ | ⟨rfl, rfl, hs0, hm⟩
  case' inr => generalize s = t at *
  all_goals
    rcases hok with hk | ⟨hk, hk2⟩
    all_goals try (exfalso; cases hk2; done)
    all_goals
      go_enter Try.func19, Try.ntmps19
      go_wp2
      go_ret2
      exact ⟨ret_nn H.out, rfl⟩

theorem rread_any (s : ByteArray) (w : World) (hs : s.size ≤ maxLen) :
    Calls Try.prog 19 #[.string s] w fun e w' => e = .returned (.tuple #[.int .i64 (readV s.data.toList), .int .i64 (readE s.data.toList)]) ∧ w' = w := by
  have core : ∀ (t : ByteArray) (m : Bool), t.size ≤ maxLen → ((m = true ∧ s.extract 1 s.size = t ∧ ∃ h0 : 0 < s.size, ((s[0].toNat : Int) == 45) = true) ∨ (m = false ∧ s = t ∧ ∃ h0 : 0 < s.size, ((s[0].toNat : Int) == 45) = false)) → 0 < t.size →
      Calls Try.prog 19 #[.string s] w fun e w' => e = .returned (.tuple #[.int .i64 (coreV t.data.toList m), .int .i64 (coreE t.data.toList m)]) ∧ w' = w := by
    intro t m ht hc h0
    by_cases h48 : (t[0].toNat : Int) = 48
    · by_cases h1 : 1 < t.size
      · exact rread_zero s t m w hs ht hc h0 (beq_iff_eq.2 h48) (.inl (by omega))
      · cases m
        · exact rread_short s t false w hs ht hc h0 (.inr ⟨beq_iff_eq.2 h48, by omega, rfl⟩) (by omega)
        · exact rread_zero s t true w hs ht hc h0 (beq_iff_eq.2 h48) (.inr ⟨by omega, rfl⟩)
    · by_cases h19 : 19 < t.size
      · exact rread_over s t m w hs ht hc h0 h48 (by omega)
      · exact rread_short s t m w hs ht hc h0 (.inl (beq_eq_false_iff_ne.2 h48)) (by omega)
  unfold readV readE
  by_cases h0 : 0 < s.size
  · rw [head_is s h0]
    by_cases hc : s[0] = 45
    · rw [if_pos (by rw [hc]), if_pos (by rw [hc])]
      have ht : (s.extract 1 s.size).data.toList = s.data.toList.drop 1 := Lib.extract_to_end s 1
      have hts : (s.extract 1 s.size).size ≤ maxLen := by simp [maxLen] at hs ⊢; omega
      rw [← ht]
      by_cases hz : (s.extract 1 s.size).size = 0
      · exact rread_none_minus s _ w hs rfl h0 (eq45.2 hc) hz
      · exact core _ true hts (.inl ⟨rfl, rfl, h0, eq45.2 hc⟩) (by omega)
    · have hn : ¬ some s[0] = some 45 := fun e => hc (Option.some.inj e)
      rw [if_neg hn, if_neg hn]
      refine core s false hs (.inr ⟨rfl, rfl, h0, ?_⟩) h0
      cases e : ((s[0].toNat : Int) == 45)
      · rfl
      · exact absurd (eq45.1 e) hc
  · rw [head_none s h0]
    rw [if_neg (by intro h; cases h), if_neg (by intro h; cases h)]
    exact rread_none_plus s w (by omega)

theorem conv_one (w : World) (m : Nat) :
    (convert 40 9 (.slice (some ⟨w.heap.size, 0, none⟩) 1 1)).run Try.prog (w.alloc (.cells #[.int .u8 (48 + (m : Int) % 10)] 5)) = .ok (.string ⟨#[dig m]⟩) (w.alloc (.cells #[.int .u8 (48 + (m : Int) % 10)] 5)) := by
  have := run_convert_bytes_back (P := Try.prog) (w.alloc (.cells #[.int .u8 (48 + (m : Int) % 10)] 5)) 40 9 5 ⟨w.heap.size, 0, none⟩ 1 [dig m] Try.underlying40 Try.underlying5 Try.underlying9 (fun i hi => by
    rw [addr_add]
    have : i = 0 := by simpa using hi
    subst this
    simp [dig_toNat])
  exact this

theorem conv_two (w : World) (m : Nat) :
    (convert 40 9 (.slice (some ⟨w.heap.size, 0, none⟩) 1 1)).run Try.prog (w.alloc (.cells #[.int .u8 (48 + (m : Int) / 10 % 10)] 5)) = .ok (.string ⟨#[dig (m / 10)]⟩) (w.alloc (.cells #[.int .u8 (48 + (m : Int) / 10 % 10)] 5)) := by
  have := conv_one w (m / 10)
  rw [Int.natCast_ediv] at this
  exact this

theorem cat_one (c : UInt8) (l : List UInt8) : (ByteArray.mk #[c] ++ ByteArray.mk l.toArray) = ByteArray.mk (c :: l).toArray := by
  apply ByteArray.ext
  apply Array.toList_inj.1
  rw [ByteArray.data_append]
  simp

set_option maxHeartbeats 1000000 in
theorem rtext_any (a : Int) (w : World) (ha : -9223372036854775808 ≤ a ∧ a ≤ 9223372036854775807) :
    Calls Try.prog 20 #[.int .i64 a] w fun e w' => e = .returned (.string ⟨(textL a).toArray⟩) ∧ Grown w w' := by
  have hn : (a.natAbs : Int) ≤ 9223372036854775808 := by omega
  have hcv := fun w m => conv_one w m
  have hct := fun c l => cat_one c l
  go_enter Try.func20, Try.ntmps20
  go_wp2_with fail
  refine (rsize_any a _ ha).mono ?_
  rintro e w' ⟨rfl, rfl⟩
  generalize hq : a.natAbs = q at *
  have hq' : Hid _ := hq
  clear hq
  go_wp2
  go_loopw [3, 4] (fun n u wx => ∃ k m : Nat, ∃ L : List UInt8, n = .int .u64 (m : Int) ∧ u = .string ⟨L.toArray⟩ ∧ m ≤ q ∧ k ≤ 18 ∧ Hid (m = q / 10 ^ k) ∧ Hid (L = low (k + 1) q) ∧ Hid (k = 0 ∨ q / 10 ^ k ≠ 0) ∧ Grown w' wx) (fun n _ _ => (intOf n).toNat)
  case atStart => exact ⟨0, q, [dig q], rfl, rfl, by omega, by omega, by show _ = _; simp, by show _ = _; simp [low], .inl rfl, (Grown.refl _).alloc _ _⟩
  case round =>
    obtain ⟨k, m, L, rfl, rfl, hmq, hk, hm, hL, h3, hg⟩ := hrel
    have hdm : Hid (m / 10 = q / 10 ^ (k + 1)) := by show _ = _; rw [hm.out, Nat.div_div_eq_div_mul, Nat.pow_succ]
    have hlen : L.length ≤ 20 := by rw [hL.out, low_length]; omega
    by_cases h9 : (9 : Int) < (m : Int)
    · have hcv2 := fun w => conv_two w m
      go_wp2
      go_roundw
      case rel => exact ⟨k + 1, m / 10, dig (m / 10) :: L, by go_num, rfl, by omega, by
          rcases Nat.lt_or_ge k 18 with h | h
          · omega
          · exfalso
            have : k = 18 := by omega
            subst this
            have := pow19 hn
            have h2 := hdm.out
            omega, hdm, by show _ = _; rw [hL.out, hdm.out]; rfl, .inr (by rw [← hdm.out]; omega), hg.alloc _ _⟩
      case measure => simp [intOf]; omega
    · have hend := text_end hq'.out (show q / 10 ^ (k + 1) = 0 by rw [← hdm.out]; omega) h3.out hk
      rw [← hL.out] at hend
      have HE : Hid _ := hend
      clear hend hcv
      by_cases hs : a < 0
      · go_wp2
        go_ret
        exact ⟨ret_s (HE.out.1 hs), hg⟩
      · have hs : 0 ≤ a := by omega
        go_wp2
        go_ret
        exact ⟨ret_s (HE.out.2 hs), hg⟩
end Go.Proofs.Ytaiiimmdhfcnmaa
