/-
  The document's own Read, whole: what it returns of any text. Condition: the text fits memory.
-/
import Derived.Test.YteemaofajcbniaaDoorRefReads
namespace Go.Proofs.YteemaofajcbniaaDoor
open Go.RowKit
set_option linter.unusedVariables false

set_option maxHeartbeats 1000000 in
theorem rread_none_minus (s t : ByteArray) (w : World) (hs : s.size ≤ maxLen) (hx : s.extract 1 s.size = t) (h0 : 0 < s.size) (hm : ((s[0].toNat : Int) == 45) = true) (hz0 : t.size = 0) :
    Calls Tryd.prog 22 #[.string s] w fun e w' => e = .returned (.tuple #[.int .i64 (coreV t.data.toList true), .int .i64 (coreE t.data.toList true)]) ∧ w' = w := by
  unfold maxLen at hs
  have hz : ((t.size : Int) == 0) = true := beq_iff_eq.2 (by omega)
  have hz2 : t = ByteArray.empty := ByteArray.ext (Array.eq_empty_of_size_eq_zero hz0)
  have H : Hid (coreV t.data.toList true = 0 ∧ coreE t.data.toList true = 6) := core_bad (bad_none hz0)
  clear hz0
  go_enter Tryd.func22, Tryd.ntmps22
  go_wp2
  go_ret2
  exact ⟨ret_nn H.out, rfl⟩
set_option maxHeartbeats 1000000 in
theorem rread_none_plus (t : ByteArray) (w : World) (hz0 : t.size = 0) :
    Calls Tryd.prog 22 #[.string t] w fun e w' => e = .returned (.tuple #[.int .i64 (coreV t.data.toList false), .int .i64 (coreE t.data.toList false)]) ∧ w' = w := by
  have H : Hid (coreV t.data.toList false = 0 ∧ coreE t.data.toList false = 6) := core_bad (bad_none hz0)
  have hz2 : t = ByteArray.empty := ByteArray.ext (Array.eq_empty_of_size_eq_zero hz0)
  subst hz2
  go_enter Tryd.func22, Tryd.ntmps22
  go_wp2
  go_ret2
  exact ⟨ret_nn H.out, rfl⟩

set_option maxHeartbeats 1000000 in
theorem rread_zero (s t : ByteArray) (m : Bool) (w : World) (hs : s.size ≤ maxLen) (ht : t.size ≤ maxLen)
    (hc : (m = true ∧ s.extract 1 s.size = t ∧ ∃ h0 : 0 < s.size, ((s[0].toNat : Int) == 45) = true) ∨ (m = false ∧ s = t ∧ ∃ h0 : 0 < s.size, ((s[0].toNat : Int) == 45) = false))
    (h0 : 0 < t.size) (hn2 : ((t[0].toNat : Int) == 48) = true) (hok : (1 : Int) < (t.size : Int) ∨ ((t.size : Int) ≤ 1 ∧ m = true)) :
    Calls Tryd.prog 22 #[.string s] w fun e w' => e = .returned (.tuple #[.int .i64 (coreV t.data.toList m), .int .i64 (coreE t.data.toList m)]) ∧ w' = w := by
  unfold maxLen at hs ht
  have hz : ((t.size : Int) == 0) = false := beq_eq_false_iff_ne.2 (by omega)
  have H : Hid (coreV t.data.toList m = 0 ∧ coreE t.data.toList m = 6) := core_bad (bad_zero h0 (by simpa using hn2) (by
    rcases hok with h | ⟨_, h⟩
    · exact .inl (by omega)
    · exact .inr h))
  rcases hc with ⟨rfl, hx, hs0, hm⟩ | ⟨rfl, rfl, hs0, hm⟩
  case' inr => generalize s = t at *
  all_goals
    rcases hok with hk | ⟨hk, hk2⟩
    all_goals try (exfalso; cases hk2; done)
    all_goals
      go_enter Tryd.func22, Tryd.ntmps22
      go_wp2
      go_ret2
      exact ⟨ret_nn H.out, rfl⟩

theorem rread_any (s : ByteArray) (w : World) (hs : s.size ≤ maxLen) :
    Calls Tryd.prog 22 #[.string s] w fun e w' => e = .returned (.tuple #[.int .i64 (readV s.data.toList), .int .i64 (readE s.data.toList)]) ∧ w' = w := by
  have core : ∀ (t : ByteArray) (m : Bool), t.size ≤ maxLen → ((m = true ∧ s.extract 1 s.size = t ∧ ∃ h0 : 0 < s.size, ((s[0].toNat : Int) == 45) = true) ∨ (m = false ∧ s = t ∧ ∃ h0 : 0 < s.size, ((s[0].toNat : Int) == 45) = false)) → 0 < t.size →
      Calls Tryd.prog 22 #[.string s] w fun e w' => e = .returned (.tuple #[.int .i64 (coreV t.data.toList m), .int .i64 (coreE t.data.toList m)]) ∧ w' = w := by
    intro t m ht hc h0
    by_cases h48 : (t[0].toNat : Int) = 48
    · by_cases h1 : 1 < t.size
      · exact rread_zero s t m w hs ht hc h0 (beq_iff_eq.2 h48) (.inl (by omega))
      · cases m
        · exact rread_short s t false w hs ht hc h0 (.inr ⟨beq_iff_eq.2 h48, by omega, rfl⟩) (by omega)
        · exact rread_zero s t true w hs ht hc h0 (beq_iff_eq.2 h48) (.inr ⟨by omega, rfl⟩)
    · by_cases h19 : 19 < t.size
      · exact rread_over s t m w hs ht hc h0 h48 (by omega)
      · exact rread_short s t m w hs ht hc h0 (.inl (beq_eq_false_iff_ne.2 h48)) (by omega)
  unfold readV readE
  by_cases h0 : 0 < s.size
  · rw [head_is s h0]
    by_cases hc : s[0] = 45
    · rw [if_pos (by rw [hc]), if_pos (by rw [hc])]
      have ht : (s.extract 1 s.size).data.toList = s.data.toList.drop 1 := Lib.extract_to_end s 1
      have hts : (s.extract 1 s.size).size ≤ maxLen := by simp [maxLen] at hs ⊢; omega
      rw [← ht]
      by_cases hz : (s.extract 1 s.size).size = 0
      · exact rread_none_minus s _ w hs rfl h0 (eq45.2 hc) hz
      · exact core _ true hts (.inl ⟨rfl, rfl, h0, eq45.2 hc⟩) (by omega)
    · have hn : ¬ some s[0] = some 45 := fun e => hc (Option.some.inj e)
      rw [if_neg hn, if_neg hn]
      refine core s false hs (.inr ⟨rfl, rfl, h0, ?_⟩) h0
      cases e : ((s[0].toNat : Int) == 45)
      · rfl
      · exact absurd (eq45.1 e) hc
  · rw [head_none s h0]
    rw [if_neg (by intro h; cases h), if_neg (by intro h; cases h)]
    exact rread_none_plus s w (by omega)

end Go.Proofs.YteemaofajcbniaaDoor
