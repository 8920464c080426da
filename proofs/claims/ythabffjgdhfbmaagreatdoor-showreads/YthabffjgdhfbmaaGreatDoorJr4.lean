/-
  Texts that belong together, one behind the other: RefReads, RefReads2, LexWord, LexWord2, LexNmP, LexWordP, LexPN, LexPM, LexPD, LexPH. Conditions: as each says.
-/
import Derived.BigQuiet
import Derived.Deep.CutRange
import Derived.Deep.OwnRows
import Derived.Deep.QuietTactic
import Derived.Laws.BytesArg
import Derived.Laws.RangeAny
import Derived.Laws.ShiftsVar
import Derived.Maps.AppendAt
import Derived.Test.YthabffjgdhfbmaaGreatDoorJr1
import Derived.Test.YthabffjgdhfbmaaGreatDoorJr2
import Derived.Test.YthabffjgdhfbmaaGreatDoorJr3
set_option maxRecDepth 100000
set_option maxHeartbeats 32000000
set_option linter.unusedVariables false
namespace Go.Proofs.YthabffjgdhfbmaaGreatDoor
open Go.RowKit
theorem size_len (t : ByteArray) : t.data.toList.length = t.size := by simp
theorem eq48 {c : UInt8} : (c.toNat : Int) = 48 ↔ c = 48 := by
 constructor
 · intro h; exact UInt8.toNat_inj.1 (by show c.toNat = 48; omega)
 · intro h; subst h; rfl
theorem bad_none {t : ByteArray} {m : Bool} (h : t.size = 0) : badB t.data.toList m = true := by
 unfold badB; rw [plainB_none h]; rfl
theorem bad_zero {t : ByteArray} {m : Bool} (h0 : 0 < t.size) (hc : (t[0].toNat : Int) = 48) (h : 1 < t.size ∨ m = true) : badB t.data.toList m = true := by
 unfold badB
 by_cases h1 : 1 < t.size
 · rw [plainB_zero h0 hc (by omega)]; rfl
 · have hm : m = true := by
    cases h with
    | inl h => exact absurd h h1
    | inr h => exact h
   have e := bytes_cons t h0
   have hd : t.data.toList.drop 1 = [] := List.drop_eq_nil_iff.2 (by rw [size_len]; omega)
   rw [hd, eq48.1 hc] at e
   rw [hm, e]; rfl
theorem bad_not_all {t : ByteArray} {m : Bool} (h : allB t.data.toList = false) : badB t.data.toList m = true := by
 unfold badB plainB; unfold allB at h; rw [h]; simp
theorem fine_all {t : ByteArray} {m : Bool} (h0 : 0 < t.size) (hok : ¬ ((t[0].toNat : Int) = 48) ∨ ((t[0].toNat : Int) = 48 ∧ (t.size : Int) ≤ 1 ∧ m = false)) (h : allB t.data.toList = true) : badB t.data.toList m = false := by
 unfold badB
 rw [plainB_loop h0 (by omega), h]
 cases hok with
 | inl hn =>
  have e := bytes_cons t h0
  have : ¬ t.data.toList = [48] := by
   intro x; rw [x] at e
   have h2 := (List.cons.inj e).1
   exact hn (by rw [← h2]; rfl)
  simp [this]
 | inr hh => rw [hh.2.2]; rfl
theorem big_over {t : ByteArray} {m : Bool} (h0 : 0 < t.size) (hn : ¬ ((t[0].toNat : Int) = 48)) (h19 : 19 < t.size) (h : allB t.data.toList = true) : fitB (sgn m (val t.data.toList)) = false := by
 have hd := all_get t h 0 h0
 have hv := val_ge t[0] (t.data.toList.drop 1) ((isd_iff _).2 hd) (fun e => hn (eq48.2 e))
 rw [← bytes_cons t h0] at hv
 have hl : (t.data.toList.drop 1).length = t.size - 1 := by simp
 have hp : 10 ^ 19 ≤ 10 ^ (t.data.toList.drop 1).length := Nat.pow_le_pow_right (by omega) (by omega)
 have h10 : (10 : Nat) ^ 19 = 10000000000000000000 := by decide
 rw [h10] at hp
 unfold sgn
 cases m
 · exact (fit_no (by simp; omega)).1
 · exact (fit_no (by simp; omega)).1
theorem small_val {t : ByteArray} {k v : Nat} (h : allB (t.data.toList.take k) = true) (hv : v = val (t.data.toList.take k)) (hk : k ≤ 18) : (v : Int) ≤ 1000000000000000000 := by
 unfold allB at h
 have h1 := val_lt _ h
 have h2 : 10 ^ (t.data.toList.take k).length ≤ 10 ^ 18 := Nat.pow_le_pow_right (by omega) (by have := List.length_take_le k t.data.toList; omega)
 have h10 : (10 : Nat) ^ 18 = 1000000000000000000 := by decide
 rw [h10] at h2
 omega
theorem small_val' {t : ByteArray} {v : Nat} (h : allB t.data.toList = true) (hv : v = val t.data.toList) (hk : t.size ≤ 19) : (v : Int) ≤ 10000000000000000000 := by
 unfold allB at h
 have h1 := val_lt _ h
 have h2 : 10 ^ t.data.toList.length ≤ 10 ^ 19 := Nat.pow_le_pow_right (by omega) (by rw [size_len]; omega)
 have h10 : (10 : Nat) ^ 19 = 10000000000000000000 := by decide
 rw [h10] at h2
 omega
theorem end_minus_no {l : List UInt8} {v : Int} (hb : badB l true = false) (hv : v = (val l : Int)) (h : 9223372036854775808 < v) : coreV l true = 0 ∧ coreE l true = 2 :=
 core_over hb (by unfold sgn; exact (fit_no (by simp; omega)).1)
theorem end_minus_yes {l : List UInt8} {v : Int} (hb : badB l true = false) (hv : v = (val l : Int)) (h : v ≤ 9223372036854775808) : coreV l true = wrap64 (IntKind.u64.wrap (-v)) ∧ coreE l true = 0 := by
 rw [neg_u64 (by omega)]
 have := core_fine hb (by unfold sgn; exact (fit_yes (by simp; omega)).1)
 rw [hv]
 simpa [sgn] using this
theorem end_plus_no {l : List UInt8} {v : Int} (hb : badB l false = false) (hv : v = (val l : Int)) (h : 9223372036854775808 ≤ v) : coreV l false = 0 ∧ coreE l false = 2 :=
 core_over hb (by unfold sgn; exact (fit_no (by simp; omega)).1)
theorem end_plus_yes {l : List UInt8} {v : Int} (hb : badB l false = false) (hv : v = (val l : Int)) (h : v < 9223372036854775808) : coreV l false = v ∧ coreE l false = 0 := by
 have := core_fine hb (by unfold sgn; exact (fit_yes (by simp; omega)).1)
 rw [hv]
 simpa [sgn] using this
theorem rread_over (s t : ByteArray) (m : Bool) (w : World) (hs : s.size ≤ maxLen) (ht : t.size ≤ maxLen)
 (hc : (m = true ∧ s.extract 1 s.size = t ∧ ∃ h0 : 0 < s.size, ((s[0].toNat : Int) == 45) = true) ∨ (m = false ∧ s = t ∧ ∃ h0 : 0 < s.size, ((s[0].toNat : Int) == 45) = false))
 (h0 : 0 < t.size) (hn : ¬ ((t[0].toNat : Int) = 48)) (h19 : (19 : Int) < (t.size : Int)) :
 Calls Tryz.prog 94 #[.string s] w fun e w' => e = .returned (.tuple #[.int .i64 (coreV t.data.toList m), .int .i64 (coreE t.data.toList m)]) ∧ w' = w := by
 unfold maxLen at hs ht
 have hz : ((t.size : Int) == 0) = false := beq_eq_false_iff_ne.2 (by omega)
 have hn2 : ((t[0].toNat : Int) == 48) = false := by simp [hn]
 rcases hc with ⟨rfl, hx, hs0, hm⟩ | ⟨rfl, rfl, hs0, hm⟩
 case' inr => generalize s = t at *
 all_goals
  go_enter Tryz.func94, Tryz.ntmps94
  go_wp2
  go_loop [6, 8] (fun n i => ∃ k : Nat, k ≤ t.size ∧ i = .int .i64 (k : Int) ∧ n = .int .u64 0 ∧ Hid (allB (t.data.toList.take k) = true)) (fun _ i => t.size - (intOf i).toNat)
  case atStart => exact ⟨0, Nat.zero_le _, rfl, rfl, rfl⟩
  case round =>
   obtain ⟨k, hk, rfl, rfl, hall⟩ := hrel
   by_cases hlt : k < t.size
   · have hno : ∀ m, Hid (isd t[k] = false → coreV t.data.toList m = 0 ∧ coreE t.data.toList m = 6) := fun m h => core_bad (bad_not_all (all_not t k hlt h))
     have hyes : Hid (isd t[k] = true → allB (t.data.toList.take (k + 1)) = true) := fun h => by
      have h2 := hall.out
      unfold allB at h2 ⊢
      rw [all_take t k hlt, h2, h]; rfl
     go_wp2
     all_goals
      first
       | (go_ret2; first | exact ⟨ret_nn ((hno _).out (isd_low (by omega))), rfl⟩ | exact ⟨ret_nn ((hno _).out (isd_high (by omega))), rfl⟩)
       | (go_round
          case rel => exact ⟨k + 1, by omega, by go_num, rfl, hyes.out (isd_mid (by omega) (by omega))⟩
          case measure => simp [intOf]; omega)
   · have hf : ∀ m, (m = true → (t[0].toNat : Int) ≠ 48) → Hid (coreV t.data.toList m = 0 ∧ coreE t.data.toList m = 2) := fun m _ => by
      have hal := hall.out
      rw [List.take_of_length_le (by rw [size_len]; omega)] at hal
      exact core_over (fine_all h0 (.inl hn) hal) (big_over h0 hn (by omega) hal)
     have H1 := hf true (fun _ => hn)
     have H2 := hf false (fun _ => hn)
     clear hf
     go_wp2
     go_ret2
     first | exact ⟨ret_nn H1.out, rfl⟩ | exact ⟨ret_nn H2.out, rfl⟩
theorem rread_short (s t : ByteArray) (m : Bool) (w : World) (hs : s.size ≤ maxLen) (ht : t.size ≤ maxLen)
 (hc : (m = true ∧ s.extract 1 s.size = t ∧ ∃ h0 : 0 < s.size, ((s[0].toNat : Int) == 45) = true) ∨ (m = false ∧ s = t ∧ ∃ h0 : 0 < s.size, ((s[0].toNat : Int) == 45) = false))
 (h0 : 0 < t.size) (hok : (((t[0].toNat : Int) == 48) = false) ∨ ((((t[0].toNat : Int) == 48) = true) ∧ (t.size : Int) ≤ 1 ∧ m = false)) (h19 : (t.size : Int) ≤ 19) :
 Calls Tryz.prog 94 #[.string s] w fun e w' => e = .returned (.tuple #[.int .i64 (coreV t.data.toList m), .int .i64 (coreE t.data.toList m)]) ∧ w' = w := by
 unfold maxLen at hs ht
 have hz : ((t.size : Int) == 0) = false := beq_eq_false_iff_ne.2 (by omega)
 have hdec : decide ((19 : Int) < (t.size : Int)) = false := decide_eq_false (by omega)
 have hbad : Hid (allB t.data.toList = true → badB t.data.toList m = false) := fun h => fine_all h0 (by simpa using hok) h
 rcases hc with ⟨rfl, hx, hs0, hm⟩ | ⟨rfl, rfl, hs0, hm⟩
 case' inr => generalize s = t at *
 all_goals
  rcases hok with hn2 | ⟨hn2, hn3, hn4⟩
  all_goals try (exfalso; cases hn4; done)
  all_goals
   go_enter Tryz.func94, Tryz.ntmps94
   go_wp2
   go_loop [6, 8] (fun n i => ∃ k v : Nat, k ≤ t.size ∧ i = .int .i64 (k : Int) ∧ n = .int .u64 (v : Int) ∧ Hid (v = val (t.data.toList.take k)) ∧ Hid (allB (t.data.toList.take k) = true)) (fun _ i => t.size - (intOf i).toNat)
   case atStart => exact ⟨0, 0, Nat.zero_le _, rfl, rfl, rfl, rfl⟩
   case round =>
    obtain ⟨k, v, hk, rfl, rfl, hve, hall⟩ := hrel
    by_cases hlt : k < t.size
    · have hno : ∀ m, Hid (isd t[k] = false → coreV t.data.toList m = 0 ∧ coreE t.data.toList m = 6) := fun m h => core_bad (bad_not_all (all_not t k hlt h))
      have hyes : Hid (isd t[k] = true → allB (t.data.toList.take (k + 1)) = true) := fun h => by
       have h2 := hall.out
       unfold allB at h2 ⊢
       rw [all_take t k hlt, h2, h]; rfl
      have hnx : Hid (val (t.data.toList.take (k + 1)) = 10 * v + (t[k].toNat - 48)) := by
       show _ = _
       rw [val_next t k hlt, ← hve.out]
      have hv := small_val hall.out hve.out (by omega)
      go_wp2
      all_goals
       first
        | (go_ret2; first | exact ⟨ret_nn ((hno _).out (isd_low (by omega))), rfl⟩ | exact ⟨ret_nn ((hno _).out (isd_high (by omega))), rfl⟩)
        | (go_round
           case rel => exact ⟨k + 1, val (t.data.toList.take (k + 1)), by omega, by go_num, by rw [hnx.out]; congr 1; omega, rfl, hyes.out (isd_mid (by omega) (by omega))⟩
           case measure => simp [intOf]; omega)
    · have hal : Hid (allB t.data.toList = true) := by
       have hal := hall.out
       rw [List.take_of_length_le (by rw [size_len]; omega)] at hal
       exact hal
      have hvl : Hid (v = val t.data.toList) := by
       have := hve.out
       rw [List.take_of_length_le (by rw [size_len]; omega)] at this
       exact this
      have hv := small_val' hal.out hvl.out (by omega)
      have HB : Hid _ := hbad.out hal.out
      have hvi : Hid ((v : Int) = (val t.data.toList : Int)) := by show _ = _; rw [← hvl.out]
      have hv0 : 0 ≤ (v : Int) := by omega
      clear hbad hve hall hvl
      generalize (v : Int) = V at *
      have hq : (V = 9223372036854775808 ∧ (V == 9223372036854775808) = true) ∨ (V < 9223372036854775808 ∧ (V == 9223372036854775808) = false) ∨ (9223372036854775808 < V ∧ (V == 9223372036854775808) = false) := by
       by_cases h : V = 9223372036854775808
       · exact .inl ⟨h, beq_iff_eq.2 h⟩
       · by_cases h2 : V < 9223372036854775808
         · exact .inr (.inl ⟨h2, beq_eq_false_iff_ne.2 h⟩)
         · exact .inr (.inr ⟨by omega, beq_eq_false_iff_ne.2 h⟩)
      rcases hq with ⟨q1, q2⟩ | ⟨q1, q2⟩ | ⟨q1, q2⟩
      all_goals
       have Q1 : Hid _ := q1
       clear q1
       go_wp2
       all_goals
        go_ret2
        have q1 := Q1.out
        refine ⟨ret_nn ?_, rfl⟩
        first
         | exact end_minus_no HB.out hvi.out (by omega)
         | exact end_minus_yes HB.out hvi.out (by omega)
         | exact end_plus_no HB.out hvi.out (by omega)
         | exact end_plus_yes HB.out hvi.out (by omega)
         | (rw [Go.IntWalk.wrap64_in _ (by omega)]; exact end_plus_yes HB.out hvi.out (by omega))
theorem rread_none_minus (s t : ByteArray) (w : World) (hs : s.size ≤ maxLen) (hx : s.extract 1 s.size = t) (h0 : 0 < s.size) (hm : ((s[0].toNat : Int) == 45) = true) (hz0 : t.size = 0) :
 Calls Tryz.prog 94 #[.string s] w fun e w' => e = .returned (.tuple #[.int .i64 (coreV t.data.toList true), .int .i64 (coreE t.data.toList true)]) ∧ w' = w := by
 unfold maxLen at hs
 have hz : ((t.size : Int) == 0) = true := beq_iff_eq.2 (by omega)
 have hz2 : t = ByteArray.empty := ByteArray.ext (Array.eq_empty_of_size_eq_zero hz0)
 have H : Hid (coreV t.data.toList true = 0 ∧ coreE t.data.toList true = 6) := core_bad (bad_none hz0)
 clear hz0
 go_enter Tryz.func94, Tryz.ntmps94
 go_wp2
 go_ret2
 exact ⟨ret_nn H.out, rfl⟩
theorem rread_none_plus (t : ByteArray) (w : World) (hz0 : t.size = 0) :
 Calls Tryz.prog 94 #[.string t] w fun e w' => e = .returned (.tuple #[.int .i64 (coreV t.data.toList false), .int .i64 (coreE t.data.toList false)]) ∧ w' = w := by
 have H : Hid (coreV t.data.toList false = 0 ∧ coreE t.data.toList false = 6) := core_bad (bad_none hz0)
 have hz2 : t = ByteArray.empty := ByteArray.ext (Array.eq_empty_of_size_eq_zero hz0)
 subst hz2
 go_enter Tryz.func94, Tryz.ntmps94
 go_wp2
 go_ret2
 exact ⟨ret_nn H.out, rfl⟩
theorem rread_zero (s t : ByteArray) (m : Bool) (w : World) (hs : s.size ≤ maxLen) (ht : t.size ≤ maxLen)
 (hc : (m = true ∧ s.extract 1 s.size = t ∧ ∃ h0 : 0 < s.size, ((s[0].toNat : Int) == 45) = true) ∨ (m = false ∧ s = t ∧ ∃ h0 : 0 < s.size, ((s[0].toNat : Int) == 45) = false))
 (h0 : 0 < t.size) (hn2 : ((t[0].toNat : Int) == 48) = true) (hok : (1 : Int) < (t.size : Int) ∨ ((t.size : Int) ≤ 1 ∧ m = true)) :
 Calls Tryz.prog 94 #[.string s] w fun e w' => e = .returned (.tuple #[.int .i64 (coreV t.data.toList m), .int .i64 (coreE t.data.toList m)]) ∧ w' = w := by
 unfold maxLen at hs ht
 have hz : ((t.size : Int) == 0) = false := beq_eq_false_iff_ne.2 (by omega)
 have H : Hid (coreV t.data.toList m = 0 ∧ coreE t.data.toList m = 6) := core_bad (bad_zero h0 (by simpa using hn2) (by
  rcases hok with h | ⟨_, h⟩
  · exact .inl (by omega)
  · exact .inr h))
 rcases hc with ⟨rfl, hx, hs0, hm⟩ | ⟨rfl, rfl, hs0, hm⟩
 case' inr => generalize s = t at *
 all_goals
  rcases hok with hk | ⟨hk, hk2⟩
  all_goals try (exfalso; cases hk2; done)
  all_goals
   go_enter Tryz.func94, Tryz.ntmps94
   go_wp2
   go_ret2
   exact ⟨ret_nn H.out, rfl⟩
theorem rread_any (s : ByteArray) (w : World) (hs : s.size ≤ maxLen) :
 Calls Tryz.prog 94 #[.string s] w fun e w' => e = .returned (.tuple #[.int .i64 (readV s.data.toList), .int .i64 (readE s.data.toList)]) ∧ w' = w := by
 have core : ∀ (t : ByteArray) (m : Bool), t.size ≤ maxLen → ((m = true ∧ s.extract 1 s.size = t ∧ ∃ h0 : 0 < s.size, ((s[0].toNat : Int) == 45) = true) ∨ (m = false ∧ s = t ∧ ∃ h0 : 0 < s.size, ((s[0].toNat : Int) == 45) = false)) → 0 < t.size →
  Calls Tryz.prog 94 #[.string s] w fun e w' => e = .returned (.tuple #[.int .i64 (coreV t.data.toList m), .int .i64 (coreE t.data.toList m)]) ∧ w' = w := by
  intro t m ht hc h0
  by_cases h48 : (t[0].toNat : Int) = 48
  · by_cases h1 : 1 < t.size
    · exact rread_zero s t m w hs ht hc h0 (beq_iff_eq.2 h48) (.inl (by omega))
    · cases m
      · exact rread_short s t false w hs ht hc h0 (.inr ⟨beq_iff_eq.2 h48, by omega, rfl⟩) (by omega)
      · exact rread_zero s t true w hs ht hc h0 (beq_iff_eq.2 h48) (.inr ⟨by omega, rfl⟩)
  · by_cases h19 : 19 < t.size
    · exact rread_over s t m w hs ht hc h0 h48 (by omega)
    · exact rread_short s t m w hs ht hc h0 (.inl (beq_eq_false_iff_ne.2 h48)) (by omega)
 unfold readV readE
 by_cases h0 : 0 < s.size
 · rw [head_is s h0]
   by_cases hc : s[0] = 45
   · rw [if_pos (by rw [hc]), if_pos (by rw [hc])]
     have ht : (s.extract 1 s.size).data.toList = s.data.toList.drop 1 := Lib.extract_to_end s 1
     have hts : (s.extract 1 s.size).size ≤ maxLen := by simp [maxLen] at hs ⊢; omega
     rw [← ht]
     by_cases hz : (s.extract 1 s.size).size = 0
     · exact rread_none_minus s _ w hs rfl h0 (eq45.2 hc) hz
     · exact core _ true hts (.inl ⟨rfl, rfl, h0, eq45.2 hc⟩) (by omega)
   · have hn : ¬ some s[0] = some 45 := fun e => hc (Option.some.inj e)
     rw [if_neg hn, if_neg hn]
     refine core s false hs (.inr ⟨rfl, rfl, h0, ?_⟩) h0
     cases e : ((s[0].toNat : Int) == 45)
     · rfl
     · exact absurd (eq45.1 e) hc
 · rw [head_none s h0]
   rw [if_neg (by intro h; cases h), if_neg (by intro h; cases h)]
   exact rread_none_plus s w (by omega)
theorem rhalf_any (c : Nat) (hc : c < 256) (w : World) : Calls Tryz.prog 95 #[.int .u8 (c : Int)] w fun e w' => e = .returned (.int .i64 (halfC c)) ∧ w' = w := by
 have hci : (0 : Int) ≤ (c : Int) ∧ (c : Int) < 256 := ⟨by omega, by omega⟩
 obtain ⟨V, hV⟩ : ∃ V, halfC c = V := ⟨_, rfl⟩
 rw [hV]
 replace hV : Hid (halfC c = V) := hV
 by_cases h1 : (48 : Int) ≤ (c : Int)
 · by_cases h2 : (c : Int) ≤ 57
   · have fin : Hid ((c : Int) - 48 = V) := by have := hV.out; unfold halfC at this; rwa [if_pos ⟨by omega, by omega⟩] at this
     clear hV
     go_enter Tryz.func95, Tryz.ntmps95
     go_wp2
     go_ret
     exact ⟨by rw [← fin.out]; rfl, rfl⟩
   · by_cases h3 : (97 : Int) ≤ (c : Int)
     · by_cases h4 : (c : Int) ≤ 102
       · have fin : Hid ((c : Int) - 87 = V) := by have := hV.out; unfold halfC at this; rwa [if_neg (by omega), if_pos ⟨by omega, by omega⟩] at this
         clear hV
         go_enter Tryz.func95, Tryz.ntmps95
         go_wp2
         go_ret
         exact ⟨by rw [← fin.out]; rfl, rfl⟩
       · have fin : Hid (-1 = V) := by have := hV.out; unfold halfC at this; rwa [if_neg (by omega), if_neg (by omega)] at this
         clear hV
         go_enter Tryz.func95, Tryz.ntmps95
         go_wp2
         go_ret
         exact ⟨by rw [← fin.out]; rfl, rfl⟩
     · have fin : Hid (-1 = V) := by have := hV.out; unfold halfC at this; rwa [if_neg (by omega), if_neg (by omega)] at this
       clear hV
       go_enter Tryz.func95, Tryz.ntmps95
       go_wp2
       go_ret
       exact ⟨by rw [← fin.out]; rfl, rfl⟩
 · have fin : Hid (-1 = V) := by have := hV.out; unfold halfC at this; rwa [if_neg (by omega), if_neg (by omega)] at this
   have h3 : ¬ (97 : Int) ≤ (c : Int) := by omega
   clear hV
   go_enter Tryz.func95, Tryz.ntmps95
   go_wp2
   go_ret
   exact ⟨by rw [← fin.out]; rfl, rfl⟩
structure HxSt (w x : World) (o : Value) (l : List Nat) : Prop where
 r : RowB x w.heap.size o l
 b : Below w.heap.size w x
theorem HxSt.drewN {w x : World} {o : Value} {l : List Nat} (h : HxSt w x o l) (n : Nat) : HxSt w (x.drewN n) o l := ⟨h.r, ⟨h.b.os, h.b.tape, h.b.output, h.b.size, h.b.block⟩⟩
theorem cell_oneH (w : World) (b : Int) : ∀ (j : Nat) (u : Value), ([.int .u8 b] : List Value)[j]? = some u → (w.alloc (.cells #[.int .u8 b] 5)).cell? ((⟨w.heap.size, 0, none⟩ : Addr).add j) = some u := cell_one_new w _ _
theorem rhex_main (s : ByteArray) (w : World) (hs : (s.size : Int) ≤ 5000) (h0 : 0 < (s.size : Int)) (hev : (s.size : Int) % 2 = 0) (T : Option (List Nat)) (hT : hexO s.data.toList = T) :
 Calls Tryz.prog 68 #[.string s] w fun e w' => ∃ v, e = .returned (.tuple #[v, .bool T.isSome]) ∧ BytesAt w' v (T.getD []) ∧ Below w.heap.size w w' := by
 obtain ⟨i0, hi, hz0, hz1, hz2⟩ := info_parts info_u8
 have L0 : Hid (LeftH [] s.data.toList T) := by unfold Hid; rw [← hT]; exact LeftH.first _
 have hz : ((s.size : Int) == 0) = false := beq_eq_false_iff_ne.2 (by omega)
 have hq1 : ((s.size : Int) % 2 == 1) = false := beq_eq_false_iff_ne.2 (by omega)
 replace hev : Hid ((s.size : Int) % 2 = 0) := hev
 clear hT
 go_enter Tryz.func68, Tryz.ntmps68
 go_wp2
 go_loopw [4, 5] (fun vo vi wr => ∃ (k : Nat) (out : List Nat), (k : Int) ≤ (s.size : Int) ∧ vi = .int .i64 (k : Int) ∧ ((k : Int) % 2 = 0 ∧ (out.length : Int) ≤ (k : Int)) ∧ Hid (HxSt w wr vo out) ∧ Hid (LeftH out (s.data.toList.drop k) T)) (fun _ vi _ => s.size - (intOf vi).toNat)
 case atStart => exact ⟨0, [], by omega, rfl, ⟨by omega, by simp⟩, ⟨World.ownsRow_nil _ _ _ _, Below.refl _ _⟩, L0⟩
 case round =>
  obtain ⟨k, out, hk, rfl, ⟨hk2, hol⟩, st, left⟩ := hrel
  clear L0
  by_cases hlt : k < s.size
  · have hki : (k : Int) < (s.size : Int) := by omega
    have hk1 : k + 1 < s.size := by have := hev.out; omega
    have hk1i : (k : Int) + 1 < (s.size : Int) := by omega
    have lf := left.out
    rw [sdrop_at hlt, sdrop_at hk1] at lf
    have x1 : s[k].toNat < 256 := s[k].toNat_lt
    have x2 : s[k + 1].toNat < 256 := s[k + 1].toNat_lt
    have b1 := half_bd s[k].toNat
    have b2 := half_bd s[k + 1].toNat
    have f1 : Hid (∀ w, Calls Tryz.prog 95 #[.int .u8 (s[k].toNat : Int)] w fun e w' => e = .returned (.int .i64 (halfC s[k].toNat)) ∧ w' = w) := fun w => rhalf_any _ x1 w
    have f2 : Hid (∀ w, Calls Tryz.prog 95 #[.int .u8 (s[k + 1].toNat : Int)] w fun e w' => e = .returned (.int .i64 (halfC s[k + 1].toNat)) ∧ w' = w) := fun w => rhalf_any _ x2 w
    have nx : Hid ((0 ≤ halfC s[k].toNat ∧ 0 ≤ halfC s[k + 1].toNat) → LeftH (out ++ [(16 * halfC s[k].toNat + halfC s[k + 1].toNat).toNat]) (s.data.toList.drop (k + 2)) T) := fun h => lf.two h.1 h.2
    have bd : Hid (¬ (0 ≤ halfC s[k].toNat ∧ 0 ≤ halfC s[k + 1].toNat) → T = none) := fun h => lf.bad h
    clear lf left x1 x2
    generalize halfC s[k].toNat = p at *
    generalize halfC s[k + 1].toNat = q at *
    have wk : IntKind.i64.wrap ((k : Int) + 1) = (k : Int) + 1 := by simp only [IntKind.wrap_i64]; omega
    have ix : ∀ x : World, (Instr.index 9 (.string s) (.int .i64 ((k : Int) + 1))).run Tryz.prog x = .ok (.int .u8 (s[k + 1].toNat : Int)) x := fun x => by
     rw [run_index_string x 9 s .i64 _ Tryz.underlying9, dif_pos ⟨by omega, hk1i⟩]
     rfl
    go_wp2_with fail
    go_quiet (first
     | (go_at_call 95; with_reducible refine Calls.quiet_of_same (f1.out _))
     | (go_at_call 95; with_reducible refine Calls.quiet_of_same (f2.out _)))
    clear f1 f2 ix wk
    replace st : Hid (HxSt w (wr.drewN nq) u4 out) := st.out.drewN nq
    generalize wr.drewN nq = wd at *
    by_cases h1 : 0 ≤ p
    · by_cases h2 : 0 ≤ q
      · obtain ⟨c, hc⟩ : ∃ c : Nat, (16 * p + q).toNat = c := ⟨_, rfl⟩
        have nl := nx.out ⟨h1, h2⟩
        rw [hc] at nl
        replace nl : Hid (LeftH (out ++ [c]) (s.data.toList.drop (k + 2)) T) := nl
        have wc : IntKind.u8.wrap (16 * p + q) = (c : Int) := by simp only [IntKind.wrap_u8']; omega
        have h63 : out.length + 1 ≤ maxLen := by unfold maxLen; omega
        have hby : (out.length + 1) * 1 ≤ 140737488355328 := by omega
        have hsz := st.out.b.size
        clear nx bd hc
        go_wp2_with (at_builtin; refine wpList_append_own _ rfl _ _ 23 rfl w.heap.size 5 i0 (.int .u8 0) 1 1 Tryz.underlying23 hi hz0 hz1 hz2 rfl (by decide) _ _ _ rfl (World.ownsRow.alloc st.out.r _) ⟨wd.heap.size, 0, none⟩ 1 1 [.int .u8 (c : Int)] rfl rfl (cell_oneH _ _) (by simp [Value.oneCell']) h63 hby (by simp; omega) ?_; intro v' y hown' hgrow _; have st2 : Hid (HxSt w y v' (out ++ [c])) := ⟨by unfold RowB; rw [List.length_append]; unfold u8v; rw [List.map_append]; exact hown', (st.out.b.alloc hsz _).grown hgrow (by simp; omega) (fun q eq => (World.ownsRow.lt st.out.r q eq).1)⟩; clear hown' hgrow)
        exact ⟨⟨k + 2, out ++ [c], by omega, by simp, ⟨by omega, by simp; omega⟩, st2, nl⟩, by simp [intOf]; omega⟩
      · have h2' : q < 0 := by omega
        have fin : Hid (T = none) := bd.out (fun h => h2 h.2)
        have B : Hid (Below w.heap.size w wd) := st.out.b
        clear nx bd st
        go_wp2
        go_ret2
        exact ⟨_, by rw [fin.out]; rfl, by rw [fin.out]; exact .inl ⟨rfl, rfl⟩, B.out⟩
    · have h1' : p < 0 := by omega
      have fin : Hid (T = none) := bd.out (fun h => h1 h.1)
      have B : Hid (Below w.heap.size w wd) := st.out.b
      clear nx bd st
      go_wp2
      go_ret2
      exact ⟨_, by rw [fin.out]; rfl, by rw [fin.out]; exact .inl ⟨rfl, rfl⟩, B.out⟩
  · obtain rfl : k = s.size := by omega
    have fin : Hid (T = some out) := by
     have h := left.out
     rw [List.drop_eq_nil_of_le (by simp)] at h
     exact h.fin
    have X : Hid (BytesAt wr u4 out) := st.out.r.at
    have B : Hid (Below w.heap.size w wr) := st.out.b
    clear left st hlt
    go_wp2
    go_ret2
    exact ⟨_, by rw [fin.out]; rfl, by rw [fin.out]; exact X.out, B.out⟩
theorem rhex_none (s : ByteArray) (w : World) (h0 : (s.size : Int) = 0) :
 Calls Tryz.prog 68 #[.string s] w fun e w' => e = .returned (.tuple #[.slice none 0 0, .bool false]) ∧ w' = w := by
 go_enter Tryz.func68, Tryz.ntmps68
 go_wp2
 go_ret2
 exact ⟨rfl, rfl⟩
theorem rhex_odd (s : ByteArray) (w : World) (hs : (s.size : Int) ≤ 5000) (h0 : 0 < (s.size : Int)) (hev : (s.size : Int) % 2 = 1) :
 Calls Tryz.prog 68 #[.string s] w fun e w' => e = .returned (.tuple #[.slice none 0 0, .bool false]) ∧ w' = w := by
 have hz : ((s.size : Int) == 0) = false := beq_eq_false_iff_ne.2 (by omega)
 go_enter Tryz.func68, Tryz.ntmps68
 go_wp2
 go_ret2
 exact ⟨rfl, rfl⟩
theorem rhex_any (s : ByteArray) (w : World) (hs : (s.size : Int) ≤ 5000) :
 Calls Tryz.prog 68 #[.string s] w fun e w' => ∃ v, e = .returned (.tuple #[v, .bool (hexR s.data.toList).isSome]) ∧ BytesAt w' v ((hexR s.data.toList).getD []) ∧ Below w.heap.size w w' := by
 have hl : s.data.toList.length = s.size := by simp
 by_cases h0 : s.size = 0
 · have e : hexR s.data.toList = none := by unfold hexR; rw [if_pos (List.length_eq_zero_iff.1 (hl.trans h0))]
   rw [e]
   refine (rhex_none s w (by omega)).mono ?_
   rintro e w' ⟨rfl, rfl⟩
   exact ⟨_, rfl, .inl ⟨rfl, rfl⟩, Below.refl _ _⟩
 · have e : hexR s.data.toList = hexO s.data.toList := by unfold hexR; rw [if_neg (fun q => h0 (by rw [← hl, q]; rfl))]
   rw [e]
   by_cases h1 : s.size % 2 = 1
   · rw [hex_odd _ (by rw [hl]; exact h1)]
     refine (rhex_odd s w hs (by omega) (by omega)).mono ?_
     rintro e w' ⟨rfl, rfl⟩
     exact ⟨_, rfl, .inl ⟨rfl, rfl⟩, Below.refl _ _⟩
   · exact rhex_main s w hs (by omega) (by omega) _ rfl
theorem rnum_e (s : ByteArray) (w : World) (lo hi V E : Int) (bV : -9223372036854775808 ≤ V ∧ V ≤ 9223372036854775807) (hE : ¬ E = 0) (hE2 : (E != 0) = true) (f : Hid (Calls Tryz.prog 94 #[.string s] w fun e w' => e = .returned (.tuple #[.int .i64 V, .int .i64 E]) ∧ w' = w)) :
 Calls Tryz.prog 65 #[.string s, .int .i64 lo, .int .i64 hi] w fun e w' => e = .returned (.tuple #[.int .i64 0, .bool false]) ∧ w' = w := by
 go_enter Tryz.func65, Tryz.ntmps65
 go_wp2_with fail
 refine f.out.mono ?_
 rintro e w1 ⟨rfl, rfl⟩
 clear f
 go_wp2
 go_ret2
 exact ⟨rfl, rfl⟩
theorem rnum_lo (s : ByteArray) (w : World) (lo hi V : Int) (bV : -9223372036854775808 ≤ V ∧ V ≤ 9223372036854775807) (q1 : V < lo) (f : Hid (Calls Tryz.prog 94 #[.string s] w fun e w' => e = .returned (.tuple #[.int .i64 V, .int .i64 0]) ∧ w' = w)) :
 Calls Tryz.prog 65 #[.string s, .int .i64 lo, .int .i64 hi] w fun e w' => e = .returned (.tuple #[.int .i64 0, .bool false]) ∧ w' = w := by
 go_enter Tryz.func65, Tryz.ntmps65
 go_wp2_with fail
 refine f.out.mono ?_
 rintro e w1 ⟨rfl, rfl⟩
 clear f
 go_wp2
 go_ret2
 exact ⟨rfl, rfl⟩
theorem rnum_hi (s : ByteArray) (w : World) (lo hi V : Int) (bV : -9223372036854775808 ≤ V ∧ V ≤ 9223372036854775807) (q0 : lo ≤ V) (q1 : hi < V) (f : Hid (Calls Tryz.prog 94 #[.string s] w fun e w' => e = .returned (.tuple #[.int .i64 V, .int .i64 0]) ∧ w' = w)) :
 Calls Tryz.prog 65 #[.string s, .int .i64 lo, .int .i64 hi] w fun e w' => e = .returned (.tuple #[.int .i64 0, .bool false]) ∧ w' = w := by
 go_enter Tryz.func65, Tryz.ntmps65
 go_wp2_with fail
 refine f.out.mono ?_
 rintro e w1 ⟨rfl, rfl⟩
 clear f
 go_wp2
 go_ret2
 exact ⟨rfl, rfl⟩
theorem rnum_ok (s : ByteArray) (w : World) (lo hi V : Int) (bV : -9223372036854775808 ≤ V ∧ V ≤ 9223372036854775807) (q0 : lo ≤ V) (q1 : V ≤ hi) (f : Hid (Calls Tryz.prog 94 #[.string s] w fun e w' => e = .returned (.tuple #[.int .i64 V, .int .i64 0]) ∧ w' = w)) :
 Calls Tryz.prog 65 #[.string s, .int .i64 lo, .int .i64 hi] w fun e w' => e = .returned (.tuple #[.int .i64 V, .bool true]) ∧ w' = w := by
 go_enter Tryz.func65, Tryz.ntmps65
 go_wp2_with fail
 refine f.out.mono ?_
 rintro e w1 ⟨rfl, rfl⟩
 clear f
 go_wp2
 go_ret2
 exact ⟨rfl, rfl⟩
theorem rnum_any (s : ByteArray) (w : World) (hs : s.size ≤ maxLen) (lo hi : Int) : Calls Tryz.prog 65 #[.string s, .int .i64 lo, .int .i64 hi] w fun e w' => e = .returned (.tuple #[.int .i64 (numV s.data.toList lo hi), .bool (numB s.data.toList lo hi)]) ∧ w' = w := by
 have f := rread_any s w hs
 have bV := readV_bd s.data.toList
 unfold numV
 obtain ⟨B, hB⟩ : ∃ B, numB s.data.toList lo hi = B := ⟨_, rfl⟩
 have hB2 := hB
 unfold numB at hB2
 rw [hB]
 by_cases hE : readE s.data.toList = 0
 · rw [hE] at f hB2
   by_cases q0 : lo ≤ readV s.data.toList
   · by_cases q1 : readV s.data.toList ≤ hi
     · obtain rfl : B = true := by rw [← hB2]; simp [q0, q1]
       rw [if_pos rfl]
       exact rnum_ok s w lo hi _ bV q0 q1 f
     · obtain rfl : B = false := by rw [← hB2]; simp; omega
       rw [if_neg (by simp)]
       exact rnum_hi s w lo hi _ bV q0 (by omega) f
   · obtain rfl : B = false := by rw [← hB2]; simp; omega
     rw [if_neg (by simp)]
     exact rnum_lo s w lo hi _ bV (by omega) f
 · obtain rfl : B = false := by rw [← hB2]; simp [hE]
   rw [if_neg (by simp)]
   exact rnum_e s w lo hi _ _ bV hE (bne_iff_ne.2 hE) f
def NameP : Prop := ∀ (s : ByteArray) (w : World), (s.size : Int) ≤ 5000 → Calls Tryz.prog 46 #[.string s] w fun e w' => e = .returned (.bool (nameB s.data.toList)) ∧ Below w.heap.size w w'
theorem same_w {f : FuncId} {args : Array Value} {x : World} {v : Value} (h : Calls Tryz.prog f args x fun e w' => e = .returned v ∧ w' = x) : Calls Tryz.prog f args x fun e w' => e = .returned v ∧ Below x.heap.size x w' :=
 h.mono fun _ _ ⟨a, b⟩ => ⟨a, by rw [b]; exact Below.refl _ _⟩
def HexP : Prop := ∀ (s : ByteArray) (w : World), (s.size : Int) ≤ 5000 → Calls Tryz.prog 130 #[.string s] w fun e w' => ∃ v, e = .returned (.tuple #[v, .bool (hexR s.data.toList).isSome]) ∧ BytesAt w' v ((hexR s.data.toList).getD []) ∧ Below w.heap.size w w'
theorem pnum_e (s : ByteArray) (w : World) (lo hi V E : Int) (bV : -9223372036854775808 ≤ V ∧ V ≤ 9223372036854775807) (hE : ¬ E = 0) (hE2 : (E != 0) = true) (f : Hid (Calls Tryz.prog 144 #[.string s] w fun e w' => e = .returned (.tuple #[.int .i64 V, .int .i64 E]) ∧ w' = w)) :
 Calls Tryz.prog 128 #[.string s, .int .i64 lo, .int .i64 hi] w fun e w' => e = .returned (.tuple #[.int .i64 0, .bool false]) ∧ w' = w := by
 go_enter Tryz.func128, Tryz.ntmps128
 go_wp2_with fail
 refine f.out.mono ?_
 rintro e w1 ⟨rfl, rfl⟩
 clear f
 go_wp2
 go_ret2
 exact ⟨rfl, rfl⟩
theorem pnum_lo (s : ByteArray) (w : World) (lo hi V : Int) (bV : -9223372036854775808 ≤ V ∧ V ≤ 9223372036854775807) (q1 : V < lo) (f : Hid (Calls Tryz.prog 144 #[.string s] w fun e w' => e = .returned (.tuple #[.int .i64 V, .int .i64 0]) ∧ w' = w)) :
 Calls Tryz.prog 128 #[.string s, .int .i64 lo, .int .i64 hi] w fun e w' => e = .returned (.tuple #[.int .i64 0, .bool false]) ∧ w' = w := by
 go_enter Tryz.func128, Tryz.ntmps128
 go_wp2_with fail
 refine f.out.mono ?_
 rintro e w1 ⟨rfl, rfl⟩
 clear f
 go_wp2
 go_ret2
 exact ⟨rfl, rfl⟩
theorem pnum_hi (s : ByteArray) (w : World) (lo hi V : Int) (bV : -9223372036854775808 ≤ V ∧ V ≤ 9223372036854775807) (q0 : lo ≤ V) (q1 : hi < V) (f : Hid (Calls Tryz.prog 144 #[.string s] w fun e w' => e = .returned (.tuple #[.int .i64 V, .int .i64 0]) ∧ w' = w)) :
 Calls Tryz.prog 128 #[.string s, .int .i64 lo, .int .i64 hi] w fun e w' => e = .returned (.tuple #[.int .i64 0, .bool false]) ∧ w' = w := by
 go_enter Tryz.func128, Tryz.ntmps128
 go_wp2_with fail
 refine f.out.mono ?_
 rintro e w1 ⟨rfl, rfl⟩
 clear f
 go_wp2
 go_ret2
 exact ⟨rfl, rfl⟩
theorem pnum_ok (s : ByteArray) (w : World) (lo hi V : Int) (bV : -9223372036854775808 ≤ V ∧ V ≤ 9223372036854775807) (q0 : lo ≤ V) (q1 : V ≤ hi) (f : Hid (Calls Tryz.prog 144 #[.string s] w fun e w' => e = .returned (.tuple #[.int .i64 V, .int .i64 0]) ∧ w' = w)) :
 Calls Tryz.prog 128 #[.string s, .int .i64 lo, .int .i64 hi] w fun e w' => e = .returned (.tuple #[.int .i64 V, .bool true]) ∧ w' = w := by
 go_enter Tryz.func128, Tryz.ntmps128
 go_wp2_with fail
 refine f.out.mono ?_
 rintro e w1 ⟨rfl, rfl⟩
 clear f
 go_wp2
 go_ret2
 exact ⟨rfl, rfl⟩
theorem pnum_any (s : ByteArray) (w : World) (hs : s.size ≤ maxLen) (lo hi : Int) : Calls Tryz.prog 128 #[.string s, .int .i64 lo, .int .i64 hi] w fun e w' => e = .returned (.tuple #[.int .i64 (numV s.data.toList lo hi), .bool (numB s.data.toList lo hi)]) ∧ w' = w := by
 have f := read_any s w hs
 have bV := readV_bd s.data.toList
 unfold numV
 obtain ⟨B, hB⟩ : ∃ B, numB s.data.toList lo hi = B := ⟨_, rfl⟩
 have hB2 := hB
 unfold numB at hB2
 rw [hB]
 by_cases hE : readE s.data.toList = 0
 · rw [hE] at f hB2
   by_cases q0 : lo ≤ readV s.data.toList
   · by_cases q1 : readV s.data.toList ≤ hi
     · obtain rfl : B = true := by rw [← hB2]; simp [q0, q1]
       rw [if_pos rfl]
       exact pnum_ok s w lo hi _ bV q0 q1 f
     · obtain rfl : B = false := by rw [← hB2]; simp; omega
       rw [if_neg (by simp)]
       exact pnum_hi s w lo hi _ bV q0 (by omega) f
   · obtain rfl : B = false := by rw [← hB2]; simp; omega
     rw [if_neg (by simp)]
     exact pnum_lo s w lo hi _ bV (by omega) f
 · obtain rfl : B = false := by rw [← hB2]; simp [hE]
   rw [if_neg (by simp)]
   exact pnum_e s w lo hi _ _ bV hE (bne_iff_ne.2 hE) f
theorem below_iter (w : World) (s : ByteArray) (p : Nat) : Below w.heap.size w (w.iter s p) := (Below.refl _ _).alloc (Nat.le_refl _) _
def NameK (l : List UInt8) (k : Nat) : Prop := allN (l.take k) = true ∧ (0 < k → ∃ c r, l = c :: r ∧ lowB c = true)
theorem nameK_first (l : List UInt8) : NameK l 0 := ⟨rfl, fun h => absurd h (by omega)⟩
theorem nameK_next {l : List UInt8} {k : Nat} (h : k < l.length) (ha : NameK l k) (hc : nameC l[k] = true) (h0 : k = 0 → lowB l[k] = true) : NameK l (k + 1) := by
 refine ⟨allN_next h ha.1 hc, fun _ => ?_⟩
 by_cases hk : k = 0
 · subst hk
   exact ⟨l[0], l.drop 1, by have e := List.drop_eq_getElem_cons h; simpa using e, h0 rfl⟩
 · exact ha.2 (by omega)
theorem nameB_long {l : List UInt8} (h : ¬ l.length ≤ 12) : nameB l = false := by unfold nameB; rw [decide_eq_false h]; rfl
theorem nameB_all {l : List UInt8} (h : NameK l l.length) (h0 : 0 < l.length) (h12 : l.length ≤ 12) : nameB l = true := by
 obtain ⟨h1, h2⟩ := h
 obtain ⟨c, r, e, hc⟩ := h2 h0
 rw [List.take_length] at h1
 subst e
 unfold nameB
 rw [decide_eq_true h12, h1]
 show (true && (lowB c && true)) = true
 rw [hc]; rfl
theorem nameB_stop {l : List UInt8} {k : Nat} (h : k < l.length) (hc : nameC l[k] = false ∨ (k = 0 ∧ lowB l[k] = false)) : nameB l = false := by
 unfold nameB
 cases l with
 | nil => simp
 | cons c r =>
  rcases hc with hc | ⟨hk, hc⟩
  · show (decide _ && (lowB c && allN (c :: r))) = false
    rw [allN_stop h hc]; simp
  · subst hk
    show (decide _ && (lowB c && allN (c :: r))) = false
    rw [show lowB c = false from hc]; simp
theorem pname_main (s : ByteArray) (w : World) (h0 : (1 : Int) ≤ (s.size : Int)) (h12 : (s.size : Int) ≤ 12) :
 Calls Tryz.prog 46 #[.string s] w fun e w' => e = .returned (.bool (nameB s.data.toList)) ∧ Below w.heap.size w w' := by
 have g1 : decide ((s.size : Int) < 1) = false := decide_eq_false (by omega)
 have g2 : decide (12 < (s.size : Int)) = false := decide_eq_false (by omega)
 have hlen : s.data.toList.length = s.size := by simp
 obtain ⟨T, hT⟩ : ∃ T, nameB s.data.toList = T := ⟨_, rfl⟩
 rw [hT]
 replace hT : Hid (nameB s.data.toList = T) := hT
 go_enter Tryz.func46, Tryz.ntmps46
 go_wp2
 go_loopw [] (fun wr => ∃ k : Nat, k ≤ s.size ∧ wr = w.iter s k ∧ Hid (NameK s.data.toList k)) (fun wr => s.size - wr.iterPos w.heap.size)
 case atStart => exact ⟨0, Nat.zero_le _, rfl, nameK_first _⟩
 case round =>
  obtain ⟨k, hk, rfl, hall⟩ := hrel
  by_cases hlt : k < s.size
  · have hl : k < s.data.toList.length := by simpa using hlt
    have lk : s[k].toNat < 256 := s[k].toNat_lt
    have stp : Hid (nameC s[k] = false ∨ (k = 0 ∧ lowB s[k] = false) → T = false) := fun h => by rw [← hT.out]; exact nameB_stop hl h
    have nx : Hid (nameC s[k] = true → (k = 0 → lowB s[k] = true) → NameK s.data.toList (k + 1)) := fun h h2 => nameK_next hl hall.out h h2
    clear hall hT
    by_cases ha : s[k].toNat < 128
    · have hd := decode_ascii s k hlt ha
      have hnx : ∀ ty, (Instr.next (.pointer (some ⟨w.heap.size, 0, none⟩)) true ty).run Tryz.prog (w.iter s k) = .ok (.tuple #[.bool true, .int .i64 (k : Int), .int .i32 (s[k].toNat : Int)]) (w.iter s (k + 1)) := fun ty => by rw [run_next_any w s k ty hlt, hd]
      clear hd
      obtain ⟨c, hc⟩ : ∃ c : Nat, s[k].toNat = c := ⟨_, rfl⟩
      have hcn : Hid ((nameC s[k] = decide ((97 ≤ c ∧ c ≤ 122) ∨ (48 ≤ c ∧ c ≤ 57))) ∧ (lowB s[k] = decide (97 ≤ c ∧ c ≤ 122))) := by rw [← hc]; exact ⟨rfl, rfl⟩
      rw [hc] at hnx ha lk
      clear hc
      by_cases a1 : (97 : Int) ≤ (c : Int)
      · have q1 : decide ((97 : Int) ≤ (c : Int)) = true := decide_eq_true a1
        by_cases a2 : (c : Int) ≤ 122
        · have q2 : decide ((c : Int) ≤ 122) = true := decide_eq_true a2
          have nl : Hid (NameK s.data.toList (k + 1)) := nx.out (by rw [hcn.out.1]; exact decide_eq_true (by omega)) (fun _ => by rw [hcn.out.2]; exact decide_eq_true (by omega))
          clear nx stp hcn
          go_wp2
          exact ⟨⟨k + 1, by omega, rfl, nl⟩, by simp; omega⟩
        · have q2 : decide ((c : Int) ≤ 122) = false := decide_eq_false a2
          have q3 : decide ((48 : Int) ≤ (c : Int)) = true := decide_eq_true (by omega)
          have q4 : decide ((c : Int) ≤ 57) = false := decide_eq_false (by omega)
          have fin : Hid (T = false) := stp.out (.inl (by rw [hcn.out.1]; exact decide_eq_false (by omega)))
          clear nx stp hcn
          go_wp2
          go_ret
          exact ⟨ret_bb fin.out, below_iter _ _ _⟩
      · have q1 : decide ((97 : Int) ≤ (c : Int)) = false := decide_eq_false a1
        by_cases a3 : (48 : Int) ≤ (c : Int)
        · have q3 : decide ((48 : Int) ≤ (c : Int)) = true := decide_eq_true a3
          by_cases a4 : (c : Int) ≤ 57
          · have q4 : decide ((c : Int) ≤ 57) = true := decide_eq_true a4
            by_cases k0 : (k : Int) = 0
            · have q5 : ((k : Int) == 0) = true := by simp [k0]
              have fin : Hid (T = false) := stp.out (.inr ⟨by omega, by rw [hcn.out.2]; exact decide_eq_false (by omega)⟩)
              clear nx stp hcn
              go_wp2
              go_ret
              exact ⟨ret_bb fin.out, below_iter _ _ _⟩
            · have q5 : ((k : Int) == 0) = false := beq_eq_false_iff_ne.2 k0
              have nl : Hid (NameK s.data.toList (k + 1)) := nx.out (by rw [hcn.out.1]; exact decide_eq_true (by omega)) (fun h => absurd h (by omega))
              clear nx stp hcn
              go_wp2
              exact ⟨⟨k + 1, by omega, rfl, nl⟩, by simp; omega⟩
          · have q4 : decide ((c : Int) ≤ 57) = false := decide_eq_false a4
            have fin : Hid (T = false) := stp.out (.inl (by rw [hcn.out.1]; exact decide_eq_false (by omega)))
            clear nx stp hcn
            go_wp2
            go_ret
            exact ⟨ret_bb fin.out, below_iter _ _ _⟩
        · have q3 : decide ((48 : Int) ≤ (c : Int)) = false := decide_eq_false a3
          have fin : Hid (T = false) := stp.out (.inl (by rw [hcn.out.1]; exact decide_eq_false (by omega)))
          clear nx stp hcn
          go_wp2
          go_ret
          exact ⟨ret_bb fin.out, below_iter _ _ _⟩
    · have hd := decode_high s k hlt (by omega)
      obtain ⟨R, hR⟩ : ∃ R : Nat, (Utf8.decode s k).1 = R := ⟨_, rfl⟩
      obtain ⟨D, hD⟩ : ∃ D : Nat, (Utf8.decode s k).2 = D := ⟨_, rfl⟩
      have hnx : ∀ ty, (Instr.next (.pointer (some ⟨w.heap.size, 0, none⟩)) true ty).run Tryz.prog (w.iter s k) = .ok (.tuple #[.bool true, .int .i64 (k : Int), .int .i32 (R : Int)]) (w.iter s (k + D)) := fun ty => by rw [run_next_any w s k ty hlt, hR, hD]
      rw [hR] at hd
      have hR1 : (128 : Int) ≤ (R : Int) := by omega
      have q1 : decide ((97 : Int) ≤ (R : Int)) = true := decide_eq_true (by omega)
      have q2 : decide ((R : Int) ≤ 122) = false := decide_eq_false (by omega)
      have q3 : decide ((48 : Int) ≤ (R : Int)) = true := decide_eq_true (by omega)
      have q4 : decide ((R : Int) ≤ 57) = false := decide_eq_false (by omega)
      have fin : Hid (T = false) := stp.out (.inl (by unfold nameC; exact decide_eq_false (by omega)))
      clear nx stp hd hR hD
      go_wp2
      go_ret
      exact ⟨ret_bb fin.out, below_iter _ _ _⟩
  · obtain rfl : k = s.size := by omega
    have fin : Hid (T = true) := by
     rw [← hT.out]
     exact nameB_all (by rw [hlen]; exact hall.out) (by omega) (by omega)
    have hnx : ∀ ty, (Instr.next (.pointer (some ⟨w.heap.size, 0, none⟩)) true ty).run Tryz.prog (w.iter s s.size) = _ := fun ty => run_next_end w s s.size ty (by omega)
    clear hall hT
    go_wp2
    go_ret
    exact ⟨ret_bb fin.out, below_iter _ _ _⟩
theorem pname_zero (s : ByteArray) (w : World) (h0 : (s.size : Int) < 1) :
 Calls Tryz.prog 46 #[.string s] w fun e w' => e = .returned (.bool false) ∧ w' = w := by
 have g1 : decide ((s.size : Int) < 1) = true := decide_eq_true (by omega)
 go_enter Tryz.func46, Tryz.ntmps46
 go_wp2
 go_ret
 exact ⟨rfl, rfl⟩
theorem pname_long (s : ByteArray) (w : World) (h12 : 12 < (s.size : Int)) :
 Calls Tryz.prog 46 #[.string s] w fun e w' => e = .returned (.bool false) ∧ w' = w := by
 have g1 : decide ((s.size : Int) < 1) = false := decide_eq_false (by omega)
 have g2 : decide (12 < (s.size : Int)) = true := decide_eq_true (by omega)
 go_enter Tryz.func46, Tryz.ntmps46
 go_wp2
 go_ret
 exact ⟨rfl, rfl⟩
theorem HM : NameP := fun s w hs => by
 have hlen : s.data.toList.length = s.size := by simp
 by_cases h0 : (s.size : Int) < 1
 · have e : s.data.toList = [] := List.length_eq_zero_iff.1 (by rw [hlen]; omega)
   rw [e]
   exact same_w (pname_zero s w h0)
 · by_cases h12 : (s.size : Int) ≤ 12
   · exact pname_main s w (by omega) h12
   · rw [nameB_long (by rw [hlen]; omega)]
     exact same_w (pname_long s w (by omega))
theorem digit_fig (c : Nat) (hc : (0 : Int) ≤ (c : Int) ∧ (c : Int) < 256) (h1 : (48 : Int) ≤ (c : Int)) (h2 : (c : Int) ≤ 57) (w : World) : Calls Tryz.prog 145 #[.int .u8 (c : Int)] w fun e w' => e = .returned (.tuple #[.int .u8 ((c : Int) - 48), .bool true]) ∧ w' = w := by
 have q1 : decide ((48 : Int) ≤ (c : Int)) = true := decide_eq_true h1
 have q2 : decide ((c : Int) ≤ 57) = true := decide_eq_true h2
 have wr : IntKind.u8.wrap ((c : Int) - 48) = (c : Int) - 48 := by simp only [IntKind.wrap_u8']; omega
 go_enter Tryz.func145, Tryz.ntmps145
 go_wp2
 go_ret2
 exact ⟨rfl, rfl⟩
theorem digit_low (c : Nat) (hc : (0 : Int) ≤ (c : Int) ∧ (c : Int) < 256) (h1 : (97 : Int) ≤ (c : Int)) (h2 : (c : Int) ≤ 102) (w : World) : Calls Tryz.prog 145 #[.int .u8 (c : Int)] w fun e w' => e = .returned (.tuple #[.int .u8 ((c : Int) - 97 + 10), .bool true]) ∧ w' = w := by
 have q1 : decide ((48 : Int) ≤ (c : Int)) = true := decide_eq_true (by omega)
 have q2 : decide ((c : Int) ≤ 57) = false := decide_eq_false (by omega)
 have q3 : decide ((97 : Int) ≤ (c : Int)) = true := decide_eq_true h1
 have q4 : decide ((c : Int) ≤ 102) = true := decide_eq_true h2
 have wr : IntKind.u8.wrap ((c : Int) - 97) = (c : Int) - 97 := by simp only [IntKind.wrap_u8']; omega
 have wr2 : IntKind.u8.wrap ((c : Int) - 97 + 10) = (c : Int) - 97 + 10 := by simp only [IntKind.wrap_u8']; omega
 go_enter Tryz.func145, Tryz.ntmps145
 go_wp2
 go_ret2
 exact ⟨rfl, rfl⟩
theorem digit_n1 (c : Nat) (hc : (0 : Int) ≤ (c : Int) ∧ (c : Int) < 256) (h1 : (c : Int) < 48) (w : World) : Calls Tryz.prog 145 #[.int .u8 (c : Int)] w fun e w' => e = .returned (.tuple #[.int .u8 (0), .bool false]) ∧ w' = w := by
 have q1 : decide ((48 : Int) ≤ (c : Int)) = false := decide_eq_false (by omega)
 have q3 : decide ((97 : Int) ≤ (c : Int)) = false := decide_eq_false (by omega)
 go_enter Tryz.func145, Tryz.ntmps145
 go_wp2
 go_ret2
 exact ⟨rfl, rfl⟩
theorem digit_n2 (c : Nat) (hc : (0 : Int) ≤ (c : Int) ∧ (c : Int) < 256) (h1 : (57 : Int) < (c : Int)) (h2 : (c : Int) < 97) (w : World) : Calls Tryz.prog 145 #[.int .u8 (c : Int)] w fun e w' => e = .returned (.tuple #[.int .u8 (0), .bool false]) ∧ w' = w := by
 have q1 : decide ((48 : Int) ≤ (c : Int)) = true := decide_eq_true (by omega)
 have q2 : decide ((c : Int) ≤ 57) = false := decide_eq_false (by omega)
 have q3 : decide ((97 : Int) ≤ (c : Int)) = false := decide_eq_false (by omega)
 go_enter Tryz.func145, Tryz.ntmps145
 go_wp2
 go_ret2
 exact ⟨rfl, rfl⟩
theorem digit_n3 (c : Nat) (hc : (0 : Int) ≤ (c : Int) ∧ (c : Int) < 256) (h1 : (102 : Int) < (c : Int)) (w : World) : Calls Tryz.prog 145 #[.int .u8 (c : Int)] w fun e w' => e = .returned (.tuple #[.int .u8 (0), .bool false]) ∧ w' = w := by
 have q1 : decide ((48 : Int) ≤ (c : Int)) = true := decide_eq_true (by omega)
 have q2 : decide ((c : Int) ≤ 57) = false := decide_eq_false (by omega)
 have q3 : decide ((97 : Int) ≤ (c : Int)) = true := decide_eq_true (by omega)
 have q4 : decide ((c : Int) ≤ 102) = false := decide_eq_false (by omega)
 go_enter Tryz.func145, Tryz.ntmps145
 go_wp2
 go_ret2
 exact ⟨rfl, rfl⟩
def dgV (c : Nat) : Nat := (halfC c).toNat
def dgB (c : Nat) : Bool := decide (0 ≤ halfC c)
theorem dgV_lt (c : Nat) : dgV c < 16 := by unfold dgV; have := half_bd c; omega
theorem digit_any (c : Nat) (hc : c < 256) (w : World) : Calls Tryz.prog 145 #[.int .u8 (c : Int)] w fun e w' => e = .returned (.tuple #[.int .u8 ((dgV c : Nat) : Int), .bool (dgB c)]) ∧ w' = w := by
 have hci : (0 : Int) ≤ (c : Int) ∧ (c : Int) < 256 := ⟨by omega, by omega⟩
 have key : ∀ (V : Int) (B : Bool), (Calls Tryz.prog 145 #[.int .u8 (c : Int)] w fun e w' => e = .returned (.tuple #[.int .u8 V, .bool B]) ∧ w' = w) → V = ((dgV c : Nat) : Int) → B = dgB c → Calls Tryz.prog 145 #[.int .u8 (c : Int)] w fun e w' => e = .returned (.tuple #[.int .u8 ((dgV c : Nat) : Int), .bool (dgB c)]) ∧ w' = w := fun V B h e1 e2 => by rw [← e1, ← e2]; exact h
 by_cases h1 : 48 ≤ c
 · by_cases h2 : c ≤ 57
   · have e : halfC c = (c : Int) - 48 := by unfold halfC; rw [if_pos ⟨h1, h2⟩]
     exact key _ _ (digit_fig c hci (by omega) (by omega) w) (by unfold dgV; rw [e]; omega) (by unfold dgB; rw [e]; exact (decide_eq_true (by omega)).symm)
   · by_cases h3 : 97 ≤ c
     · by_cases h4 : c ≤ 102
       · have e : halfC c = (c : Int) - 87 := by unfold halfC; rw [if_neg (by omega), if_pos ⟨h3, h4⟩]
         exact key _ _ (digit_low c hci (by omega) (by omega) w) (by unfold dgV; rw [e]; omega) (by unfold dgB; rw [e]; exact (decide_eq_true (by omega)).symm)
       · have e : halfC c = -1 := by unfold halfC; rw [if_neg (by omega), if_neg (by omega)]
         exact key _ _ (digit_n3 c hci (by omega) w) (by unfold dgV; rw [e]; rfl) (by unfold dgB; rw [e]; rfl)
     · have e : halfC c = -1 := by unfold halfC; rw [if_neg (by omega), if_neg (by omega)]
       exact key _ _ (digit_n2 c hci (by omega) (by omega) w) (by unfold dgV; rw [e]; rfl) (by unfold dgB; rw [e]; rfl)
 · have e : halfC c = -1 := by unfold halfC; rw [if_neg (by omega), if_neg (by omega)]
   exact key _ _ (digit_n1 c hci (by omega) w) (by unfold dgV; rw [e]; rfl) (by unfold dgB; rw [e]; rfl)
def FreshV (w : World) (v : Value) : Prop := v = .slice none 0 0 ∨ ∃ a n cap, v = .slice (some a) n cap ∧ w.heap.size ≤ a.block
def HexP2 : Prop := ∀ (s : ByteArray) (w : World), (s.size : Int) ≤ 5000 → Calls Tryz.prog 130 #[.string s] w fun e w' => ∃ v, e = .returned (.tuple #[v, .bool (hexR s.data.toList).isSome]) ∧ BytesAt w' v ((hexR s.data.toList).getD []) ∧ FreshV w v ∧ Below w.heap.size w w'
theorem rowH_zero (w : World) (L : Nat) (hm : L ≤ maxLen) : RowU (w.alloc (.cells (madeCells #[.int .u8 0] L) 5)) w.heap.size L (List.replicate L 0) := by
 have hc : (madeCells #[.int .u8 0] L).toList = u8v (List.replicate L 0) := by rw [toList_madeCells_one]; simp
 refine ⟨by simp, hm, _, World.alloc_heap_new w _, ?_, ?_⟩
 · have := congrArg List.length hc
   simpa using this
 · rw [hc, List.length_replicate, List.take_of_length_le (by simp)]
def hexRow (L : Nat) (out : List Nat) : List Nat := out ++ List.replicate (L - out.length) 0
theorem hexRow_len {L : Nat} {out : List Nat} (h : out.length ≤ L) : (hexRow L out).length = L := by unfold hexRow; simp; omega
theorem hexRow_set {L : Nat} {out : List Nat} (h : out.length < L) (b : Nat) : (hexRow L out).set out.length b = hexRow L (out ++ [b]) := by
 unfold hexRow
 obtain ⟨m, hm⟩ : ∃ m, L - out.length = m + 1 := ⟨L - out.length - 1, by omega⟩
 have e : L - (out ++ [b]).length = m := by simp; omega
 rw [hm, e, List.replicate_succ, List.set_append_right _ _ (Nat.le_refl _)]
 simp
theorem hexRow_full {L : Nat} {out : List Nat} (h : out.length = L) : hexRow L out = out := by unfold hexRow; rw [h]; simp
theorem nib (p q : Nat) (hp : p < 16) (hq : q < 16) : bits .or .u8 ((p : Int) * 16) (q : Int) = ((16 * p + q : Nat) : Int) := by
 have h : ∀ a b : Fin 16, bits .or .u8 ((a.1 : Int) * 16) (b.1 : Int) = ((16 * a.1 + b.1 : Nat) : Int) := by decide
 exact h ⟨p, hp⟩ ⟨q, hq⟩
theorem phex_main (s : ByteArray) (w : World) (hs : (s.size : Int) ≤ 5000) (h0 : 0 < (s.size : Int)) (L : Nat) (hL : (s.size : Int) = 2 * (L : Int)) (T : Option (List Nat)) (hT : hexO s.data.toList = T) :
 Calls Tryz.prog 130 #[.string s] w fun e w' => ∃ v, e = .returned (.tuple #[v, .bool T.isSome]) ∧ BytesAt w' v (T.getD []) ∧ FreshV w v ∧ Below w.heap.size w w' := by
 have L0 : Hid (LeftH [] (s.data.toList.drop (2 * ([] : List Nat).length)) T) := by unfold Hid; rw [← hT]; exact LeftH.first _
 have hz : ((s.size : Int) == 0) = false := beq_eq_false_iff_ne.2 (by omega)
 have hq : ((s.size : Int) % 2 != 0) = false := by rw [show (s.size : Int) % 2 = 0 by omega]; rfl
 have hd1 : (s.size : Int) / 2 = (L : Int) := by omega
 have hd2 : Int.tdiv (s.size : Int) 2 = (L : Int) := by rw [Int.tdiv_eq_ediv_of_nonneg (by omega)]; exact hd1
 have hL150 : (L : Int) ≤ 2500 := by omega
 have hmk : ∀ w, (Instr.makeSlice 23 (.int .i64 (L : Int)) (.int .i64 (L : Int))).run Tryz.prog w = .ok (.slice (some ⟨w.heap.size, 0, none⟩) L L) (w.alloc (.cells (madeCells #[.int .u8 0] L) 5)) := fun w => run_make_row' (P := Tryz.prog) 23 5 (.int .u8 0) 1 Tryz.underlying23 info_u8 rfl .i64 .i64 L (by omega) (by omega) w
 have R0 : Hid (RowU (w.alloc (.cells (madeCells #[.int .u8 0] L) 5)) w.heap.size L (hexRow L [])) := rowH_zero w L (by unfold maxLen; omega)
 have B0 : Hid (Below w.heap.size w (w.alloc (.cells (madeCells #[.int .u8 0] L) 5))) := (Below.refl _ _).alloc (Nat.le_refl _) _
 replace hL : Hid ((s.size : Int) = 2 * (L : Int)) := hL
 clear hT
 go_enter Tryz.func130, Tryz.ntmps130
 go_wp2
 clear hmk
 go_loopw [25] (fun vi wr => ∃ (out : List Nat), (out.length : Int) ≤ (L : Int) ∧ vi = .int .i64 (out.length : Int) ∧ Hid (RowU wr w.heap.size L (hexRow L out)) ∧ Hid (Below w.heap.size w wr) ∧ Hid (LeftH out (s.data.toList.drop (2 * out.length)) T)) (fun vi _ => L - (intOf vi).toNat)
 case atStart => exact ⟨[], by simp, rfl, R0, B0, L0⟩
 case round =>
  obtain ⟨out, hk, rfl, R, B, left⟩ := hrel
  clear L0 R0 B0
  obtain ⟨k, hko⟩ : ∃ k, out.length = k := ⟨_, rfl⟩
  rw [hko] at hk left ⊢
  by_cases hlt : (k : Int) < (L : Int)
  · have i1 : 2 * k < s.size := by have := hL.out; omega
    have i2 : 2 * k + 1 < s.size := by have := hL.out; omega
    have lf := left.out
    rw [sdrop_at i1, sdrop_at i2] at lf
    have x1 : s[2 * k].toNat < 256 := s[2 * k].toNat_lt
    have x2 : s[2 * k + 1].toNat < 256 := s[2 * k + 1].toNat_lt
    have ix : ∀ x : World, (Instr.index 9 (.string s) (.int .i64 (2 * (k : Int)))).run Tryz.prog x = .ok (.int .u8 (s[2 * k].toNat : Int)) x := fun x => by
     rw [run_index_string x 9 s .i64 _ Tryz.underlying9, dif_pos ⟨by omega, by omega⟩]
     rfl
    have ix2 : ∀ x : World, (Instr.index 9 (.string s) (.int .i64 (2 * (k : Int) + 1))).run Tryz.prog x = .ok (.int .u8 (s[2 * k + 1].toNat : Int)) x := fun x => by
     rw [run_index_string x 9 s .i64 _ Tryz.underlying9, dif_pos ⟨by omega, by omega⟩]
     rfl
    have f1 : Hid (∀ w, Calls Tryz.prog 145 #[.int .u8 (s[2 * k].toNat : Int)] w fun e w' => e = .returned (.tuple #[.int .u8 ((dgV s[2 * k].toNat : Nat) : Int), .bool (dgB s[2 * k].toNat)]) ∧ w' = w) := fun w => digit_any _ x1 w
    have f2 : Hid (∀ w, Calls Tryz.prog 145 #[.int .u8 (s[2 * k + 1].toNat : Int)] w fun e w' => e = .returned (.tuple #[.int .u8 ((dgV s[2 * k + 1].toNat : Nat) : Int), .bool (dgB s[2 * k + 1].toNat)]) ∧ w' = w) := fun w => digit_any _ x2 w
    have nx : Hid (dgB s[2 * k].toNat = true → dgB s[2 * k + 1].toNat = true → LeftH (out ++ [16 * dgV s[2 * k].toNat + dgV s[2 * k + 1].toNat]) (s.data.toList.drop (2 * (k + 1))) T) := fun g1 g2 => by
     have g3 := of_decide_eq_true g1
     have g4 := of_decide_eq_true g2
     have := lf.two g3 g4
     have e : (16 * halfC s[2 * k].toNat + halfC s[2 * k + 1].toNat).toNat = 16 * dgV s[2 * k].toNat + dgV s[2 * k + 1].toNat := by unfold dgV; omega
     rw [e] at this
     exact this
    have bd : Hid ((dgB s[2 * k].toNat = false ∨ dgB s[2 * k + 1].toNat = false) → T = none) := fun h => lf.bad (fun h2 => by
     rcases h with h | h
     · exact of_decide_eq_false h h2.1
     · exact of_decide_eq_false h h2.2)
    have v1 := dgV_lt s[2 * k].toNat
    have v2 := dgV_lt s[2 * k + 1].toNat
    clear lf left x1 x2
    generalize s[2 * k].toNat = c1 at *
    generalize s[2 * k + 1].toNat = c2 at *
    generalize dgV c1 = p at *
    generalize dgV c2 = q at *
    generalize dgB c1 = b1 at *
    generalize dgB c2 = b2 at *
    have rc := R.out.cell k (by rw [hexRow_len (by omega)]; omega)
    have rset := fun b => R.out.set k b
    rw [← hko] at rset
    obtain ⟨c0, cc⟩ : ∃ c0 : Int, wr.cell? ⟨w.heap.size, k, none⟩ = some (.int .u8 c0) := ⟨_, rc.1⟩
    have cf := rc.2
    clear rc
    cases b1
    · have fin : Hid (T = none) := bd.out (.inl rfl)
      clear nx bd rset R
      go_wp2_with fail
      refine (f1.out _).mono ?_
      rintro e w' ⟨rfl, rfl⟩
      clear f1
      go_wp2_with fail
      refine (f2.out _).mono ?_
      rintro e w' ⟨rfl, rfl⟩
      clear f2
      go_wp2
      go_ret2
      exact ⟨_, by rw [fin.out]; rfl, by rw [fin.out]; exact .inl ⟨rfl, rfl⟩, .inl rfl, B.out⟩
    · cases b2
      · have fin : Hid (T = none) := bd.out (.inr rfl)
        clear nx bd rset R
        go_wp2_with fail
        refine (f1.out _).mono ?_
        rintro e w' ⟨rfl, rfl⟩
        clear f1
        go_wp2_with fail
        refine (f2.out _).mono ?_
        rintro e w' ⟨rfl, rfl⟩
        clear f2
        go_wp2
        go_ret2
        exact ⟨_, by rw [fin.out]; rfl, by rw [fin.out]; exact .inl ⟨rfl, rfl⟩, .inl rfl, B.out⟩
      · have nl := nx.out rfl rfl
        have R2 := rset (16 * p + q)
        rw [hexRow_set (by omega), hko] at R2
        replace R2 : Hid (RowU (wr.setCell ⟨w.heap.size, k, none⟩ (.int .u8 ((16 * p + q : Nat) : Int))) w.heap.size L (hexRow L (out ++ [16 * p + q]))) := R2
        have hn := nib p q v1 v2
        generalize 16 * p + q = b at *
        clear nx bd rset R
        go_wp2_with fail
        refine (f1.out _).mono ?_
        rintro e w' ⟨rfl, rfl⟩
        clear f1
        go_wp2_with fail
        refine (f2.out _).mono ?_
        rintro e w' ⟨rfl, rfl⟩
        clear f2
        go_wp2
        exact ⟨⟨out ++ [b], by simp; omega, by simp [hko], R2, B.out.setCell (Nat.le_refl _) _, by simp only [List.length_append, List.length_singleton, hko]; exact nl⟩, by simp [intOf]; omega⟩
  · obtain rfl : k = L := by omega
    have fin : Hid (T = some out) := by
     have h := left.out
     rw [List.drop_eq_nil_of_le (by have := hL.out; simp; omega)] at h
     exact h.fin
    have X : Hid (BytesAt wr (.slice (some ⟨w.heap.size, 0, none⟩) k k) out) := by
     have h := R.out
     rw [hexRow_full hko] at h
     have h2 := h.at
     rw [hko] at h2
     exact h2
    clear left R hlt
    go_wp2
    go_ret2
    exact ⟨_, by rw [fin.out]; rfl, by rw [fin.out]; exact X.out, .inr ⟨_, _, _, rfl, Nat.le_refl _⟩, B.out⟩
theorem phex_none (s : ByteArray) (w : World) (h0 : (s.size : Int) = 0) :
 Calls Tryz.prog 130 #[.string s] w fun e w' => e = .returned (.tuple #[.slice none 0 0, .bool false]) ∧ w' = w := by
 go_enter Tryz.func130, Tryz.ntmps130
 go_wp2
 go_ret2
 exact ⟨rfl, rfl⟩
theorem phex_odd (s : ByteArray) (w : World) (hs : (s.size : Int) ≤ 5000) (h0 : 0 < (s.size : Int)) (hev : (s.size : Int) % 2 = 1) :
 Calls Tryz.prog 130 #[.string s] w fun e w' => e = .returned (.tuple #[.slice none 0 0, .bool false]) ∧ w' = w := by
 have hz : ((s.size : Int) == 0) = false := beq_eq_false_iff_ne.2 (by omega)
 have hq : ((s.size : Int) % 2 != 0) = true := by rw [hev]; rfl
 go_enter Tryz.func130, Tryz.ntmps130
 go_wp2
 go_ret2
 exact ⟨rfl, rfl⟩
theorem HH2 : HexP2 := fun s w hs => by
 have hl : s.data.toList.length = s.size := by simp
 by_cases h0 : s.size = 0
 · have e : hexR s.data.toList = none := by unfold hexR; rw [if_pos (List.length_eq_zero_iff.1 (hl.trans h0))]
   rw [e]
   refine (phex_none s w (by omega)).mono ?_
   rintro e w' ⟨rfl, rfl⟩
   exact ⟨_, rfl, .inl ⟨rfl, rfl⟩, .inl rfl, Below.refl _ _⟩
 · have e : hexR s.data.toList = hexO s.data.toList := by unfold hexR; rw [if_neg (fun q => h0 (by rw [← hl, q]; rfl))]
   rw [e]
   by_cases h1 : s.size % 2 = 1
   · rw [hex_odd _ (by rw [hl]; exact h1)]
     refine (phex_odd s w hs (by omega) (by omega)).mono ?_
     rintro e w' ⟨rfl, rfl⟩
     exact ⟨_, rfl, .inl ⟨rfl, rfl⟩, .inl rfl, Below.refl _ _⟩
   · exact phex_main s w hs (by omega) (s.size / 2) (by omega) _ rfl
theorem HH : HexP := fun s w hs => (HH2 s w hs).mono fun _ _ ⟨v, h1, h2, _, h3⟩ => ⟨v, h1, h2, h3⟩
end Go.Proofs.YthabffjgdhfbmaaGreatDoor
