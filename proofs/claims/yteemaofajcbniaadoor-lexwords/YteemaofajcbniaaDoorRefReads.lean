/-
  What the document's own Read returns, called with any text: the number and no error, or 0 and which error. Condition: the text fits memory.
-/
import Derived.Test.YteemaofajcbniaaDoorReadsK
namespace Go.Proofs.YteemaofajcbniaaDoor
open Go.RowKit
set_option linter.unusedVariables false

theorem size_len (t : ByteArray) : t.data.toList.length = t.size := by simp
theorem eq48 {c : UInt8} : (c.toNat : Int) = 48 ↔ c = 48 := by
  constructor
  · intro h; exact UInt8.toNat_inj.1 (by show c.toNat = 48; omega)
  · intro h; subst h; rfl

theorem bad_none {t : ByteArray} {m : Bool} (h : t.size = 0) : badB t.data.toList m = true := by
  unfold badB; rw [plainB_none h]; rfl
theorem bad_zero {t : ByteArray} {m : Bool} (h0 : 0 < t.size) (hc : (t[0].toNat : Int) = 48) (h : 1 < t.size ∨ m = true) : badB t.data.toList m = true := by
  unfold badB
  by_cases h1 : 1 < t.size
  · rw [plainB_zero h0 hc (by omega)]; rfl
  · have hm : m = true := by
      cases h with
      | inl h => exact absurd h h1
      | inr h => exact h
    have e := bytes_cons t h0
    have hd : t.data.toList.drop 1 = [] := List.drop_eq_nil_iff.2 (by rw [size_len]; omega)
    rw [hd, eq48.1 hc] at e
    rw [hm, e]; rfl
theorem bad_not_all {t : ByteArray} {m : Bool} (h : allB t.data.toList = false) : badB t.data.toList m = true := by
  unfold badB plainB; unfold allB at h; rw [h]; simp
theorem fine_all {t : ByteArray} {m : Bool} (h0 : 0 < t.size) (hok : ¬ ((t[0].toNat : Int) = 48) ∨ ((t[0].toNat : Int) = 48 ∧ (t.size : Int) ≤ 1 ∧ m = false)) (h : allB t.data.toList = true) : badB t.data.toList m = false := by
  unfold badB
  rw [plainB_loop h0 (by omega), h]
  cases hok with
  | inl hn =>
    have e := bytes_cons t h0
    have : ¬ t.data.toList = [48] := by
      intro x; rw [x] at e
      have h2 := (List.cons.inj e).1
      exact hn (by rw [← h2]; rfl)
    simp [this]
  | inr hh => rw [hh.2.2]; rfl
theorem big_over {t : ByteArray} {m : Bool} (h0 : 0 < t.size) (hn : ¬ ((t[0].toNat : Int) = 48)) (h19 : 19 < t.size) (h : allB t.data.toList = true) : fitB (sgn m (val t.data.toList)) = false := by
  have hd := all_get t h 0 h0
  have hv := val_ge t[0] (t.data.toList.drop 1) ((isd_iff _).2 hd) (fun e => hn (eq48.2 e))
  rw [← bytes_cons t h0] at hv
  have hl : (t.data.toList.drop 1).length = t.size - 1 := by simp
  have hp : 10 ^ 19 ≤ 10 ^ (t.data.toList.drop 1).length := Nat.pow_le_pow_right (by omega) (by omega)
  have h10 : (10 : Nat) ^ 19 = 10000000000000000000 := by decide
  rw [h10] at hp
  unfold sgn
  cases m
  · exact (fit_no (by simp; omega)).1
  · exact (fit_no (by simp; omega)).1

theorem small_val {t : ByteArray} {k v : Nat} (h : allB (t.data.toList.take k) = true) (hv : v = val (t.data.toList.take k)) (hk : k ≤ 18) : (v : Int) ≤ 1000000000000000000 := by
  unfold allB at h
  have h1 := val_lt _ h
  have h2 : 10 ^ (t.data.toList.take k).length ≤ 10 ^ 18 := Nat.pow_le_pow_right (by omega) (by have := List.length_take_le k t.data.toList; omega)
  have h10 : (10 : Nat) ^ 18 = 1000000000000000000 := by decide
  rw [h10] at h2
  omega
theorem small_val' {t : ByteArray} {v : Nat} (h : allB t.data.toList = true) (hv : v = val t.data.toList) (hk : t.size ≤ 19) : (v : Int) ≤ 10000000000000000000 := by
  unfold allB at h
  have h1 := val_lt _ h
  have h2 : 10 ^ t.data.toList.length ≤ 10 ^ 19 := Nat.pow_le_pow_right (by omega) (by rw [size_len]; omega)
  have h10 : (10 : Nat) ^ 19 = 10000000000000000000 := by decide
  rw [h10] at h2
  omega

theorem end_minus_no {l : List UInt8} {v : Int} (hb : badB l true = false) (hv : v = (val l : Int)) (h : 9223372036854775808 < v) : coreV l true = 0 ∧ coreE l true = 2 :=
  core_over hb (by unfold sgn; exact (fit_no (by simp; omega)).1)
theorem end_minus_yes {l : List UInt8} {v : Int} (hb : badB l true = false) (hv : v = (val l : Int)) (h : v ≤ 9223372036854775808) : coreV l true = wrap64 (IntKind.u64.wrap (-v)) ∧ coreE l true = 0 := by
  rw [neg_u64 (by omega)]
  have := core_fine hb (by unfold sgn; exact (fit_yes (by simp; omega)).1)
  rw [hv]
  simpa [sgn] using this
theorem end_plus_no {l : List UInt8} {v : Int} (hb : badB l false = false) (hv : v = (val l : Int)) (h : 9223372036854775808 ≤ v) : coreV l false = 0 ∧ coreE l false = 2 :=
  core_over hb (by unfold sgn; exact (fit_no (by simp; omega)).1)
theorem end_plus_yes {l : List UInt8} {v : Int} (hb : badB l false = false) (hv : v = (val l : Int)) (h : v < 9223372036854775808) : coreV l false = v ∧ coreE l false = 0 := by
  have := core_fine hb (by unfold sgn; exact (fit_yes (by simp; omega)).1)
  rw [hv]
  simpa [sgn] using this

set_option maxHeartbeats 2000000 in
theorem rread_over (s t : ByteArray) (m : Bool) (w : World) (hs : s.size ≤ maxLen) (ht : t.size ≤ maxLen)
    (hc : (m = true ∧ s.extract 1 s.size = t ∧ ∃ h0 : 0 < s.size, ((s[0].toNat : Int) == 45) = true) ∨ (m = false ∧ s = t ∧ ∃ h0 : 0 < s.size, ((s[0].toNat : Int) == 45) = false))
    (h0 : 0 < t.size) (hn : ¬ ((t[0].toNat : Int) = 48)) (h19 : (19 : Int) < (t.size : Int)) :
    Calls Tryd.prog 22 #[.string s] w fun e w' => e = .returned (.tuple #[.int .i64 (coreV t.data.toList m), .int .i64 (coreE t.data.toList m)]) ∧ w' = w := by
  unfold maxLen at hs ht
  have hz : ((t.size : Int) == 0) = false := beq_eq_false_iff_ne.2 (by omega)
  have hn2 : ((t[0].toNat : Int) == 48) = false := by simp [hn]
  rcases hc with ⟨rfl, hx, hs0, hm⟩ | ⟨rfl, rfl, hs0, hm⟩
  case' inr => generalize s = t at *
  all_goals
    go_enter Tryd.func22, Tryd.ntmps22
    go_wp2
    go_loop [6, 8] (fun n i => ∃ k : Nat, k ≤ t.size ∧ i = .int .i64 (k : Int) ∧ n = .int .u64 0 ∧ Hid (allB (t.data.toList.take k) = true)) (fun _ i => t.size - (intOf i).toNat)
    case atStart => exact ⟨0, Nat.zero_le _, rfl, rfl, rfl⟩
    case round =>
      obtain ⟨k, hk, rfl, rfl, hall⟩ := hrel
      by_cases hlt : k < t.size
      · have hno : ∀ m, Hid (isd t[k] = false → coreV t.data.toList m = 0 ∧ coreE t.data.toList m = 6) := fun m h => core_bad (bad_not_all (all_not t k hlt h))
        have hyes : Hid (isd t[k] = true → allB (t.data.toList.take (k + 1)) = true) := fun h => by
          have h2 := hall.out
          unfold allB at h2 ⊢
          rw [all_take t k hlt, h2, h]; rfl
        go_wp2
        all_goals
          first
            | (go_ret2; first | exact ⟨ret_nn ((hno _).out (isd_low (by omega))), rfl⟩ | exact ⟨ret_nn ((hno _).out (isd_high (by omega))), rfl⟩)
            | (go_round
               case rel => exact ⟨k + 1, by omega, by go_num, rfl, hyes.out (isd_mid (by omega) (by omega))⟩
               case measure => simp [intOf]; omega)
      · have hf : ∀ m, (m = true → (t[0].toNat : Int) ≠ 48) → Hid (coreV t.data.toList m = 0 ∧ coreE t.data.toList m = 2) := fun m _ => by
          have hal := hall.out
          rw [List.take_of_length_le (by rw [size_len]; omega)] at hal
          exact core_over (fine_all h0 (.inl hn) hal) (big_over h0 hn (by omega) hal)
        have H1 := hf true (fun _ => hn)
        have H2 := hf false (fun _ => hn)
        clear hf
        go_wp2
        go_ret2
        first | exact ⟨ret_nn H1.out, rfl⟩ | exact ⟨ret_nn H2.out, rfl⟩

set_option maxHeartbeats 4000000 in
theorem rread_short (s t : ByteArray) (m : Bool) (w : World) (hs : s.size ≤ maxLen) (ht : t.size ≤ maxLen)
    (hc : (m = true ∧ s.extract 1 s.size = t ∧ ∃ h0 : 0 < s.size, ((s[0].toNat : Int) == 45) = true) ∨ (m = false ∧ s = t ∧ ∃ h0 : 0 < s.size, ((s[0].toNat : Int) == 45) = false))
    (h0 : 0 < t.size) (hok : (((t[0].toNat : Int) == 48) = false) ∨ ((((t[0].toNat : Int) == 48) = true) ∧ (t.size : Int) ≤ 1 ∧ m = false)) (h19 : (t.size : Int) ≤ 19) :
    Calls Tryd.prog 22 #[.string s] w fun e w' => e = .returned (.tuple #[.int .i64 (coreV t.data.toList m), .int .i64 (coreE t.data.toList m)]) ∧ w' = w := by
  unfold maxLen at hs ht
  have hz : ((t.size : Int) == 0) = false := beq_eq_false_iff_ne.2 (by omega)
  have hdec : decide ((19 : Int) < (t.size : Int)) = false := decide_eq_false (by omega)
  have hbad : Hid (allB t.data.toList = true → badB t.data.toList m = false) := fun h => fine_all h0 (by simpa using hok) h
  rcases hc with ⟨rfl, hx, hs0, hm⟩ | ⟨rfl, rfl, hs0, hm⟩
  case' inr => generalize s = t at *
  all_goals
    rcases hok with hn2 | ⟨hn2, hn3, hn4⟩
    all_goals try (exfalso; cases hn4; done)
    all_goals
      go_enter Tryd.func22, Tryd.ntmps22
      go_wp2
      go_loop [6, 8] (fun n i => ∃ k v : Nat, k ≤ t.size ∧ i = .int .i64 (k : Int) ∧ n = .int .u64 (v : Int) ∧ Hid (v = val (t.data.toList.take k)) ∧ Hid (allB (t.data.toList.take k) = true)) (fun _ i => t.size - (intOf i).toNat)
      case atStart => exact ⟨0, 0, Nat.zero_le _, rfl, rfl, rfl, rfl⟩
      case round =>
        obtain ⟨k, v, hk, rfl, rfl, hve, hall⟩ := hrel
        by_cases hlt : k < t.size
        · have hno : ∀ m, Hid (isd t[k] = false → coreV t.data.toList m = 0 ∧ coreE t.data.toList m = 6) := fun m h => core_bad (bad_not_all (all_not t k hlt h))
          have hyes : Hid (isd t[k] = true → allB (t.data.toList.take (k + 1)) = true) := fun h => by
            have h2 := hall.out
            unfold allB at h2 ⊢
            rw [all_take t k hlt, h2, h]; rfl
          have hnx : Hid (val (t.data.toList.take (k + 1)) = 10 * v + (t[k].toNat - 48)) := by
            show _ = _
            rw [val_next t k hlt, ← hve.out]
          have hv := small_val hall.out hve.out (by omega)
          go_wp2
          all_goals
            first
              | (go_ret2; first | exact ⟨ret_nn ((hno _).out (isd_low (by omega))), rfl⟩ | exact ⟨ret_nn ((hno _).out (isd_high (by omega))), rfl⟩)
              | (go_round
                 case rel => exact ⟨k + 1, val (t.data.toList.take (k + 1)), by omega, by go_num, by rw [hnx.out]; congr 1; omega, rfl, hyes.out (isd_mid (by omega) (by omega))⟩
                 case measure => simp [intOf]; omega)
        · have hal : Hid (allB t.data.toList = true) := by
            have hal := hall.out
            rw [List.take_of_length_le (by rw [size_len]; omega)] at hal
            exact hal
          have hvl : Hid (v = val t.data.toList) := by
            have := hve.out
            rw [List.take_of_length_le (by rw [size_len]; omega)] at this
            exact this
          have hv := small_val' hal.out hvl.out (by omega)
          have HB : Hid _ := hbad.out hal.out
          have hvi : Hid ((v : Int) = (val t.data.toList : Int)) := by show _ = _; rw [← hvl.out]
          have hv0 : 0 ≤ (v : Int) := by omega
          clear hbad hve hall hvl
          generalize (v : Int) = V at *
          have hq : (V = 9223372036854775808 ∧ (V == 9223372036854775808) = true) ∨ (V < 9223372036854775808 ∧ (V == 9223372036854775808) = false) ∨ (9223372036854775808 < V ∧ (V == 9223372036854775808) = false) := by
            by_cases h : V = 9223372036854775808
            · exact .inl ⟨h, beq_iff_eq.2 h⟩
            · by_cases h2 : V < 9223372036854775808
              · exact .inr (.inl ⟨h2, beq_eq_false_iff_ne.2 h⟩)
              · exact .inr (.inr ⟨by omega, beq_eq_false_iff_ne.2 h⟩)
          rcases hq with ⟨q1, q2⟩ | ⟨q1, q2⟩ | ⟨q1, q2⟩
          all_goals
            have Q1 : Hid _ := q1
            clear q1
            go_wp2
            all_goals
              go_ret2
              have q1 := Q1.out
              refine ⟨ret_nn ?_, rfl⟩
              first
                | exact end_minus_no HB.out hvi.out (by omega)
                | exact end_minus_yes HB.out hvi.out (by omega)
                | exact end_plus_no HB.out hvi.out (by omega)
                | exact end_plus_yes HB.out hvi.out (by omega)
                | (rw [Go.IntWalk.wrap64_in _ (by omega)]; exact end_plus_yes HB.out hvi.out (by omega))
end Go.Proofs.YteemaofajcbniaaDoor
