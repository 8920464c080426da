/-
  What whole.plain and whole.lessThanZero return, called with any text. Conditions: the text fits memory; of the second: all its bytes are digits.
-/
import Derived.Test.YtlhjhefbindlkaaTexts
import Derived.Test.YtlhjhefbindlkaaReadFacts
import Derived.Lib.Strings
import Derived.Lib.IndexBytes
namespace Go.Proofs.Ytlhjhefbindlkaa
open Go.RowKit
set_option linter.unusedVariables false

theorem ret_b' {x y : Bool} (h : y = x) : Ending.returned (.bool x) = .returned (.bool y) := by rw [h]
theorem byte_get (s : ByteArray) (k : Nat) (h : k < s.size) : s.data.toList[k]? = some s[k] := by
  rw [List.getElem?_eq_getElem (by simpa using h)]; rfl
theorem take_snoc (s : ByteArray) (k : Nat) (h : k < s.size) : s.data.toList.take (k + 1) = s.data.toList.take k ++ [s[k]] := by
  rw [List.take_succ_eq_append_getElem (by simpa using h)]; rfl
theorem bytes_cons (s : ByteArray) (h : 0 < s.size) : s.data.toList = s[0] :: s.data.toList.drop 1 := by
  have := take_snoc s 0 h
  have h2 := List.take_append_drop 1 s.data.toList
  rw [show (1 : Nat) = 0 + 1 from rfl, this] at h2
  simpa using h2.symm
theorem all_take (s : ByteArray) (k : Nat) (h : k < s.size) : (s.data.toList.take (k + 1)).all isd = ((s.data.toList.take k).all isd && isd s[k]) := by
  rw [take_snoc s k h]; simp
theorem all_not (s : ByteArray) (k : Nat) (h : k < s.size) (hc : isd s[k] = false) : s.data.toList.all isd = false := by
  rw [List.all_eq_false]
  exact ⟨s[k], List.mem_of_getElem? (byte_get s k h), by simp [hc]⟩
theorem isd_low {c : UInt8} (h : (c.toNat : Int) < 48) : isd c = false := by unfold isd; simp; omega
theorem isd_high {c : UInt8} (h : (57 : Int) < (c.toNat : Int)) : isd c = false := by unfold isd; simp; omega
theorem isd_mid {c : UInt8} (h : (48 : Int) ≤ (c.toNat : Int)) (h2 : (c.toNat : Int) ≤ 57) : isd c = true := by unfold isd; simp; omega

theorem empty_yes {s : ByteArray} (h : s.size = 0) : s.toList = [] := by
  rw [ByteArray.toList_eq]; exact List.length_eq_zero_iff.1 (by simpa using h)
theorem empty_no {s : ByteArray} (h : 0 < s.size) : s.toList.isEmpty = false := by
  rw [ByteArray.toList_eq]
  cases e : s.data.toList with
  | nil => have : s.data.toList.length = s.size := by simp
           rw [e] at this; simp at this; omega
  | cons c t => rfl

def allB (l : List UInt8) : Bool := l.all isd

set_option maxHeartbeats 400000 in
theorem plain_loop (s : ByteArray) (w : World) (hs : s.size ≤ maxLen) (h0 : 0 < s.size) (hd : ¬((s[0].toNat : Int) = 48 ∧ (1 : Int) < (s.size : Int))) :
    Calls Try.prog 44 #[.string s] w fun e w' => e = .returned (.bool (allB s.data.toList)) ∧ w' = w := by
  unfold maxLen at hs
  have he := empty_no h0
  have hne : ¬ s.toList = [] := by
    intro e; rw [e] at he; simp at he
  rcases (by omega : ¬ ((s[0].toNat : Int) = 48) ∨ (s[0].toNat : Int) = 48 ∧ (s.size : Int) ≤ 1) with hc | ⟨hc, hc2⟩
  all_goals
    clear hd
    go_enter Try.func44, Try.ntmps44
    go_wp2
    go_loop [18] (fun i => ∃ k : Nat, k ≤ s.size ∧ i = .int .i64 (k : Int) ∧ Hid (allB (s.data.toList.take k) = true)) (fun i => s.size - (intOf i).toNat)
    case atStart => exact ⟨0, Nat.zero_le _, rfl, rfl⟩
    case round =>
      obtain ⟨k, hk, rfl, hall⟩ := hrel
      by_cases hlt : k < s.size
      · have hn : Hid (isd s[k] = false → allB s.data.toList = false) := all_not s k hlt
        have hy : Hid (isd s[k] = true → allB (s.data.toList.take (k + 1)) = true) := fun h => by
          have h2 := hall.out
          unfold allB at h2 ⊢
          rw [all_take s k hlt, h2, h]; rfl
        go_wp2
        all_goals
          first
            | (go_ret; first | exact ⟨ret_b' (hn.out (isd_low (by omega))), rfl⟩ | exact ⟨ret_b' (hn.out (isd_high (by omega))), rfl⟩)
            | (go_round
               case rel => exact ⟨k + 1, by omega, by go_num, hy.out (isd_mid (by omega) (by omega))⟩
               case measure => simp [intOf]; omega)
      · have hf : Hid (allB s.data.toList = true) := by
          have := hall.out
          rw [List.take_of_length_le (by simp; omega)] at this
          exact this
        go_wp2
        go_ret
        exact ⟨ret_b' hf.out, rfl⟩

theorem plainB_loop {s : ByteArray} (h0 : 0 < s.size) (hd : ¬((s[0].toNat : Int) = 48 ∧ (1 : Int) < (s.size : Int))) : plainB s.data.toList = allB s.data.toList := by
  have hl : s.data.toList.length = s.size := by simp
  unfold plainB allB
  rw [hl]
  have e := bytes_cons s h0
  have h1 : s.data.toList.isEmpty = false := by rw [e]; rfl
  have h2 : s.data.toList.headD 0 = s[0] := by rw [e]; rfl
  rw [h1, h2]
  by_cases hc : s[0] = 48
  · have : (s[0].toNat : Int) = 48 := by rw [hc]; rfl
    have : ¬ 1 < s.size := by omega
    simp [this]
  · simp [hc]
theorem plainB_none {s : ByteArray} (h0 : s.size = 0) : plainB s.data.toList = false := by
  have : s.data.toList = [] := List.length_eq_zero_iff.1 (by simpa using h0)
  rw [this]; rfl
theorem plainB_zero {s : ByteArray} (h0 : 0 < s.size) (hc : (s[0].toNat : Int) = 48) (h1 : (1 : Int) < (s.size : Int)) : plainB s.data.toList = false := by
  have hl : s.data.toList.length = s.size := by simp
  unfold plainB
  rw [hl]
  have e := bytes_cons s h0
  have h2 : s.data.toList.headD 0 = s[0] := by rw [e]; rfl
  have h3 : s[0] = 48 := UInt8.toNat_inj.1 (by show s[0].toNat = 48; omega)
  rw [h2, h3]
  have : 1 < s.size := by omega
  simp [this]

set_option maxHeartbeats 400000 in
theorem wplain_any (s : ByteArray) (w : World) (hs : s.size ≤ maxLen) :
    Calls Try.prog 44 #[.string s] w fun e w' => e = .returned (.bool (plainB s.data.toList)) ∧ w' = w := by
  by_cases h0 : 0 < s.size
  · by_cases hd : (s[0].toNat : Int) = 48 ∧ (1 : Int) < (s.size : Int)
    · rw [plainB_zero h0 hd.1 hd.2]
      unfold maxLen at hs
      have he := empty_no h0
      have hne : ¬ s.toList = [] := by
        intro e; rw [e] at he; simp at he
      obtain ⟨hd1, hd2⟩ := hd
      go_enter Try.func44, Try.ntmps44
      go_wp2
      go_ret
      exact ⟨rfl, rfl⟩
    · rw [plainB_loop h0 hd]
      exact plain_loop s w hs h0 hd
  · rw [plainB_none (by omega)]
    have he := empty_yes (s := s) (by omega)
    unfold maxLen at hs
    go_enter Try.func44, Try.ntmps44
    go_wp2
    go_ret
    exact ⟨rfl, rfl⟩

theorem val_next (s : ByteArray) (k : Nat) (h : k < s.size) : val (s.data.toList.take (k + 1)) = 10 * val (s.data.toList.take k) + (s[k].toNat - 48) := by
  rw [take_snoc s k h, val_snoc]
theorem all_get (s : ByteArray) (h : allB s.data.toList = true) (k : Nat) (hk : k < s.size) : 48 ≤ s[k].toNat ∧ s[k].toNat ≤ 57 := by
  unfold allB at h
  exact (isd_iff _).1 (List.all_eq_true.1 h _ (List.mem_of_getElem? (byte_get s k hk)))
theorem ltz_over {s : ByteArray} {k : Nat} (h : 9223372036854775808 < (val (s.data.toList.take k) : Int)) : fitV (-(val s.data.toList : Int)) = 0 ∧ fitB (-(val s.data.toList : Int)) = false := by
  have := val_take_le s.data.toList k
  exact ⟨(fit_no (by omega)).2, (fit_no (by omega)).1⟩

set_option maxHeartbeats 1000000 in
theorem ltz_any (s : ByteArray) (w : World) (hs : s.size ≤ maxLen) (hall : allB s.data.toList = true) :
    Calls Try.prog 45 #[.string s] w fun e w' => e = .returned (.tuple #[.int .i64 (fitV (-(val s.data.toList : Int))), .bool (fitB (-(val s.data.toList : Int)))]) ∧ w' = w := by
  unfold maxLen at hs
  have HA : Hid _ := hall
  clear hall
  go_enter Try.func45, Try.ntmps45
  go_wp2
  go_loop [4, 10] (fun n i => ∃ k v : Nat, k ≤ s.size ∧ i = .int .i64 (k : Int) ∧ n = .int .i64 (-(v : Int)) ∧ (v : Int) ≤ 9223372036854775808 ∧ Hid (v = val (s.data.toList.take k))) (fun _ i => s.size - (intOf i).toNat)
  case atStart => exact ⟨0, 0, Nat.zero_le _, rfl, rfl, by omega, rfl⟩
  case round =>
    obtain ⟨k, v, hk, rfl, rfl, hv, hve⟩ := hrel
    by_cases hlt : k < s.size
    · obtain ⟨hd1, hd2⟩ := all_get s HA.out k hlt
      have hnx : Hid (val (s.data.toList.take (k + 1)) = 10 * v + (s[k].toNat - 48)) := by
        show _ = _
        rw [val_next s k hlt, ← hve.out]
      by_cases c1 : 9223372036854775808 < 10 * (v : Int)
      · have f1 : ∀ w, Calls Try.prog 32 #[.int .i64 (-(v : Int)), .int .i64 10] w fun e w' => e = .returned (.tuple #[.int .i64 0, .bool false]) ∧ w' = w := fun w => by
          have := mul_any (-(v : Int)) 10 w (by omega) (by omega)
          rw [(fit_no (by omega)).1, (fit_no (by omega)).2] at this
          exact this
        have F1 : Hid _ := f1
        clear f1
        go_wp2_with fail
        refine (F1.out _).mono ?_
        rintro e w' ⟨rfl, rfl⟩
        go_wp2
        go_ret2
        exact ⟨ret_nb (ltz_over (k := k + 1) (by rw [hnx.out]; omega)), rfl⟩
      · have f1 : ∀ w, Calls Try.prog 32 #[.int .i64 (-(v : Int)), .int .i64 10] w fun e w' => e = .returned (.tuple #[.int .i64 (-(v : Int) * 10), .bool true]) ∧ w' = w := fun w => by
          have := mul_any (-(v : Int)) 10 w (by omega) (by omega)
          rw [(fit_yes (by omega)).1, (fit_yes (by omega)).2] at this
          exact this
        have F1 : Hid _ := f1
        clear f1
        by_cases c2 : 9223372036854775808 < 10 * (v : Int) + ((s[k].toNat : Int) - 48)
        · have f2 : ∀ w, Calls Try.prog 33 #[.int .i64 (-(v : Int) * 10), .int .i64 (-((s[k].toNat : Int) - 48))] w fun e w' => e = .returned (.tuple #[.int .i64 0, .bool false]) ∧ w' = w := fun w => by
            have := add_any (-(v : Int) * 10) (-((s[k].toNat : Int) - 48)) w (by omega) (by omega)
            rw [(fit_no (by omega)).1, (fit_no (by omega)).2] at this
            exact this
          have F2 : Hid _ := f2
          clear f2
          go_wp2_with fail
          refine (F1.out _).mono ?_
          rintro e w' ⟨rfl, rfl⟩
          go_wp2_with fail
          refine (F2.out _).mono ?_
          rintro e w' ⟨rfl, rfl⟩
          go_wp2
          go_ret2
          exact ⟨ret_nb (ltz_over (k := k + 1) (by rw [hnx.out]; omega)), rfl⟩
        · have f2 : ∀ w, Calls Try.prog 33 #[.int .i64 (-(v : Int) * 10), .int .i64 (-((s[k].toNat : Int) - 48))] w fun e w' => e = .returned (.tuple #[.int .i64 (-(v : Int) * 10 + -((s[k].toNat : Int) - 48)), .bool true]) ∧ w' = w := fun w => by
            have := add_any (-(v : Int) * 10) (-((s[k].toNat : Int) - 48)) w (by omega) (by omega)
            rw [(fit_yes (by omega)).1, (fit_yes (by omega)).2] at this
            exact this
          have F2 : Hid _ := f2
          clear f2
          go_wp2_with fail
          refine (F1.out _).mono ?_
          rintro e w' ⟨rfl, rfl⟩
          go_wp2_with fail
          refine (F2.out _).mono ?_
          rintro e w' ⟨rfl, rfl⟩
          go_wp2
          go_round
          case rel => exact ⟨k + 1, val (s.data.toList.take (k + 1)), by omega, by go_num, by rw [hnx.out]; congr 1; omega, by rw [hnx.out]; omega, rfl⟩
          case measure => simp [intOf]; omega
    · have hf : Hid (v = val s.data.toList) := by
        have := hve.out
        rw [List.take_of_length_le (by simp; omega)] at this
        exact this
      go_wp2
      go_ret2
      exact ⟨ret_nb (by rw [← hf.out]; exact ⟨(fit_yes (by omega)).2, (fit_yes (by omega)).1⟩), rfl⟩
end Go.Proofs.Ytlhjhefbindlkaa
