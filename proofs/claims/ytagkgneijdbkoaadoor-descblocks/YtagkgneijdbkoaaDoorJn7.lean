/-
  Texts that belong together, one behind the other: ReadsK, Reads, Reads2, RefReads, RefReads2. Conditions: as each says.
-/
import Derived.Lib.IndexBytes
import Derived.Lib.Strings
import Derived.OpenShut
import Derived.ProofKit
import Derived.Test.YtagkgneijdbkoaaDoorJn3
import Derived.Test.YtagkgneijdbkoaaDoorJn5
import Derived.Test.YtagkgneijdbkoaaDoorProg
import Derived.WalkKit
import Derived.WalkLawsBesides
import Derived.WalkSpells
/-
  Plain facts on texts of digits, as they are gone through byte by byte. No function of a program is named here. No conditions but those that each says.
-/
namespace Go.Proofs.YtagkgneijdbkoaaDoor
open Go.RowKit
set_option linter.unusedVariables false

theorem ret_b' {x y : Bool} (h : y = x) : Ending.returned (.bool x) = .returned (.bool y) := by rw [h]
theorem byte_get (s : ByteArray) (k : Nat) (h : k < s.size) : s.data.toList[k]? = some s[k] := by
  rw [List.getElem?_eq_getElem (by simpa using h)]; rfl
theorem btake_snoc (s : ByteArray) (k : Nat) (h : k < s.size) : s.data.toList.take (k + 1) = s.data.toList.take k ++ [s[k]] := by
  rw [List.take_succ_eq_append_getElem (by simpa using h)]; rfl
theorem bytes_cons (s : ByteArray) (h : 0 < s.size) : s.data.toList = s[0] :: s.data.toList.drop 1 := by
  have := btake_snoc s 0 h
  have h2 := List.take_append_drop 1 s.data.toList
  rw [show (1 : Nat) = 0 + 1 from rfl, this] at h2
  simpa using h2.symm
theorem all_take (s : ByteArray) (k : Nat) (h : k < s.size) : (s.data.toList.take (k + 1)).all isd = ((s.data.toList.take k).all isd && isd s[k]) := by
  rw [btake_snoc s k h]; simp
theorem all_not (s : ByteArray) (k : Nat) (h : k < s.size) (hc : isd s[k] = false) : s.data.toList.all isd = false := by
  rw [List.all_eq_false]
  exact ⟨s[k], List.mem_of_getElem? (byte_get s k h), by simp [hc]⟩
theorem isd_low {c : UInt8} (h : (c.toNat : Int) < 48) : isd c = false := by unfold isd; simp; omega
theorem isd_high {c : UInt8} (h : (57 : Int) < (c.toNat : Int)) : isd c = false := by unfold isd; simp; omega
theorem isd_mid {c : UInt8} (h : (48 : Int) ≤ (c.toNat : Int)) (h2 : (c.toNat : Int) ≤ 57) : isd c = true := by unfold isd; simp; omega

theorem empty_yes {s : ByteArray} (h : s.size = 0) : s.toList = [] := by
  rw [ByteArray.toList_eq]; exact List.length_eq_zero_iff.1 (by simpa using h)
theorem empty_no {s : ByteArray} (h : 0 < s.size) : s.toList.isEmpty = false := by
  rw [ByteArray.toList_eq]
  cases e : s.data.toList with
  | nil => have : s.data.toList.length = s.size := by simp
           rw [e] at this; simp at this; omega
  | cons c t => rfl

def allB (l : List UInt8) : Bool := l.all isd

theorem plainB_loop {s : ByteArray} (h0 : 0 < s.size) (hd : ¬((s[0].toNat : Int) = 48 ∧ (1 : Int) < (s.size : Int))) : plainB s.data.toList = allB s.data.toList := by
  have hl : s.data.toList.length = s.size := by simp
  unfold plainB allB
  rw [hl]
  have e := bytes_cons s h0
  have h1 : s.data.toList.isEmpty = false := by rw [e]; rfl
  have h2 : s.data.toList.headD 0 = s[0] := by rw [e]; rfl
  rw [h1, h2]
  by_cases hc : s[0] = 48
  · have : (s[0].toNat : Int) = 48 := by rw [hc]; rfl
    have : ¬ 1 < s.size := by omega
    simp [this]
  · simp [hc]
theorem plainB_none {s : ByteArray} (h0 : s.size = 0) : plainB s.data.toList = false := by
  have : s.data.toList = [] := List.length_eq_zero_iff.1 (by simpa using h0)
  rw [this]; rfl
theorem plainB_zero {s : ByteArray} (h0 : 0 < s.size) (hc : (s[0].toNat : Int) = 48) (h1 : (1 : Int) < (s.size : Int)) : plainB s.data.toList = false := by
  have hl : s.data.toList.length = s.size := by simp
  unfold plainB
  rw [hl]
  have e := bytes_cons s h0
  have h2 : s.data.toList.headD 0 = s[0] := by rw [e]; rfl
  have h3 : s[0] = 48 := UInt8.toNat_inj.1 (by show s[0].toNat = 48; omega)
  rw [h2, h3]
  have : 1 < s.size := by omega
  simp [this]

theorem val_next (s : ByteArray) (k : Nat) (h : k < s.size) : val (s.data.toList.take (k + 1)) = 10 * val (s.data.toList.take k) + (s[k].toNat - 48) := by
  rw [btake_snoc s k h, val_snoc]
theorem all_get (s : ByteArray) (h : allB s.data.toList = true) (k : Nat) (hk : k < s.size) : 48 ≤ s[k].toNat ∧ s[k].toNat ≤ 57 := by
  unfold allB at h
  exact (isd_iff _).1 (List.all_eq_true.1 h _ (List.mem_of_getElem? (byte_get s k hk)))
theorem ltz_over {s : ByteArray} {k : Nat} (h : 9223372036854775808 < (val (s.data.toList.take k) : Int)) : fitV (-(val s.data.toList : Int)) = 0 ∧ fitB (-(val s.data.toList : Int)) = false := by
  have := val_take_le s.data.toList k
  exact ⟨(fit_no (by omega)).2, (fit_no (by omega)).1⟩

theorem plain_all {l : List UInt8} (h : plainB l = true) : allB l = true := by
  unfold plainB at h; unfold allB
  simp only [Bool.and_eq_true] at h
  exact h.2
theorem beq_list (t : ByteArray) : (t.toList == [48]) = (t.data.toList == [48]) := by rw [ByteArray.toList_eq]

theorem head_is (s : ByteArray) (h0 : 0 < s.size) : s.data.toList.head? = some s[0] := by rw [bytes_cons s h0]; rfl
theorem head_none (s : ByteArray) (h0 : ¬ 0 < s.size) : s.data.toList.head? = none := by
  have hl : s.data.toList.length = s.size := by simp
  have : s.data.toList = [] := List.length_eq_zero_iff.1 (by omega)
  rw [this]; rfl
theorem eq45 {c : UInt8} : ((c.toNat : Int) == 45) = true ↔ c = 45 := by
  constructor
  · intro h
    have : (c.toNat : Int) = 45 := by simpa using h
    exact UInt8.toNat_inj.1 (by show c.toNat = 45; omega)
  · intro h; subst h; rfl
end Go.Proofs.YtagkgneijdbkoaaDoor
/-
  What whole.plain and whole.lessThanZero return, called with any text. Conditions: the text fits memory; of the second: all its bytes are digits.
-/
namespace Go.Proofs.YtagkgneijdbkoaaDoor
open Go.RowKit
set_option linter.unusedVariables false

set_option maxHeartbeats 400000 in
theorem plain_loop (s : ByteArray) (w : World) (hs : s.size ≤ maxLen) (h0 : 0 < s.size) (hd : ¬((s[0].toNat : Int) = 48 ∧ (1 : Int) < (s.size : Int))) :
    Calls Tryd.prog 64 #[.string s] w fun e w' => e = .returned (.bool (allB s.data.toList)) ∧ w' = w := by
  unfold maxLen at hs
  have he := empty_no h0
  have hne : ¬ s.toList = [] := by
    intro e; rw [e] at he; simp at he
  rcases (by omega : ¬ ((s[0].toNat : Int) = 48) ∨ (s[0].toNat : Int) = 48 ∧ (s.size : Int) ≤ 1) with hc | ⟨hc, hc2⟩
  all_goals
    clear hd
    go_enter Tryd.func64, Tryd.ntmps64
    go_wp2
    go_loop [18] (fun i => ∃ k : Nat, k ≤ s.size ∧ i = .int .i64 (k : Int) ∧ Hid (allB (s.data.toList.take k) = true)) (fun i => s.size - (intOf i).toNat)
    case atStart => exact ⟨0, Nat.zero_le _, rfl, rfl⟩
    case round =>
      obtain ⟨k, hk, rfl, hall⟩ := hrel
      by_cases hlt : k < s.size
      · have hn : Hid (isd s[k] = false → allB s.data.toList = false) := all_not s k hlt
        have hy : Hid (isd s[k] = true → allB (s.data.toList.take (k + 1)) = true) := fun h => by
          have h2 := hall.out
          unfold allB at h2 ⊢
          rw [all_take s k hlt, h2, h]; rfl
        go_wp2
        all_goals
          first
            | (go_ret; first | exact ⟨ret_b' (hn.out (isd_low (by omega))), rfl⟩ | exact ⟨ret_b' (hn.out (isd_high (by omega))), rfl⟩)
            | (go_round
               case rel => exact ⟨k + 1, by omega, by go_num, hy.out (isd_mid (by omega) (by omega))⟩
               case measure => simp [intOf]; omega)
      · have hf : Hid (allB s.data.toList = true) := by
          have := hall.out
          rw [List.take_of_length_le (by simp; omega)] at this
          exact this
        go_wp2
        go_ret
        exact ⟨ret_b' hf.out, rfl⟩

set_option maxHeartbeats 400000 in
theorem wplain_any (s : ByteArray) (w : World) (hs : s.size ≤ maxLen) :
    Calls Tryd.prog 64 #[.string s] w fun e w' => e = .returned (.bool (plainB s.data.toList)) ∧ w' = w := by
  by_cases h0 : 0 < s.size
  · by_cases hd : (s[0].toNat : Int) = 48 ∧ (1 : Int) < (s.size : Int)
    · rw [plainB_zero h0 hd.1 hd.2]
      unfold maxLen at hs
      have he := empty_no h0
      have hne : ¬ s.toList = [] := by
        intro e; rw [e] at he; simp at he
      obtain ⟨hd1, hd2⟩ := hd
      go_enter Tryd.func64, Tryd.ntmps64
      go_wp2
      go_ret
      exact ⟨rfl, rfl⟩
    · rw [plainB_loop h0 hd]
      exact plain_loop s w hs h0 hd
  · rw [plainB_none (by omega)]
    have he := empty_yes (s := s) (by omega)
    unfold maxLen at hs
    go_enter Tryd.func64, Tryd.ntmps64
    go_wp2
    go_ret
    exact ⟨rfl, rfl⟩

set_option maxHeartbeats 1000000 in
theorem ltz_any (s : ByteArray) (w : World) (hs : s.size ≤ maxLen) (hall : allB s.data.toList = true) :
    Calls Tryd.prog 65 #[.string s] w fun e w' => e = .returned (.tuple #[.int .i64 (fitV (-(val s.data.toList : Int))), .bool (fitB (-(val s.data.toList : Int)))]) ∧ w' = w := by
  unfold maxLen at hs
  have HA : Hid _ := hall
  clear hall
  go_enter Tryd.func65, Tryd.ntmps65
  go_wp2
  go_loop [4, 10] (fun n i => ∃ k v : Nat, k ≤ s.size ∧ i = .int .i64 (k : Int) ∧ n = .int .i64 (-(v : Int)) ∧ (v : Int) ≤ 9223372036854775808 ∧ Hid (v = val (s.data.toList.take k))) (fun _ i => s.size - (intOf i).toNat)
  case atStart => exact ⟨0, 0, Nat.zero_le _, rfl, rfl, by omega, rfl⟩
  case round =>
    obtain ⟨k, v, hk, rfl, rfl, hv, hve⟩ := hrel
    by_cases hlt : k < s.size
    · obtain ⟨hd1, hd2⟩ := all_get s HA.out k hlt
      have hnx : Hid (val (s.data.toList.take (k + 1)) = 10 * v + (s[k].toNat - 48)) := by
        show _ = _
        rw [val_next s k hlt, ← hve.out]
      by_cases c1 : 9223372036854775808 < 10 * (v : Int)
      · have f1 : ∀ w, Calls Tryd.prog 72 #[.int .i64 (-(v : Int)), .int .i64 10] w fun e w' => e = .returned (.tuple #[.int .i64 0, .bool false]) ∧ w' = w := fun w => by
          have := mul_any (-(v : Int)) 10 w (by omega) (by omega)
          rw [(fit_no (by omega)).1, (fit_no (by omega)).2] at this
          exact this
        have F1 : Hid _ := f1
        clear f1
        go_wp2_with fail
        refine (F1.out _).mono ?_
        rintro e w' ⟨rfl, rfl⟩
        go_wp2
        go_ret2
        exact ⟨ret_nb (ltz_over (k := k + 1) (by rw [hnx.out]; omega)), rfl⟩
      · have f1 : ∀ w, Calls Tryd.prog 72 #[.int .i64 (-(v : Int)), .int .i64 10] w fun e w' => e = .returned (.tuple #[.int .i64 (-(v : Int) * 10), .bool true]) ∧ w' = w := fun w => by
          have := mul_any (-(v : Int)) 10 w (by omega) (by omega)
          rw [(fit_yes (by omega)).1, (fit_yes (by omega)).2] at this
          exact this
        have F1 : Hid _ := f1
        clear f1
        by_cases c2 : 9223372036854775808 < 10 * (v : Int) + ((s[k].toNat : Int) - 48)
        · have f2 : ∀ w, Calls Tryd.prog 73 #[.int .i64 (-(v : Int) * 10), .int .i64 (-((s[k].toNat : Int) - 48))] w fun e w' => e = .returned (.tuple #[.int .i64 0, .bool false]) ∧ w' = w := fun w => by
            have := add_any (-(v : Int) * 10) (-((s[k].toNat : Int) - 48)) w (by omega) (by omega)
            rw [(fit_no (by omega)).1, (fit_no (by omega)).2] at this
            exact this
          have F2 : Hid _ := f2
          clear f2
          go_wp2_with fail
          refine (F1.out _).mono ?_
          rintro e w' ⟨rfl, rfl⟩
          go_wp2_with fail
          refine (F2.out _).mono ?_
          rintro e w' ⟨rfl, rfl⟩
          go_wp2
          go_ret2
          exact ⟨ret_nb (ltz_over (k := k + 1) (by rw [hnx.out]; omega)), rfl⟩
        · have f2 : ∀ w, Calls Tryd.prog 73 #[.int .i64 (-(v : Int) * 10), .int .i64 (-((s[k].toNat : Int) - 48))] w fun e w' => e = .returned (.tuple #[.int .i64 (-(v : Int) * 10 + -((s[k].toNat : Int) - 48)), .bool true]) ∧ w' = w := fun w => by
            have := add_any (-(v : Int) * 10) (-((s[k].toNat : Int) - 48)) w (by omega) (by omega)
            rw [(fit_yes (by omega)).1, (fit_yes (by omega)).2] at this
            exact this
          have F2 : Hid _ := f2
          clear f2
          go_wp2_with fail
          refine (F1.out _).mono ?_
          rintro e w' ⟨rfl, rfl⟩
          go_wp2_with fail
          refine (F2.out _).mono ?_
          rintro e w' ⟨rfl, rfl⟩
          go_wp2
          go_round
          case rel => exact ⟨k + 1, val (s.data.toList.take (k + 1)), by omega, by go_num, by rw [hnx.out]; congr 1; omega, by rw [hnx.out]; omega, rfl⟩
          case measure => simp [intOf]; omega
    · have hf : Hid (v = val s.data.toList) := by
        have := hve.out
        rw [List.take_of_length_le (by simp; omega)] at this
        exact this
      go_wp2
      go_ret2
      exact ⟨ret_nb (by rw [← hf.out]; exact ⟨(fit_yes (by omega)).2, (fit_yes (by omega)).1⟩), rfl⟩
end Go.Proofs.YtagkgneijdbkoaaDoor
/-
  What whole.Read returns, called with any text: the number and no error, or 0 and which error. Condition: the text fits memory.
-/
namespace Go.Proofs.YtagkgneijdbkoaaDoor
open Go.RowKit
set_option linter.unusedVariables false

set_option maxHeartbeats 400000 in
theorem read_minus (s : ByteArray) (w : World) (hs : s.size ≤ maxLen) (h0 : 0 < s.size) (hm : ((s[0].toNat : Int) == 45) = true) :
    Calls Tryd.prog 58 #[.string s] w fun e w' => e = .returned (.tuple #[.int .i64 (coreV (s.data.toList.drop 1) true), .int .i64 (coreE (s.data.toList.drop 1) true)]) ∧ w' = w := by
  have ht : (s.extract 1 s.size).data.toList = s.data.toList.drop 1 := Lib.extract_to_end s 1
  have hts : (s.extract 1 s.size).size ≤ maxLen := by simp [maxLen] at hs ⊢; omega
  have hbe := beq_list (s.extract 1 s.size)
  have hlz : Hid (allB (s.extract 1 s.size).data.toList = true → ∀ w, Calls Tryd.prog 65 #[.string (s.extract 1 s.size)] w fun e w' => e = .returned (.tuple #[.int .i64 (fitV (-(val (s.extract 1 s.size).data.toList : Int))), .bool (fitB (-(val (s.extract 1 s.size).data.toList : Int)))]) ∧ w' = w) := fun h w => ltz_any _ w hts h
  have hpl : Hid (∀ w, Calls Tryd.prog 64 #[.string (s.extract 1 s.size)] w fun e w' => e = .returned (.bool (plainB (s.extract 1 s.size).data.toList)) ∧ w' = w) := fun w => wplain_any _ w hts
  unfold maxLen at hs
  rw [ht] at hbe hlz hpl
  clear ht hts
  generalize s.data.toList.drop 1 = l at *
  by_cases hp : plainB l = true
  · rw [hp] at hpl
    by_cases hz : (l == [48]) = true
    · rw [hz] at hbe
      have H : Hid (coreV l true = 0 ∧ coreE l true = 6) := core_bad (by unfold badB; rw [hp, hz]; rfl)
      clear hlz
      go_enter Tryd.func58, Tryd.ntmps58
      go_wp2_with fail
      refine (hpl.out _).mono ?_
      rintro e w' ⟨rfl, rfl⟩
      clear hpl
      go_wp2
      go_ret2
      exact ⟨ret_nn H.out, rfl⟩
    · replace hz : (l == [48]) = false := by simpa using hz
      rw [hz] at hbe
      have hb : badB l true = false := by unfold badB; rw [hp, hz]; rfl
      have F := hlz.out (plain_all hp)
      by_cases hf : fitB (-(val l : Int)) = true
      · have H : Hid (coreV l true = -(val l : Int) ∧ coreE l true = 0) := core_fine hb hf
        have e1 : fitV (-(val l : Int)) = -(val l : Int) := by unfold fitV; rw [if_pos hf]
        rw [hf, e1] at F
        have F1 : Hid _ := F
        clear F hlz hf e1 hp hz hb
        generalize (val l : Int) = v at *
        go_enter Tryd.func58, Tryd.ntmps58
        go_wp2_with fail
        refine (hpl.out _).mono ?_
        rintro e w' ⟨rfl, rfl⟩
        go_wp2_with fail
        refine (F1.out _).mono ?_
        rintro e w' ⟨rfl, rfl⟩
        clear hpl F1
        go_wp2
        go_ret2
        exact ⟨ret_nn H.out, rfl⟩
      · replace hf : fitB (-(val l : Int)) = false := by simpa using hf
        have H : Hid (coreV l true = 0 ∧ coreE l true = 2) := core_over hb hf
        have e1 : fitV (-(val l : Int)) = 0 := by unfold fitV; rw [hf]; rfl
        rw [hf, e1] at F
        have F1 : Hid _ := F
        clear F hlz hf e1 hp hz hb
        go_enter Tryd.func58, Tryd.ntmps58
        go_wp2_with fail
        refine (hpl.out _).mono ?_
        rintro e w' ⟨rfl, rfl⟩
        go_wp2_with fail
        refine (F1.out _).mono ?_
        rintro e w' ⟨rfl, rfl⟩
        clear hpl F1
        go_wp2
        go_ret2
        exact ⟨ret_nn H.out, rfl⟩
  · replace hp : plainB l = false := by simpa using hp
    rw [hp] at hpl
    have H : Hid (coreV l true = 0 ∧ coreE l true = 6) := core_bad (by unfold badB; rw [hp]; rfl)
    clear hlz
    go_enter Tryd.func58, Tryd.ntmps58
    go_wp2_with fail
    refine (hpl.out _).mono ?_
    rintro e w' ⟨rfl, rfl⟩
    clear hpl
    go_wp2
    go_ret2
    exact ⟨ret_nn H.out, rfl⟩

set_option maxHeartbeats 1000000 in
theorem read_plus (s : ByteArray) (w : World) (hs : s.size ≤ maxLen) (hm : (∃ h0 : 0 < s.size, ((s[0].toNat : Int) == 45) = false) ∨ ¬ 0 < s.size) :
    Calls Tryd.prog 58 #[.string s] w fun e w' => e = .returned (.tuple #[.int .i64 (coreV s.data.toList false), .int .i64 (coreE s.data.toList false)]) ∧ w' = w := by
  have hlz : Hid (allB s.data.toList = true → ∀ w, Calls Tryd.prog 65 #[.string s] w fun e w' => e = .returned (.tuple #[.int .i64 (fitV (-(val s.data.toList : Int))), .bool (fitB (-(val s.data.toList : Int)))]) ∧ w' = w) := fun h w => ltz_any _ w hs h
  have hpl : Hid (∀ w, Calls Tryd.prog 64 #[.string s] w fun e w' => e = .returned (.bool (plainB s.data.toList)) ∧ w' = w) := fun w => wplain_any _ w hs
  unfold maxLen at hs
  generalize s.data.toList = l at *
  by_cases hp : plainB l = true
  · rw [hp] at hpl
    have hb : badB l false = false := by unfold badB; rw [hp]; rfl
    have F := hlz.out (plain_all hp)
    by_cases hf : fitB (-(val l : Int)) = true
    · have e1 : fitV (-(val l : Int)) = -(val l : Int) := by unfold fitV; rw [if_pos hf]
      rw [hf, e1] at F
      have F1 : Hid _ := F
      have hbd := (fitB_iff _).1 hf
      by_cases hg : fitB (val l : Int) = true
      · have H : Hid (coreV l false = (val l : Int) ∧ coreE l false = 0) := core_fine hb hg
        have G : Hid (∀ w, Calls Tryd.prog 66 #[.int .i64 (-(val l : Int))] w fun e w' => e = .returned (.tuple #[.int .i64 (val l : Int), .bool true]) ∧ w' = w) := fun w => by
          have := neg_any (-(val l : Int)) w hbd
          rw [Int.neg_neg, hg, show fitV (val l : Int) = (val l : Int) by unfold fitV; rw [if_pos hg]] at this
          exact this
        clear F hlz hf e1 hp hb hg hbd
        generalize (val l : Int) = v at *
        rcases hm with ⟨h0, hm⟩ | hm
        all_goals
          go_enter Tryd.func58, Tryd.ntmps58
          go_wp2_with fail
          refine (hpl.out _).mono ?_
          rintro e w' ⟨rfl, rfl⟩
          go_wp2_with fail
          refine (F1.out _).mono ?_
          rintro e w' ⟨rfl, rfl⟩
          go_wp2_with fail
          refine (G.out _).mono ?_
          rintro e w' ⟨rfl, rfl⟩
          clear hpl F1 G
          go_wp2
          go_ret2
          exact ⟨ret_nn H.out, rfl⟩
      · replace hg : fitB (val l : Int) = false := by simpa using hg
        have H : Hid (coreV l false = 0 ∧ coreE l false = 2) := core_over hb hg
        have G : Hid (∀ w, Calls Tryd.prog 66 #[.int .i64 (-(val l : Int))] w fun e w' => e = .returned (.tuple #[.int .i64 0, .bool false]) ∧ w' = w) := fun w => by
          have := neg_any (-(val l : Int)) w hbd
          rw [Int.neg_neg, hg, show fitV (val l : Int) = 0 by unfold fitV; rw [hg]; rfl] at this
          exact this
        clear F hlz hf e1 hp hb hg hbd
        generalize (val l : Int) = v at *
        rcases hm with ⟨h0, hm⟩ | hm
        all_goals
          go_enter Tryd.func58, Tryd.ntmps58
          go_wp2_with fail
          refine (hpl.out _).mono ?_
          rintro e w' ⟨rfl, rfl⟩
          go_wp2_with fail
          refine (F1.out _).mono ?_
          rintro e w' ⟨rfl, rfl⟩
          go_wp2_with fail
          refine (G.out _).mono ?_
          rintro e w' ⟨rfl, rfl⟩
          clear hpl F1 G
          go_wp2
          go_ret2
          exact ⟨ret_nn H.out, rfl⟩
    · replace hf : fitB (-(val l : Int)) = false := by simpa using hf
      have hg : fitB (val l : Int) = false := by
        cases e : fitB (val l : Int)
        · rfl
        · have h1 := (fitB_iff _).1 e
          rw [(fit_yes (by omega)).1] at hf
          cases hf
      have H : Hid (coreV l false = 0 ∧ coreE l false = 2) := core_over hb hg
      have e1 : fitV (-(val l : Int)) = 0 := by unfold fitV; rw [hf]; rfl
      rw [hf, e1] at F
      have F1 : Hid _ := F
      clear F hlz hf e1 hp hb hg
      rcases hm with ⟨h0, hm⟩ | hm
      all_goals
        go_enter Tryd.func58, Tryd.ntmps58
        go_wp2_with fail
        refine (hpl.out _).mono ?_
        rintro e w' ⟨rfl, rfl⟩
        go_wp2_with fail
        refine (F1.out _).mono ?_
        rintro e w' ⟨rfl, rfl⟩
        clear hpl F1
        go_wp2
        go_ret2
        exact ⟨ret_nn H.out, rfl⟩
  · replace hp : plainB l = false := by simpa using hp
    rw [hp] at hpl
    have H : Hid (coreV l false = 0 ∧ coreE l false = 6) := core_bad (by unfold badB; rw [hp]; rfl)
    clear hlz
    rcases hm with ⟨h0, hm⟩ | hm
    all_goals
      go_enter Tryd.func58, Tryd.ntmps58
      go_wp2_with fail
      refine (hpl.out _).mono ?_
      rintro e w' ⟨rfl, rfl⟩
      clear hpl
      go_wp2
      go_ret2
      exact ⟨ret_nn H.out, rfl⟩

theorem read_any (s : ByteArray) (w : World) (hs : s.size ≤ maxLen) :
    Calls Tryd.prog 58 #[.string s] w fun e w' => e = .returned (.tuple #[.int .i64 (readV s.data.toList), .int .i64 (readE s.data.toList)]) ∧ w' = w := by
  unfold readV readE
  by_cases h0 : 0 < s.size
  · rw [head_is s h0]
    by_cases hc : s[0] = 45
    · rw [if_pos (by rw [hc]), if_pos (by rw [hc])]
      exact read_minus s w hs h0 (eq45.2 hc)
    · have hn : ¬ some s[0] = some 45 := fun e => hc (Option.some.inj e)
      rw [if_neg hn, if_neg hn]
      refine read_plus s w hs (.inl ⟨h0, ?_⟩)
      cases e : ((s[0].toNat : Int) == 45)
      · rfl
      · exact absurd (eq45.1 e) hc
  · rw [head_none s h0]
    rw [if_neg (by intro h; cases h), if_neg (by intro h; cases h)]
    exact read_plus s w hs (.inr h0)
end Go.Proofs.YtagkgneijdbkoaaDoor
/-
  What the document's own Read returns, called with any text: the number and no error, or 0 and which error. Condition: the text fits memory.
-/
namespace Go.Proofs.YtagkgneijdbkoaaDoor
open Go.RowKit
set_option linter.unusedVariables false

theorem size_len (t : ByteArray) : t.data.toList.length = t.size := by simp
theorem eq48 {c : UInt8} : (c.toNat : Int) = 48 ↔ c = 48 := by
  constructor
  · intro h; exact UInt8.toNat_inj.1 (by show c.toNat = 48; omega)
  · intro h; subst h; rfl

theorem bad_none {t : ByteArray} {m : Bool} (h : t.size = 0) : badB t.data.toList m = true := by
  unfold badB; rw [plainB_none h]; rfl
theorem bad_zero {t : ByteArray} {m : Bool} (h0 : 0 < t.size) (hc : (t[0].toNat : Int) = 48) (h : 1 < t.size ∨ m = true) : badB t.data.toList m = true := by
  unfold badB
  by_cases h1 : 1 < t.size
  · rw [plainB_zero h0 hc (by omega)]; rfl
  · have hm : m = true := by
      cases h with
      | inl h => exact absurd h h1
      | inr h => exact h
    have e := bytes_cons t h0
    have hd : t.data.toList.drop 1 = [] := List.drop_eq_nil_iff.2 (by rw [size_len]; omega)
    rw [hd, eq48.1 hc] at e
    rw [hm, e]; rfl
theorem bad_not_all {t : ByteArray} {m : Bool} (h : allB t.data.toList = false) : badB t.data.toList m = true := by
  unfold badB plainB; unfold allB at h; rw [h]; simp
theorem fine_all {t : ByteArray} {m : Bool} (h0 : 0 < t.size) (hok : ¬ ((t[0].toNat : Int) = 48) ∨ ((t[0].toNat : Int) = 48 ∧ (t.size : Int) ≤ 1 ∧ m = false)) (h : allB t.data.toList = true) : badB t.data.toList m = false := by
  unfold badB
  rw [plainB_loop h0 (by omega), h]
  cases hok with
  | inl hn =>
    have e := bytes_cons t h0
    have : ¬ t.data.toList = [48] := by
      intro x; rw [x] at e
      have h2 := (List.cons.inj e).1
      exact hn (by rw [← h2]; rfl)
    simp [this]
  | inr hh => rw [hh.2.2]; rfl
theorem big_over {t : ByteArray} {m : Bool} (h0 : 0 < t.size) (hn : ¬ ((t[0].toNat : Int) = 48)) (h19 : 19 < t.size) (h : allB t.data.toList = true) : fitB (sgn m (val t.data.toList)) = false := by
  have hd := all_get t h 0 h0
  have hv := val_ge t[0] (t.data.toList.drop 1) ((isd_iff _).2 hd) (fun e => hn (eq48.2 e))
  rw [← bytes_cons t h0] at hv
  have hl : (t.data.toList.drop 1).length = t.size - 1 := by simp
  have hp : 10 ^ 19 ≤ 10 ^ (t.data.toList.drop 1).length := Nat.pow_le_pow_right (by omega) (by omega)
  have h10 : (10 : Nat) ^ 19 = 10000000000000000000 := by decide
  rw [h10] at hp
  unfold sgn
  cases m
  · exact (fit_no (by simp; omega)).1
  · exact (fit_no (by simp; omega)).1

theorem small_val {t : ByteArray} {k v : Nat} (h : allB (t.data.toList.take k) = true) (hv : v = val (t.data.toList.take k)) (hk : k ≤ 18) : (v : Int) ≤ 1000000000000000000 := by
  unfold allB at h
  have h1 := val_lt _ h
  have h2 : 10 ^ (t.data.toList.take k).length ≤ 10 ^ 18 := Nat.pow_le_pow_right (by omega) (by have := List.length_take_le k t.data.toList; omega)
  have h10 : (10 : Nat) ^ 18 = 1000000000000000000 := by decide
  rw [h10] at h2
  omega
theorem small_val' {t : ByteArray} {v : Nat} (h : allB t.data.toList = true) (hv : v = val t.data.toList) (hk : t.size ≤ 19) : (v : Int) ≤ 10000000000000000000 := by
  unfold allB at h
  have h1 := val_lt _ h
  have h2 : 10 ^ t.data.toList.length ≤ 10 ^ 19 := Nat.pow_le_pow_right (by omega) (by rw [size_len]; omega)
  have h10 : (10 : Nat) ^ 19 = 10000000000000000000 := by decide
  rw [h10] at h2
  omega

theorem end_minus_no {l : List UInt8} {v : Int} (hb : badB l true = false) (hv : v = (val l : Int)) (h : 9223372036854775808 < v) : coreV l true = 0 ∧ coreE l true = 2 :=
  core_over hb (by unfold sgn; exact (fit_no (by simp; omega)).1)
theorem end_minus_yes {l : List UInt8} {v : Int} (hb : badB l true = false) (hv : v = (val l : Int)) (h : v ≤ 9223372036854775808) : coreV l true = wrap64 (IntKind.u64.wrap (-v)) ∧ coreE l true = 0 := by
  rw [neg_u64 (by omega)]
  have := core_fine hb (by unfold sgn; exact (fit_yes (by simp; omega)).1)
  rw [hv]
  simpa [sgn] using this
theorem end_plus_no {l : List UInt8} {v : Int} (hb : badB l false = false) (hv : v = (val l : Int)) (h : 9223372036854775808 ≤ v) : coreV l false = 0 ∧ coreE l false = 2 :=
  core_over hb (by unfold sgn; exact (fit_no (by simp; omega)).1)
theorem end_plus_yes {l : List UInt8} {v : Int} (hb : badB l false = false) (hv : v = (val l : Int)) (h : v < 9223372036854775808) : coreV l false = v ∧ coreE l false = 0 := by
  have := core_fine hb (by unfold sgn; exact (fit_yes (by simp; omega)).1)
  rw [hv]
  simpa [sgn] using this

set_option maxHeartbeats 2000000 in
theorem rread_over (s t : ByteArray) (m : Bool) (w : World) (hs : s.size ≤ maxLen) (ht : t.size ≤ maxLen)
    (hc : (m = true ∧ s.extract 1 s.size = t ∧ ∃ h0 : 0 < s.size, ((s[0].toNat : Int) == 45) = true) ∨ (m = false ∧ s = t ∧ ∃ h0 : 0 < s.size, ((s[0].toNat : Int) == 45) = false))
    (h0 : 0 < t.size) (hn : ¬ ((t[0].toNat : Int) = 48)) (h19 : (19 : Int) < (t.size : Int)) :
    Calls Tryd.prog 43 #[.string s] w fun e w' => e = .returned (.tuple #[.int .i64 (coreV t.data.toList m), .int .i64 (coreE t.data.toList m)]) ∧ w' = w := by
  unfold maxLen at hs ht
  have hz : ((t.size : Int) == 0) = false := beq_eq_false_iff_ne.2 (by omega)
  have hn2 : ((t[0].toNat : Int) == 48) = false := by simp [hn]
  rcases hc with ⟨rfl, hx, hs0, hm⟩ | ⟨rfl, rfl, hs0, hm⟩
  case' inr => generalize s = t at *
  all_goals
    go_enter Tryd.func43, Tryd.ntmps43
    go_wp2
    go_loop [6, 8] (fun n i => ∃ k : Nat, k ≤ t.size ∧ i = .int .i64 (k : Int) ∧ n = .int .u64 0 ∧ Hid (allB (t.data.toList.take k) = true)) (fun _ i => t.size - (intOf i).toNat)
    case atStart => exact ⟨0, Nat.zero_le _, rfl, rfl, rfl⟩
    case round =>
      obtain ⟨k, hk, rfl, rfl, hall⟩ := hrel
      by_cases hlt : k < t.size
      · have hno : ∀ m, Hid (isd t[k] = false → coreV t.data.toList m = 0 ∧ coreE t.data.toList m = 6) := fun m h => core_bad (bad_not_all (all_not t k hlt h))
        have hyes : Hid (isd t[k] = true → allB (t.data.toList.take (k + 1)) = true) := fun h => by
          have h2 := hall.out
          unfold allB at h2 ⊢
          rw [all_take t k hlt, h2, h]; rfl
        go_wp2
        all_goals
          first
            | (go_ret2; first | exact ⟨ret_nn ((hno _).out (isd_low (by omega))), rfl⟩ | exact ⟨ret_nn ((hno _).out (isd_high (by omega))), rfl⟩)
            | (go_round
               case rel => exact ⟨k + 1, by omega, by go_num, rfl, hyes.out (isd_mid (by omega) (by omega))⟩
               case measure => simp [intOf]; omega)
      · have hf : ∀ m, (m = true → (t[0].toNat : Int) ≠ 48) → Hid (coreV t.data.toList m = 0 ∧ coreE t.data.toList m = 2) := fun m _ => by
          have hal := hall.out
          rw [List.take_of_length_le (by rw [size_len]; omega)] at hal
          exact core_over (fine_all h0 (.inl hn) hal) (big_over h0 hn (by omega) hal)
        have H1 := hf true (fun _ => hn)
        have H2 := hf false (fun _ => hn)
        clear hf
        go_wp2
        go_ret2
        first | exact ⟨ret_nn H1.out, rfl⟩ | exact ⟨ret_nn H2.out, rfl⟩

set_option maxHeartbeats 4000000 in
theorem rread_short (s t : ByteArray) (m : Bool) (w : World) (hs : s.size ≤ maxLen) (ht : t.size ≤ maxLen)
    (hc : (m = true ∧ s.extract 1 s.size = t ∧ ∃ h0 : 0 < s.size, ((s[0].toNat : Int) == 45) = true) ∨ (m = false ∧ s = t ∧ ∃ h0 : 0 < s.size, ((s[0].toNat : Int) == 45) = false))
    (h0 : 0 < t.size) (hok : (((t[0].toNat : Int) == 48) = false) ∨ ((((t[0].toNat : Int) == 48) = true) ∧ (t.size : Int) ≤ 1 ∧ m = false)) (h19 : (t.size : Int) ≤ 19) :
    Calls Tryd.prog 43 #[.string s] w fun e w' => e = .returned (.tuple #[.int .i64 (coreV t.data.toList m), .int .i64 (coreE t.data.toList m)]) ∧ w' = w := by
  unfold maxLen at hs ht
  have hz : ((t.size : Int) == 0) = false := beq_eq_false_iff_ne.2 (by omega)
  have hdec : decide ((19 : Int) < (t.size : Int)) = false := decide_eq_false (by omega)
  have hbad : Hid (allB t.data.toList = true → badB t.data.toList m = false) := fun h => fine_all h0 (by simpa using hok) h
  rcases hc with ⟨rfl, hx, hs0, hm⟩ | ⟨rfl, rfl, hs0, hm⟩
  case' inr => generalize s = t at *
  all_goals
    rcases hok with hn2 | ⟨hn2, hn3, hn4⟩
    all_goals try (exfalso; cases hn4; done)
    all_goals
      go_enter Tryd.func43, Tryd.ntmps43
      go_wp2
      go_loop [6, 8] (fun n i => ∃ k v : Nat, k ≤ t.size ∧ i = .int .i64 (k : Int) ∧ n = .int .u64 (v : Int) ∧ Hid (v = val (t.data.toList.take k)) ∧ Hid (allB (t.data.toList.take k) = true)) (fun _ i => t.size - (intOf i).toNat)
      case atStart => exact ⟨0, 0, Nat.zero_le _, rfl, rfl, rfl, rfl⟩
      case round =>
        obtain ⟨k, v, hk, rfl, rfl, hve, hall⟩ := hrel
        by_cases hlt : k < t.size
        · have hno : ∀ m, Hid (isd t[k] = false → coreV t.data.toList m = 0 ∧ coreE t.data.toList m = 6) := fun m h => core_bad (bad_not_all (all_not t k hlt h))
          have hyes : Hid (isd t[k] = true → allB (t.data.toList.take (k + 1)) = true) := fun h => by
            have h2 := hall.out
            unfold allB at h2 ⊢
            rw [all_take t k hlt, h2, h]; rfl
          have hnx : Hid (val (t.data.toList.take (k + 1)) = 10 * v + (t[k].toNat - 48)) := by
            show _ = _
            rw [val_next t k hlt, ← hve.out]
          have hv := small_val hall.out hve.out (by omega)
          go_wp2
          all_goals
            first
              | (go_ret2; first | exact ⟨ret_nn ((hno _).out (isd_low (by omega))), rfl⟩ | exact ⟨ret_nn ((hno _).out (isd_high (by omega))), rfl⟩)
              | (go_round
                 case rel => exact ⟨k + 1, val (t.data.toList.take (k + 1)), by omega, by go_num, by rw [hnx.out]; congr 1; omega, rfl, hyes.out (isd_mid (by omega) (by omega))⟩
                 case measure => simp [intOf]; omega)
        · have hal : Hid (allB t.data.toList = true) := by
            have hal := hall.out
            rw [List.take_of_length_le (by rw [size_len]; omega)] at hal
            exact hal
          have hvl : Hid (v = val t.data.toList) := by
            have := hve.out
            rw [List.take_of_length_le (by rw [size_len]; omega)] at this
            exact this
          have hv := small_val' hal.out hvl.out (by omega)
          have HB : Hid _ := hbad.out hal.out
          have hvi : Hid ((v : Int) = (val t.data.toList : Int)) := by show _ = _; rw [← hvl.out]
          have hv0 : 0 ≤ (v : Int) := by omega
          clear hbad hve hall hvl
          generalize (v : Int) = V at *
          have hq : (V = 9223372036854775808 ∧ (V == 9223372036854775808) = true) ∨ (V < 9223372036854775808 ∧ (V == 9223372036854775808) = false) ∨ (9223372036854775808 < V ∧ (V == 9223372036854775808) = false) := by
            by_cases h : V = 9223372036854775808
            · exact .inl ⟨h, beq_iff_eq.2 h⟩
            · by_cases h2 : V < 9223372036854775808
              · exact .inr (.inl ⟨h2, beq_eq_false_iff_ne.2 h⟩)
              · exact .inr (.inr ⟨by omega, beq_eq_false_iff_ne.2 h⟩)
          rcases hq with ⟨q1, q2⟩ | ⟨q1, q2⟩ | ⟨q1, q2⟩
          all_goals
            have Q1 : Hid _ := q1
            clear q1
            go_wp2
            all_goals
              go_ret2
              have q1 := Q1.out
              refine ⟨ret_nn ?_, rfl⟩
              first
                | exact end_minus_no HB.out hvi.out (by omega)
                | exact end_minus_yes HB.out hvi.out (by omega)
                | exact end_plus_no HB.out hvi.out (by omega)
                | exact end_plus_yes HB.out hvi.out (by omega)
                | (rw [Go.IntWalk.wrap64_in _ (by omega)]; exact end_plus_yes HB.out hvi.out (by omega))
end Go.Proofs.YtagkgneijdbkoaaDoor
/-
  The document's own Read, whole: what it returns of any text. Condition: the text fits memory.
-/
namespace Go.Proofs.YtagkgneijdbkoaaDoor
open Go.RowKit
set_option linter.unusedVariables false

set_option maxHeartbeats 1000000 in
theorem rread_none_minus (s t : ByteArray) (w : World) (hs : s.size ≤ maxLen) (hx : s.extract 1 s.size = t) (h0 : 0 < s.size) (hm : ((s[0].toNat : Int) == 45) = true) (hz0 : t.size = 0) :
    Calls Tryd.prog 43 #[.string s] w fun e w' => e = .returned (.tuple #[.int .i64 (coreV t.data.toList true), .int .i64 (coreE t.data.toList true)]) ∧ w' = w := by
  unfold maxLen at hs
  have hz : ((t.size : Int) == 0) = true := beq_iff_eq.2 (by omega)
  have hz2 : t = ByteArray.empty := ByteArray.ext (Array.eq_empty_of_size_eq_zero hz0)
  have H : Hid (coreV t.data.toList true = 0 ∧ coreE t.data.toList true = 6) := core_bad (bad_none hz0)
  clear hz0
  go_enter Tryd.func43, Tryd.ntmps43
  go_wp2
  go_ret2
  exact ⟨ret_nn H.out, rfl⟩
set_option maxHeartbeats 1000000 in
theorem rread_none_plus (t : ByteArray) (w : World) (hz0 : t.size = 0) :
    Calls Tryd.prog 43 #[.string t] w fun e w' => e = .returned (.tuple #[.int .i64 (coreV t.data.toList false), .int .i64 (coreE t.data.toList false)]) ∧ w' = w := by
  have H : Hid (coreV t.data.toList false = 0 ∧ coreE t.data.toList false = 6) := core_bad (bad_none hz0)
  have hz2 : t = ByteArray.empty := ByteArray.ext (Array.eq_empty_of_size_eq_zero hz0)
  subst hz2
  go_enter Tryd.func43, Tryd.ntmps43
  go_wp2
  go_ret2
  exact ⟨ret_nn H.out, rfl⟩

set_option maxHeartbeats 1000000 in
theorem rread_zero (s t : ByteArray) (m : Bool) (w : World) (hs : s.size ≤ maxLen) (ht : t.size ≤ maxLen)
    (hc : (m = true ∧ s.extract 1 s.size = t ∧ ∃ h0 : 0 < s.size, ((s[0].toNat : Int) == 45) = true) ∨ (m = false ∧ s = t ∧ ∃ h0 : 0 < s.size, ((s[0].toNat : Int) == 45) = false))
    (h0 : 0 < t.size) (hn2 : ((t[0].toNat : Int) == 48) = true) (hok : (1 : Int) < (t.size : Int) ∨ ((t.size : Int) ≤ 1 ∧ m = true)) :
    Calls Tryd.prog 43 #[.string s] w fun e w' => e = .returned (.tuple #[.int .i64 (coreV t.data.toList m), .int .i64 (coreE t.data.toList m)]) ∧ w' = w := by
  unfold maxLen at hs ht
  have hz : ((t.size : Int) == 0) = false := beq_eq_false_iff_ne.2 (by omega)
  have H : Hid (coreV t.data.toList m = 0 ∧ coreE t.data.toList m = 6) := core_bad (bad_zero h0 (by simpa using hn2) (by
    rcases hok with h | ⟨_, h⟩
    · exact .inl (by omega)
    · exact .inr h))
  rcases hc with ⟨rfl, hx, hs0, hm⟩ | ⟨rfl, rfl, hs0, hm⟩
  case' inr => generalize s = t at *
  all_goals
    rcases hok with hk | ⟨hk, hk2⟩
    all_goals try (exfalso; cases hk2; done)
    all_goals
      go_enter Tryd.func43, Tryd.ntmps43
      go_wp2
      go_ret2
      exact ⟨ret_nn H.out, rfl⟩

theorem rread_any (s : ByteArray) (w : World) (hs : s.size ≤ maxLen) :
    Calls Tryd.prog 43 #[.string s] w fun e w' => e = .returned (.tuple #[.int .i64 (readV s.data.toList), .int .i64 (readE s.data.toList)]) ∧ w' = w := by
  have core : ∀ (t : ByteArray) (m : Bool), t.size ≤ maxLen → ((m = true ∧ s.extract 1 s.size = t ∧ ∃ h0 : 0 < s.size, ((s[0].toNat : Int) == 45) = true) ∨ (m = false ∧ s = t ∧ ∃ h0 : 0 < s.size, ((s[0].toNat : Int) == 45) = false)) → 0 < t.size →
      Calls Tryd.prog 43 #[.string s] w fun e w' => e = .returned (.tuple #[.int .i64 (coreV t.data.toList m), .int .i64 (coreE t.data.toList m)]) ∧ w' = w := by
    intro t m ht hc h0
    by_cases h48 : (t[0].toNat : Int) = 48
    · by_cases h1 : 1 < t.size
      · exact rread_zero s t m w hs ht hc h0 (beq_iff_eq.2 h48) (.inl (by omega))
      · cases m
        · exact rread_short s t false w hs ht hc h0 (.inr ⟨beq_iff_eq.2 h48, by omega, rfl⟩) (by omega)
        · exact rread_zero s t true w hs ht hc h0 (beq_iff_eq.2 h48) (.inr ⟨by omega, rfl⟩)
    · by_cases h19 : 19 < t.size
      · exact rread_over s t m w hs ht hc h0 h48 (by omega)
      · exact rread_short s t m w hs ht hc h0 (.inl (beq_eq_false_iff_ne.2 h48)) (by omega)
  unfold readV readE
  by_cases h0 : 0 < s.size
  · rw [head_is s h0]
    by_cases hc : s[0] = 45
    · rw [if_pos (by rw [hc]), if_pos (by rw [hc])]
      have ht : (s.extract 1 s.size).data.toList = s.data.toList.drop 1 := Lib.extract_to_end s 1
      have hts : (s.extract 1 s.size).size ≤ maxLen := by simp [maxLen] at hs ⊢; omega
      rw [← ht]
      by_cases hz : (s.extract 1 s.size).size = 0
      · exact rread_none_minus s _ w hs rfl h0 (eq45.2 hc) hz
      · exact core _ true hts (.inl ⟨rfl, rfl, h0, eq45.2 hc⟩) (by omega)
    · have hn : ¬ some s[0] = some 45 := fun e => hc (Option.some.inj e)
      rw [if_neg hn, if_neg hn]
      refine core s false hs (.inr ⟨rfl, rfl, h0, ?_⟩) h0
      cases e : ((s[0].toNat : Int) == 45)
      · rfl
      · exact absurd (eq45.1 e) hc
  · rw [head_none s h0]
    rw [if_neg (by intro h; cases h), if_neg (by intro h; cases h)]
    exact rread_none_plus s w (by omega)

end Go.Proofs.YtagkgneijdbkoaaDoor
