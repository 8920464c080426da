/-
  What whole.Read returns, called with any text: the number and no error, or 0 and which error. Condition: the text fits memory.
-/
import Derived.Test.YteemaofajcbniaaDoorReads
namespace Go.Proofs.YteemaofajcbniaaDoor
open Go.RowKit
set_option linter.unusedVariables false

set_option maxHeartbeats 400000 in
theorem read_minus (s : ByteArray) (w : World) (hs : s.size ≤ maxLen) (h0 : 0 < s.size) (hm : ((s[0].toNat : Int) == 45) = true) :
    Calls Tryd.prog 21 #[.string s] w fun e w' => e = .returned (.tuple #[.int .i64 (coreV (s.data.toList.drop 1) true), .int .i64 (coreE (s.data.toList.drop 1) true)]) ∧ w' = w := by
  have ht : (s.extract 1 s.size).data.toList = s.data.toList.drop 1 := Lib.extract_to_end s 1
  have hts : (s.extract 1 s.size).size ≤ maxLen := by simp [maxLen] at hs ⊢; omega
  have hbe := beq_list (s.extract 1 s.size)
  have hlz : Hid (allB (s.extract 1 s.size).data.toList = true → ∀ w, Calls Tryd.prog 31 #[.string (s.extract 1 s.size)] w fun e w' => e = .returned (.tuple #[.int .i64 (fitV (-(val (s.extract 1 s.size).data.toList : Int))), .bool (fitB (-(val (s.extract 1 s.size).data.toList : Int)))]) ∧ w' = w) := fun h w => ltz_any _ w hts h
  have hpl : Hid (∀ w, Calls Tryd.prog 30 #[.string (s.extract 1 s.size)] w fun e w' => e = .returned (.bool (plainB (s.extract 1 s.size).data.toList)) ∧ w' = w) := fun w => wplain_any _ w hts
  unfold maxLen at hs
  rw [ht] at hbe hlz hpl
  clear ht hts
  generalize s.data.toList.drop 1 = l at *
  by_cases hp : plainB l = true
  · rw [hp] at hpl
    by_cases hz : (l == [48]) = true
    · rw [hz] at hbe
      have H : Hid (coreV l true = 0 ∧ coreE l true = 6) := core_bad (by unfold badB; rw [hp, hz]; rfl)
      clear hlz
      go_enter Tryd.func21, Tryd.ntmps21
      go_wp2_with fail
      refine (hpl.out _).mono ?_
      rintro e w' ⟨rfl, rfl⟩
      clear hpl
      go_wp2
      go_ret2
      exact ⟨ret_nn H.out, rfl⟩
    · replace hz : (l == [48]) = false := by simpa using hz
      rw [hz] at hbe
      have hb : badB l true = false := by unfold badB; rw [hp, hz]; rfl
      have F := hlz.out (plain_all hp)
      by_cases hf : fitB (-(val l : Int)) = true
      · have H : Hid (coreV l true = -(val l : Int) ∧ coreE l true = 0) := core_fine hb hf
        have e1 : fitV (-(val l : Int)) = -(val l : Int) := by unfold fitV; rw [if_pos hf]
        rw [hf, e1] at F
        have F1 : Hid _ := F
        clear F hlz hf e1 hp hz hb
        generalize (val l : Int) = v at *
        go_enter Tryd.func21, Tryd.ntmps21
        go_wp2_with fail
        refine (hpl.out _).mono ?_
        rintro e w' ⟨rfl, rfl⟩
        go_wp2_with fail
        refine (F1.out _).mono ?_
        rintro e w' ⟨rfl, rfl⟩
        clear hpl F1
        go_wp2
        go_ret2
        exact ⟨ret_nn H.out, rfl⟩
      · replace hf : fitB (-(val l : Int)) = false := by simpa using hf
        have H : Hid (coreV l true = 0 ∧ coreE l true = 2) := core_over hb hf
        have e1 : fitV (-(val l : Int)) = 0 := by unfold fitV; rw [hf]; rfl
        rw [hf, e1] at F
        have F1 : Hid _ := F
        clear F hlz hf e1 hp hz hb
        go_enter Tryd.func21, Tryd.ntmps21
        go_wp2_with fail
        refine (hpl.out _).mono ?_
        rintro e w' ⟨rfl, rfl⟩
        go_wp2_with fail
        refine (F1.out _).mono ?_
        rintro e w' ⟨rfl, rfl⟩
        clear hpl F1
        go_wp2
        go_ret2
        exact ⟨ret_nn H.out, rfl⟩
  · replace hp : plainB l = false := by simpa using hp
    rw [hp] at hpl
    have H : Hid (coreV l true = 0 ∧ coreE l true = 6) := core_bad (by unfold badB; rw [hp]; rfl)
    clear hlz
    go_enter Tryd.func21, Tryd.ntmps21
    go_wp2_with fail
    refine (hpl.out _).mono ?_
    rintro e w' ⟨rfl, rfl⟩
    clear hpl
    go_wp2
    go_ret2
    exact ⟨ret_nn H.out, rfl⟩

set_option maxHeartbeats 1000000 in
theorem read_plus (s : ByteArray) (w : World) (hs : s.size ≤ maxLen) (hm : (∃ h0 : 0 < s.size, ((s[0].toNat : Int) == 45) = false) ∨ ¬ 0 < s.size) :
    Calls Tryd.prog 21 #[.string s] w fun e w' => e = .returned (.tuple #[.int .i64 (coreV s.data.toList false), .int .i64 (coreE s.data.toList false)]) ∧ w' = w := by
  have hlz : Hid (allB s.data.toList = true → ∀ w, Calls Tryd.prog 31 #[.string s] w fun e w' => e = .returned (.tuple #[.int .i64 (fitV (-(val s.data.toList : Int))), .bool (fitB (-(val s.data.toList : Int)))]) ∧ w' = w) := fun h w => ltz_any _ w hs h
  have hpl : Hid (∀ w, Calls Tryd.prog 30 #[.string s] w fun e w' => e = .returned (.bool (plainB s.data.toList)) ∧ w' = w) := fun w => wplain_any _ w hs
  unfold maxLen at hs
  generalize s.data.toList = l at *
  by_cases hp : plainB l = true
  · rw [hp] at hpl
    have hb : badB l false = false := by unfold badB; rw [hp]; rfl
    have F := hlz.out (plain_all hp)
    by_cases hf : fitB (-(val l : Int)) = true
    · have e1 : fitV (-(val l : Int)) = -(val l : Int) := by unfold fitV; rw [if_pos hf]
      rw [hf, e1] at F
      have F1 : Hid _ := F
      have hbd := (fitB_iff _).1 hf
      by_cases hg : fitB (val l : Int) = true
      · have H : Hid (coreV l false = (val l : Int) ∧ coreE l false = 0) := core_fine hb hg
        have G : Hid (∀ w, Calls Tryd.prog 32 #[.int .i64 (-(val l : Int))] w fun e w' => e = .returned (.tuple #[.int .i64 (val l : Int), .bool true]) ∧ w' = w) := fun w => by
          have := neg_any (-(val l : Int)) w hbd
          rw [Int.neg_neg, hg, show fitV (val l : Int) = (val l : Int) by unfold fitV; rw [if_pos hg]] at this
          exact this
        clear F hlz hf e1 hp hb hg hbd
        generalize (val l : Int) = v at *
        rcases hm with ⟨h0, hm⟩ | hm
        all_goals
          go_enter Tryd.func21, Tryd.ntmps21
          go_wp2_with fail
          refine (hpl.out _).mono ?_
          rintro e w' ⟨rfl, rfl⟩
          go_wp2_with fail
          refine (F1.out _).mono ?_
          rintro e w' ⟨rfl, rfl⟩
          go_wp2_with fail
          refine (G.out _).mono ?_
          rintro e w' ⟨rfl, rfl⟩
          clear hpl F1 G
          go_wp2
          go_ret2
          exact ⟨ret_nn H.out, rfl⟩
      · replace hg : fitB (val l : Int) = false := by simpa using hg
        have H : Hid (coreV l false = 0 ∧ coreE l false = 2) := core_over hb hg
        have G : Hid (∀ w, Calls Tryd.prog 32 #[.int .i64 (-(val l : Int))] w fun e w' => e = .returned (.tuple #[.int .i64 0, .bool false]) ∧ w' = w) := fun w => by
          have := neg_any (-(val l : Int)) w hbd
          rw [Int.neg_neg, hg, show fitV (val l : Int) = 0 by unfold fitV; rw [hg]; rfl] at this
          exact this
        clear F hlz hf e1 hp hb hg hbd
        generalize (val l : Int) = v at *
        rcases hm with ⟨h0, hm⟩ | hm
        all_goals
          go_enter Tryd.func21, Tryd.ntmps21
          go_wp2_with fail
          refine (hpl.out _).mono ?_
          rintro e w' ⟨rfl, rfl⟩
          go_wp2_with fail
          refine (F1.out _).mono ?_
          rintro e w' ⟨rfl, rfl⟩
          go_wp2_with fail
          refine (G.out _).mono ?_
          rintro e w' ⟨rfl, rfl⟩
          clear hpl F1 G
          go_wp2
          go_ret2
          exact ⟨ret_nn H.out, rfl⟩
    · replace hf : fitB (-(val l : Int)) = false := by simpa using hf
      have hg : fitB (val l : Int) = false := by
        cases e : fitB (val l : Int)
        · rfl
        · have h1 := (fitB_iff _).1 e
          rw [(fit_yes (by omega)).1] at hf
          cases hf
      have H : Hid (coreV l false = 0 ∧ coreE l false = 2) := core_over hb hg
      have e1 : fitV (-(val l : Int)) = 0 := by unfold fitV; rw [hf]; rfl
      rw [hf, e1] at F
      have F1 : Hid _ := F
      clear F hlz hf e1 hp hb hg
      rcases hm with ⟨h0, hm⟩ | hm
      all_goals
        go_enter Tryd.func21, Tryd.ntmps21
        go_wp2_with fail
        refine (hpl.out _).mono ?_
        rintro e w' ⟨rfl, rfl⟩
        go_wp2_with fail
        refine (F1.out _).mono ?_
        rintro e w' ⟨rfl, rfl⟩
        clear hpl F1
        go_wp2
        go_ret2
        exact ⟨ret_nn H.out, rfl⟩
  · replace hp : plainB l = false := by simpa using hp
    rw [hp] at hpl
    have H : Hid (coreV l false = 0 ∧ coreE l false = 6) := core_bad (by unfold badB; rw [hp]; rfl)
    clear hlz
    rcases hm with ⟨h0, hm⟩ | hm
    all_goals
      go_enter Tryd.func21, Tryd.ntmps21
      go_wp2_with fail
      refine (hpl.out _).mono ?_
      rintro e w' ⟨rfl, rfl⟩
      clear hpl
      go_wp2
      go_ret2
      exact ⟨ret_nn H.out, rfl⟩

theorem read_any (s : ByteArray) (w : World) (hs : s.size ≤ maxLen) :
    Calls Tryd.prog 21 #[.string s] w fun e w' => e = .returned (.tuple #[.int .i64 (readV s.data.toList), .int .i64 (readE s.data.toList)]) ∧ w' = w := by
  unfold readV readE
  by_cases h0 : 0 < s.size
  · rw [head_is s h0]
    by_cases hc : s[0] = 45
    · rw [if_pos (by rw [hc]), if_pos (by rw [hc])]
      exact read_minus s w hs h0 (eq45.2 hc)
    · have hn : ¬ some s[0] = some 45 := fun e => hc (Option.some.inj e)
      rw [if_neg hn, if_neg hn]
      refine read_plus s w hs (.inl ⟨h0, ?_⟩)
      cases e : ((s[0].toNat : Int) == 45)
      · rfl
      · exact absurd (eq45.1 e) hc
  · rw [head_none s h0]
    rw [if_neg (by intro h; cases h), if_neg (by intro h; cases h)]
    exact read_plus s w hs (.inr h0)
end Go.Proofs.YteemaofajcbniaaDoor
