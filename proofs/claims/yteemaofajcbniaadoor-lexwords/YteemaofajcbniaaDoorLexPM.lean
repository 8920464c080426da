/-
  What the program's own Name returns (layer 7): it is the document's. Conditions: as the contract says.
-/
import Derived.Laws.RangeAny
import Derived.Test.YteemaofajcbniaaDoorLexLawW
namespace Go.Proofs.YteemaofajcbniaaDoor
open Go.RowKit
set_option linter.unusedVariables false

theorem below_iter (w : World) (s : ByteArray) (p : Nat) : Below w.heap.size w (w.iter s p) := (Below.refl _ _).alloc (Nat.le_refl _) _
/-- the first byte a letter, each of the first k a letter or a figure -/
def NameK (l : List UInt8) (k : Nat) : Prop := allN (l.take k) = true ∧ (0 < k → ∃ c r, l = c :: r ∧ lowB c = true)
theorem nameK_first (l : List UInt8) : NameK l 0 := ⟨rfl, fun h => absurd h (by omega)⟩
theorem nameK_next {l : List UInt8} {k : Nat} (h : k < l.length) (ha : NameK l k) (hc : nameC l[k] = true) (h0 : k = 0 → lowB l[k] = true) : NameK l (k + 1) := by
  refine ⟨allN_next h ha.1 hc, fun _ => ?_⟩
  by_cases hk : k = 0
  · subst hk
    exact ⟨l[0], l.drop 1, by have e := List.drop_eq_getElem_cons h; simpa using e, h0 rfl⟩
  · exact ha.2 (by omega)
theorem nameB_long {l : List UInt8} (h : ¬ l.length ≤ 12) : nameB l = false := by unfold nameB; rw [decide_eq_false h]; rfl
theorem nameB_all {l : List UInt8} (h : NameK l l.length) (h0 : 0 < l.length) (h12 : l.length ≤ 12) : nameB l = true := by
  obtain ⟨h1, h2⟩ := h
  obtain ⟨c, r, e, hc⟩ := h2 h0
  rw [List.take_length] at h1
  subst e
  unfold nameB
  rw [decide_eq_true h12, h1]
  show (true && (lowB c && true)) = true
  rw [hc]; rfl
theorem nameB_stop {l : List UInt8} {k : Nat} (h : k < l.length) (hc : nameC l[k] = false ∨ (k = 0 ∧ lowB l[k] = false)) : nameB l = false := by
  unfold nameB
  cases l with
  | nil => simp
  | cons c r =>
    rcases hc with hc | ⟨hk, hc⟩
    · show (decide _ && (lowB c && allN (c :: r))) = false
      rw [allN_stop h hc]; simp
    · subst hk
      show (decide _ && (lowB c && allN (c :: r))) = false
      rw [show lowB c = false from hc]; simp

set_option maxRecDepth 100000 in
set_option maxHeartbeats 4000000 in
theorem pname_main (s : ByteArray) (w : World) (h0 : (1 : Int) ≤ (s.size : Int)) (h12 : (s.size : Int) ≤ 12) :
    Calls Tryd.prog 15 #[.string s] w fun e w' => e = .returned (.bool (nameB s.data.toList)) ∧ Below w.heap.size w w' := by
  have g1 : decide ((s.size : Int) < 1) = false := decide_eq_false (by omega)
  have g2 : decide (12 < (s.size : Int)) = false := decide_eq_false (by omega)
  have hlen : s.data.toList.length = s.size := by simp
  obtain ⟨T, hT⟩ : ∃ T, nameB s.data.toList = T := ⟨_, rfl⟩
  rw [hT]
  replace hT : Hid (nameB s.data.toList = T) := hT
  go_enter Tryd.func15, Tryd.ntmps15
  go_wp2
  go_loopw [] (fun wr => ∃ k : Nat, k ≤ s.size ∧ wr = w.iter s k ∧ Hid (NameK s.data.toList k)) (fun wr => s.size - wr.iterPos w.heap.size)
  case atStart => exact ⟨0, Nat.zero_le _, rfl, nameK_first _⟩
  case round =>
    obtain ⟨k, hk, rfl, hall⟩ := hrel
    by_cases hlt : k < s.size
    · have hl : k < s.data.toList.length := by simpa using hlt
      have lk : s[k].toNat < 256 := s[k].toNat_lt
      have stp : Hid (nameC s[k] = false ∨ (k = 0 ∧ lowB s[k] = false) → T = false) := fun h => by rw [← hT.out]; exact nameB_stop hl h
      have nx : Hid (nameC s[k] = true → (k = 0 → lowB s[k] = true) → NameK s.data.toList (k + 1)) := fun h h2 => nameK_next hl hall.out h h2
      clear hall hT
      by_cases ha : s[k].toNat < 128
      · have hd := decode_ascii s k hlt ha
        have hnx : ∀ ty, (Instr.next (.pointer (some ⟨w.heap.size, 0, none⟩)) true ty).run Tryd.prog (w.iter s k) = .ok (.tuple #[.bool true, .int .i64 (k : Int), .int .i32 (s[k].toNat : Int)]) (w.iter s (k + 1)) := fun ty => by rw [run_next_any w s k ty hlt, hd]
        clear hd
        obtain ⟨c, hc⟩ : ∃ c : Nat, s[k].toNat = c := ⟨_, rfl⟩
        have hcn : Hid ((nameC s[k] = decide ((97 ≤ c ∧ c ≤ 122) ∨ (48 ≤ c ∧ c ≤ 57))) ∧ (lowB s[k] = decide (97 ≤ c ∧ c ≤ 122))) := by rw [← hc]; exact ⟨rfl, rfl⟩
        rw [hc] at hnx ha lk
        clear hc
        by_cases a1 : (97 : Int) ≤ (c : Int)
        · have q1 : decide ((97 : Int) ≤ (c : Int)) = true := decide_eq_true a1
          by_cases a2 : (c : Int) ≤ 122
          · have q2 : decide ((c : Int) ≤ 122) = true := decide_eq_true a2
            have nl : Hid (NameK s.data.toList (k + 1)) := nx.out (by rw [hcn.out.1]; exact decide_eq_true (by omega)) (fun _ => by rw [hcn.out.2]; exact decide_eq_true (by omega))
            clear nx stp hcn
            go_wp2
            exact ⟨⟨k + 1, by omega, rfl, nl⟩, by simp; omega⟩
          · have q2 : decide ((c : Int) ≤ 122) = false := decide_eq_false a2
            have q3 : decide ((48 : Int) ≤ (c : Int)) = true := decide_eq_true (by omega)
            have q4 : decide ((c : Int) ≤ 57) = false := decide_eq_false (by omega)
            have fin : Hid (T = false) := stp.out (.inl (by rw [hcn.out.1]; exact decide_eq_false (by omega)))
            clear nx stp hcn
            go_wp2
            go_ret
            exact ⟨ret_bb fin.out, below_iter _ _ _⟩
        · have q1 : decide ((97 : Int) ≤ (c : Int)) = false := decide_eq_false a1
          by_cases a3 : (48 : Int) ≤ (c : Int)
          · have q3 : decide ((48 : Int) ≤ (c : Int)) = true := decide_eq_true a3
            by_cases a4 : (c : Int) ≤ 57
            · have q4 : decide ((c : Int) ≤ 57) = true := decide_eq_true a4
              by_cases k0 : (k : Int) = 0
              · have q5 : ((k : Int) == 0) = true := by simp [k0]
                have fin : Hid (T = false) := stp.out (.inr ⟨by omega, by rw [hcn.out.2]; exact decide_eq_false (by omega)⟩)
                clear nx stp hcn
                go_wp2
                go_ret
                exact ⟨ret_bb fin.out, below_iter _ _ _⟩
              · have q5 : ((k : Int) == 0) = false := beq_eq_false_iff_ne.2 k0
                have nl : Hid (NameK s.data.toList (k + 1)) := nx.out (by rw [hcn.out.1]; exact decide_eq_true (by omega)) (fun h => absurd h (by omega))
                clear nx stp hcn
                go_wp2
                exact ⟨⟨k + 1, by omega, rfl, nl⟩, by simp; omega⟩
            · have q4 : decide ((c : Int) ≤ 57) = false := decide_eq_false a4
              have fin : Hid (T = false) := stp.out (.inl (by rw [hcn.out.1]; exact decide_eq_false (by omega)))
              clear nx stp hcn
              go_wp2
              go_ret
              exact ⟨ret_bb fin.out, below_iter _ _ _⟩
          · have q3 : decide ((48 : Int) ≤ (c : Int)) = false := decide_eq_false a3
            have fin : Hid (T = false) := stp.out (.inl (by rw [hcn.out.1]; exact decide_eq_false (by omega)))
            clear nx stp hcn
            go_wp2
            go_ret
            exact ⟨ret_bb fin.out, below_iter _ _ _⟩
      · have hd := decode_high s k hlt (by omega)
        obtain ⟨R, hR⟩ : ∃ R : Nat, (Utf8.decode s k).1 = R := ⟨_, rfl⟩
        obtain ⟨D, hD⟩ : ∃ D : Nat, (Utf8.decode s k).2 = D := ⟨_, rfl⟩
        have hnx : ∀ ty, (Instr.next (.pointer (some ⟨w.heap.size, 0, none⟩)) true ty).run Tryd.prog (w.iter s k) = .ok (.tuple #[.bool true, .int .i64 (k : Int), .int .i32 (R : Int)]) (w.iter s (k + D)) := fun ty => by rw [run_next_any w s k ty hlt, hR, hD]
        rw [hR] at hd
        have hR1 : (128 : Int) ≤ (R : Int) := by omega
        have q1 : decide ((97 : Int) ≤ (R : Int)) = true := decide_eq_true (by omega)
        have q2 : decide ((R : Int) ≤ 122) = false := decide_eq_false (by omega)
        have q3 : decide ((48 : Int) ≤ (R : Int)) = true := decide_eq_true (by omega)
        have q4 : decide ((R : Int) ≤ 57) = false := decide_eq_false (by omega)
        have fin : Hid (T = false) := stp.out (.inl (by unfold nameC; exact decide_eq_false (by omega)))
        clear nx stp hd hR hD
        go_wp2
        go_ret
        exact ⟨ret_bb fin.out, below_iter _ _ _⟩
    · obtain rfl : k = s.size := by omega
      have fin : Hid (T = true) := by
        rw [← hT.out]
        exact nameB_all (by rw [hlen]; exact hall.out) (by omega) (by omega)
      have hnx : ∀ ty, (Instr.next (.pointer (some ⟨w.heap.size, 0, none⟩)) true ty).run Tryd.prog (w.iter s s.size) = _ := fun ty => run_next_end w s s.size ty (by omega)
      clear hall hT
      go_wp2
      go_ret
      exact ⟨ret_bb fin.out, below_iter _ _ _⟩
set_option maxRecDepth 100000 in
set_option maxHeartbeats 4000000 in
theorem pname_zero (s : ByteArray) (w : World) (h0 : (s.size : Int) < 1) :
    Calls Tryd.prog 15 #[.string s] w fun e w' => e = .returned (.bool false) ∧ w' = w := by
  have g1 : decide ((s.size : Int) < 1) = true := decide_eq_true (by omega)
  go_enter Tryd.func15, Tryd.ntmps15
  go_wp2
  go_ret
  exact ⟨rfl, rfl⟩
set_option maxRecDepth 100000 in
set_option maxHeartbeats 4000000 in
theorem pname_long (s : ByteArray) (w : World) (h12 : 12 < (s.size : Int)) :
    Calls Tryd.prog 15 #[.string s] w fun e w' => e = .returned (.bool false) ∧ w' = w := by
  have g1 : decide ((s.size : Int) < 1) = false := decide_eq_false (by omega)
  have g2 : decide (12 < (s.size : Int)) = true := decide_eq_true (by omega)
  go_enter Tryd.func15, Tryd.ntmps15
  go_wp2
  go_ret
  exact ⟨rfl, rfl⟩
theorem HM : NameP := fun s w hs => by
  have hlen : s.data.toList.length = s.size := by simp
  by_cases h0 : (s.size : Int) < 1
  · have e : s.data.toList = [] := List.length_eq_zero_iff.1 (by rw [hlen]; omega)
    rw [e]
    exact same_w (pname_zero s w h0)
  · by_cases h12 : (s.size : Int) ≤ 12
    · exact pname_main s w (by omega) h12
    · rw [nameB_long (by rw [hlen]; omega)]
      exact same_w (pname_long s w (by omega))
end Go.Proofs.YteemaofajcbniaaDoor
