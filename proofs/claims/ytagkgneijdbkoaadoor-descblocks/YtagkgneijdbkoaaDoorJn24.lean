/-
  Texts that belong together, one behind the other: LexPF. Conditions: as each says.
-/
import Derived.Test.YtagkgneijdbkoaaDoorJn20
import Derived.Test.YtagkgneijdbkoaaDoorJn22
import Derived.Test.YtagkgneijdbkoaaDoorJn23
/-
  What the program's own printable and counts return, and strings.Fields of a line (layer 7). Conditions: as each says.
-/
namespace Go.Proofs.YtagkgneijdbkoaaDoor
open Go.RowKit
set_option linter.unusedVariables false

theorem ret_bp {x y : Bool} (h : y = x) : Ending.returned (.bool x) = .returned (.bool y) := by rw [h]
theorem info_st9 : (Tryd.prog.info? 9).map (fun i => (i.zero, i.size, i.bytes)) = some (some (.string ByteArray.empty), 1, 16) := by kernel_rfl
theorem fields_any (s : ByteArray) (w : World) (hs : s.size ≤ 4000) (hp : priB s.data.toList = true) (T : Tab7 w) : Calls Tryd.prog 25 #[.string s] w fun e w' =>
    e = .returned (.slice (some ⟨w.heap.size, 0, none⟩) (Lib.fields s.data.toList).length (Lib.fields s.data.toList).length) ∧ w' = w.alloc (.cells ((Lib.fields s.data.toList).map fun l => Value.string (txt l)).toArray 9) :=
  Any.strings_Fields_core lays157 info_st9 s w (by omega) (fun j b hb => by
    have hm := List.mem_of_getElem? hb
    unfold priB at hp
    have := of_decide_eq_true (List.all_eq_true.1 hp b hm)
    omega) T
theorem prefix_any (s p : ByteArray) (w : World) : Calls Tryd.prog 42 #[.string s, .string p] w fun e w' => e = .returned (.bool (Lib.hasPrefix s.data.toList p.data.toList)) ∧ w' = w := Any.strings_HasPrefix lays99 s p w
set_option maxRecDepth 100000 in
set_option maxHeartbeats 4000000 in
theorem printable_any (s : ByteArray) (w : World) (hs : (s.size : Int) ≤ 4000) : Calls Tryd.prog 24 #[.string s] w fun e w' => e = .returned (.bool (priB s.data.toList)) ∧ w' = w := by
  obtain ⟨T, hT⟩ : ∃ T, priB s.data.toList = T := ⟨_, rfl⟩
  rw [hT]
  replace hT : Hid (priB s.data.toList = T) := hT
  go_enter Tryd.func24, Tryd.ntmps24
  go_wp2
  go_loop [6] (fun vi => ∃ k : Nat, (k : Int) ≤ (s.size : Int) ∧ vi = .int .i64 (k : Int) ∧ Hid (priB (s.data.toList.take k) = true)) (fun vi => s.size - (intOf vi).toNat)
  case atStart => exact ⟨0, by omega, rfl, rfl⟩
  case round =>
    obtain ⟨k, hk, rfl, hall⟩ := hrel
    by_cases hlt : k < s.size
    · have hki : (k : Int) < (s.size : Int) := by omega
      have hl : k < s.data.toList.length := by simpa using hlt
      have stp : Hid (priC s[k] = false → T = false) := fun h => by rw [← hT.out]; exact priB_stop hl h
      have nx : Hid (priC s[k] = true → priB (s.data.toList.take (k + 1)) = true) := fun h => priB_next hl hall.out h
      have lk : s[k].toNat < 256 := s[k].toNat_lt
      clear hall hT
      by_cases a1 : (32 : Int) ≤ (s[k].toNat : Int)
      · have q1 : decide ((s[k].toNat : Int) < 32) = false := decide_eq_false (by omega)
        by_cases a2 : (s[k].toNat : Int) ≤ 126
        · have q2 : decide (126 < (s[k].toNat : Int)) = false := decide_eq_false (by omega)
          have nl : Hid (priB (s.data.toList.take (k + 1)) = true) := nx.out (decide_eq_true (by omega))
          clear nx stp
          go_wp2
          exact ⟨⟨k + 1, by omega, by simp, nl⟩, by simp [intOf]; omega⟩
        · have q2 : decide (126 < (s[k].toNat : Int)) = true := decide_eq_true (by omega)
          have fin : Hid (T = false) := stp.out (decide_eq_false (by omega))
          clear nx stp
          go_wp2
          go_ret
          exact ⟨ret_bp fin.out, rfl⟩
      · have q1 : decide ((s[k].toNat : Int) < 32) = true := decide_eq_true (by omega)
        have fin : Hid (T = false) := stp.out (decide_eq_false (by omega))
        clear nx stp
        go_wp2
        go_ret
        exact ⟨ret_bp fin.out, rfl⟩
    · obtain rfl : k = s.size := by omega
      have fin : Hid (T = true) := by
        have h := hall.out
        rw [List.take_of_length_le (by simp)] at h
        rw [← hT.out]
        exact h
      clear hall hT hlt
      go_wp2
      go_ret
      exact ⟨ret_bp fin.out, rfl⟩
set_option maxRecDepth 100000 in
set_option maxHeartbeats 4000000 in
theorem counts_none (w : World) (g cap : Nat) : Calls Tryd.prog 26 #[.slice (some ⟨g, 0, none⟩) 0 cap] w fun e w' => e = .returned (.bool false) ∧ w' = w := by
  go_enter Tryd.func26, Tryd.ntmps26
  go_wp2
  go_ret
  exact ⟨rfl, rfl⟩
set_option maxRecDepth 100000 in
set_option maxHeartbeats 4000000 in
theorem counts_some (w : World) (g n cap : Nat) (hn : (1 : Int) ≤ (n : Int)) (d : ByteArray) (B : Bool) (hc : w.cell? ⟨g, 0, none⟩ = some (.string d)) (hd : Lib.hasPrefix d.data.toList [35] = B) : Calls Tryd.prog 26 #[.slice (some ⟨g, 0, none⟩) n cap] w fun e w' => e = .returned (.bool (!B)) ∧ w' = w := by
  have f : Hid (∀ w, Calls Tryd.prog 42 #[.string d, .string ⟨#[35]⟩] w fun e w' => e = .returned (.bool B) ∧ w' = w) := fun w => by rw [← hd]; exact prefix_any d ⟨#[35]⟩ w
  have q1 : decide ((0 : Int) < (n : Int)) = true := decide_eq_true (by omega)
  clear hd
  go_enter Tryd.func26, Tryd.ntmps26
  go_wp2_with fail
  refine (f.out _).mono ?_
  rintro e w' ⟨rfl, rfl⟩
  clear f
  go_wp2
  go_ret
  exact ⟨rfl, rfl⟩
/-- what counts says of words that lie in memory -/
theorem counts_any (w : World) (g cap : Nat) (ws : List Wd) (hok : ∀ d ∈ ws, ¬ d = []) (hc : ∀ (h : 0 < ws.length), w.cell? ⟨g, 0, none⟩ = some (.string (txt ws[0]))) : Calls Tryd.prog 26 #[.slice (some ⟨g, 0, none⟩) ws.length cap] w fun e w' => e = .returned (.bool (countsB ws)) ∧ w' = w := by
  cases ws with
  | nil => exact counts_none w g cap
  | cons d r =>
    cases d with
    | nil => exact absurd rfl (hok [] (by simp))
    | cons c d =>
      have := counts_some w g (r.length + 1) cap (by omega) (txt (c :: d)) _ (hc (by simp)) rfl
      have e : (!Lib.hasPrefix (txt (c :: d)).data.toList [35]) = countsB ((c :: d) :: r) := by
        show (!((35 : UInt8) == c && List.isPrefixOf [] d)) = !(c == 35)
        rw [show List.isPrefixOf [] d = true by cases d <;> rfl, Bool.and_true]
        by_cases h : c = 35
        · subst h; rfl
        · have h2 : ¬ (35 : UInt8) = c := fun e => h e.symm
          rw [beq_eq_false_iff_ne.2 h2, beq_eq_false_iff_ne.2 h]
      rw [e] at this
      exact this
end Go.Proofs.YtagkgneijdbkoaaDoor
