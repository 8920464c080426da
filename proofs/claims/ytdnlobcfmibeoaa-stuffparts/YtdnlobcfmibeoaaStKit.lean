/-
  What the smaller functions of layer 11 return: Right, Most, and the laws' own has and awake. Conditions: as each says.
-/
import Derived.Test.YtdnlobcfmibeoaaStStf
import Derived.Test.YtdnlobcfmibeoaaStRs
namespace Go.Proofs.Ytdnlobcfmibeoaa
open Go.RowKit
set_option linter.unusedVariables false

set_option maxRecDepth 100000 in
set_option maxHeartbeats 4000000 in
theorem has_any (w : World) (v : Value) (bs : List Nat) (c : Nat) (hc : c < 256) (h : BytesAt w v bs) (hb : AllBytes bs) (hl : bs.length ≤ 4000) :
    Calls Try.prog 12 #[v, .int .u8 (c : Int)] w fun E w' => E = .returned (.bool (decide (c ∈ bs))) ∧ w' = w := by
  obtain ⟨p, cap, rfl⟩ := h.slice
  have hl2 : (bs.length : Int) ≤ 4000 := by omega
  go_enter Try.func12, Try.ntmps12
  go_wp2
  go_loopw [5] (fun i wr => wr = w ∧ ∃ j : Nat, j ≤ bs.length ∧ i = .int .i64 (j : Int) ∧ Hid (c ∉ bs.take j)) (fun i _ => bs.length - (intOf i).toNat)
  case atStart => exact ⟨rfl, 0, Nat.zero_le _, rfl, fun k => by simp at k⟩
  case round =>
    obtain ⟨rfl, j, hj, rfl, hn⟩ := hrel
    by_cases hlt : j < bs.length
    · have hlt' : (j : Int) < (bs.length : Int) := by omega
      obtain ⟨g, o, rfl, hcl⟩ := h.cellp hlt
      obtain ⟨d, hd⟩ : ∃ d, bs[j] = d := ⟨_, rfl⟩
      have hmem : bs[j] ∈ bs := List.getElem_mem _
      have htk := List.take_append_getElem hlt
      rw [hd] at hcl hmem htk
      replace htk : Hid _ := htk
      clear hd
      by_cases hdc : d = c
      · subst hdc
        have hr : Hid (decide (d ∈ bs) = true) := decide_eq_true hmem
        clear htk hn
        go_wp2
        go_ret
        exact ⟨by rw [hr.out]; rfl, rfl⟩
      · have hne : ((d : Int) == (c : Int)) = false := by rw [beq_eq_false_iff_ne]; omega
        have hn2 : Hid (c ∉ bs.take (j + 1)) := by
          show _ ∉ _
          rw [← htk.out]
          intro k
          rcases List.mem_append.1 k with k | k
          · exact hn.out k
          · exact hdc (List.mem_singleton.1 k).symm
        clear htk hn hmem
        go_wp2
        exact ⟨⟨trivial, j + 1, by omega, by simp, hn2⟩, by simp [intOf]; omega⟩
    · obtain rfl : j = bs.length := by omega
      have hr : Hid (decide (c ∈ bs) = false) := by
        have := hn.out
        rw [List.take_length] at this
        exact decide_eq_false this
      clear hn
      go_wp2
      go_ret
      exact ⟨by rw [hr.out]; rfl, rfl⟩
def rightB (s e x : Nat) : Bool := decide (¬ s = e) && (decide (¬ s ^^^ x = s) && decide (¬ e ^^^ x = s))
theorem rightB_iff {s e x : Nat} : rightB s e x = true ↔ StuR s e x := by
  unfold rightB
  rw [Bool.and_eq_true, Bool.and_eq_true, decide_eq_true_iff, decide_eq_true_iff, decide_eq_true_iff]
  exact ⟨fun h => ⟨h.1, h.2.1, h.2.2⟩, fun h => ⟨h.se, h.sx, h.ex⟩⟩
set_option maxRecDepth 100000 in
set_option maxHeartbeats 4000000 in
theorem right_any (w : World) (s e x : Nat) (hs : s < 256) (he : e < 256) (hx : x < 256) :
    Calls Try.prog 9 #[.agg #[.int .u8 (s : Int), .int .u8 (e : Int), .int .u8 (x : Int)]] w fun E w' => E = .returned (.bool (rightB s e x)) ∧ Below w.heap.size w w' := by
  have hx1 : bits .xor .u8 (s : Int) (x : Int) = ((s ^^^ x : Nat) : Int) := u8_xor_nat _ _ hs hx
  have hx2 : bits .xor .u8 (e : Int) (x : Int) = ((e ^^^ x : Nat) : Int) := u8_xor_nat _ _ he hx
  have hr : Hid (rightB s e x = (decide (¬ s = e) && (decide (¬ s ^^^ x = s) && decide (¬ e ^^^ x = s)))) := rfl
  generalize rightB s e x = R at *
  generalize s ^^^ x = a at *
  generalize e ^^^ x = b at *
  have hB : Hid (Below w.heap.size w (w.alloc (.cells #[.int .u8 (s : Int), .int .u8 (e : Int), .int .u8 (x : Int)] 24))) := (Below.refl _ _).alloc (Nat.le_refl _) _
  by_cases h1 : s = e
  · have hr2 : Hid (R = false) := by show _ = _; rw [hr.out, decide_eq_false (fun k => k h1)]; rfl
    clear hr
    subst h1
    go_enter Try.func9, Try.ntmps9
    go_wp2
    go_ret
    exact ⟨by rw [hr2.out]; rfl, hB.out⟩
  · have t1 : ((s : Int) == (e : Int)) = false := by rw [beq_eq_false_iff_ne]; omega
    have u1 : ((s : Int) != (e : Int)) = true := by rw [bne, t1]; rfl
    by_cases h2 : a = s
    · have hr2 : Hid (R = false) := by show _ = _; rw [hr.out, decide_eq_false (fun k : ¬ a = s => k h2), Bool.false_and, Bool.and_false]
      clear hr
      subst h2
      go_enter Try.func9, Try.ntmps9
      go_wp2
      go_ret
      exact ⟨by rw [hr2.out]; rfl, hB.out⟩
    · have t2 : ((a : Int) == (s : Int)) = false := by rw [beq_eq_false_iff_ne]; omega
      have u2 : ((a : Int) != (s : Int)) = true := by rw [bne, t2]; rfl
      by_cases h3 : b = s
      · have hr2 : Hid (R = false) := by show _ = _; rw [hr.out, decide_eq_false (fun k : ¬ b = s => k h3), Bool.and_false, Bool.and_false]
        clear hr
        subst h3
        go_enter Try.func9, Try.ntmps9
        go_wp2
        go_ret
        exact ⟨by rw [hr2.out]; rfl, hB.out⟩
      · have t3 : ((b : Int) == (s : Int)) = false := by rw [beq_eq_false_iff_ne]; omega
        have u3 : ((b : Int) != (s : Int)) = true := by rw [bne, t3]; rfl
        have hr2 : Hid (R = true) := by show _ = _; rw [hr.out, decide_eq_true h1, decide_eq_true h2, decide_eq_true h3]; rfl
        clear hr
        go_enter Try.func9, Try.ntmps9
        go_wp2
        go_ret
        exact ⟨by rw [hr2.out]; rfl, hB.out⟩
set_option maxRecDepth 100000 in
set_option maxHeartbeats 4000000 in
theorem most_any (w : World) (n : Nat) (hn : n ≤ 4000) : Calls Try.prog 13 #[.int .i64 (n : Int)] w fun E w' => E = .returned (.int .i64 (2 * (n : Int))) ∧ w' = w := by
  by_cases h : n = 0
  · subst h
    go_enter Try.func13, Try.ntmps13
    go_wp2
    go_ret
    exact ⟨rfl, rfl⟩
  · have h1 : ¬ (n : Int) < 1 := by omega
    have h2 : ¬ (4611686018427387903 : Int) < (n : Int) := by omega
    have h3 : (n : Int) ≤ 4000 := by omega
    go_enter Try.func13, Try.ntmps13
    go_wp2
    go_ret
    exact ⟨rfl, rfl⟩
set_option maxRecDepth 100000 in
set_option maxHeartbeats 4000000 in
theorem most_less (w : World) (n : Int) (hn : n < 1) (hm : -9223372036854775808 ≤ n) : Calls Try.prog 13 #[.int .i64 n] w fun E w' => E = .returned (.int .i64 0) ∧ w' = w := by
  go_enter Try.func13, Try.ntmps13
  go_wp2
  go_ret
  exact ⟨rfl, rfl⟩
set_option maxRecDepth 100000 in
set_option maxHeartbeats 4000000 in
theorem awake11 (w : World) : Calls Try.prog 8 #[] w fun E w' => E = .returned (.bool true) ∧ Below w.heap.size w w' := by
  have cS : ∀ (x : World) (v : Value), BytesAt x v [1, 2, 3] → Calls Try.prog 10 #[.agg #[.int .u8 2, .int .u8 27, .int .u8 32], v] x fun E w' => ∃ y, E = .returned y ∧ RowB w' x.heap.size y [1, 27, 34, 3] ∧ Below x.heap.size x w' := fun x v h =>
    stuff_any x 2 27 32 (by decide) (by decide) (by decide) v [1, 2, 3] h (by intro c hc; simp at hc; omega) (by decide)
  have ht : strOf [1, 27, 34, 3] = ⟨#[1, 27, 34, 3]⟩ := by decide +kernel
  go_enter Try.func8, Try.ntmps8
  go_wp2_with fail
  refine (cS _ _ (new_bytes w [1, 2, 3] #[.int .u8 1, .int .u8 2, .int .u8 3] rfl)).mono ?_
  rintro E w1 ⟨y, rfl, hr, hb⟩
  have B : Hid (Below w.heap.size w w1) := belowT ((Below.refl _ _).alloc (Nat.le_refl _) _) hb
  have hc := conv_at hr.at
  rw [ht] at hc
  clear cS hb hr ht
  go_wp2
  go_ret
  exact ⟨rfl, B.out⟩
end Go.Proofs.Ytdnlobcfmibeoaa
