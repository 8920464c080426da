/-
  The way through the law StuffSizes (layer 11). Conditions: as it says.
-/
import Derived.Test.YtdnlobcfmibeoaaStKit
namespace Go.Proofs.Ytdnlobcfmibeoaa
open Go.RowKit
set_option linter.unusedVariables false

theorem cnt_take (s e : Nat) (bs : List Nat) {j : Nat} (h : j < bs.length) : (bs.take (j + 1)).countP (fun b => decide (b = s ∨ b = e)) = (bs.take j).countP (fun b => decide (b = s ∨ b = e)) + (if bs[j] = s ∨ bs[j] = e then 1 else 0) := by
  rw [← List.take_append_getElem h, List.countP_append]
  congr 1
  by_cases k : bs[j] = s ∨ bs[j] = e
  · rw [if_pos k]; simp [k]
  · rw [if_neg k]; simp [k]
set_option maxRecDepth 100000 in
set_option maxHeartbeats 4000000 in
theorem sizes_any (w : World) (s e x : Nat) (hs : s < 256) (he : e < 256) (hx : x < 256) (v : Value) (bs : List Nat) (hv : BytesV w v bs) (hb : AllBytes bs) :
    Calls Try.prog 6 #[.int .u8 (s : Int), .int .u8 (e : Int), .int .u8 (x : Int), v] w fun E w' => E = .returned (.bool true) ∧ Below w.heap.size w w' := by
  have hm := hv.len
  have h := hv.at
  obtain ⟨p, cap, rfl⟩ := h.slice
  by_cases hl : bs.length ≤ 500
  · have hl2 : (bs.length : Int) ≤ 500 := by omega
    go_enter Try.func6, Try.ntmps6
    go_wp2_with fail
    refine (awake11 _).mono ?_
    rintro E w1 ⟨rfl, hB⟩
    replace h := h.below hB
    have B : Hid (Below w.heap.size w w1) := hB
    clear hB hv
    go_wp2
    go_loopw [9, 10] (fun vn vi wr => wr = w1 ∧ ∃ (j : Nat) (m : Nat), j ≤ bs.length ∧ vi = .int .i64 (j : Int) ∧ vn = .int .i64 (m : Int) ∧ m ≤ bs.length + j ∧ Hid (m = bs.length + (bs.take j).countP (fun b => decide (b = s ∨ b = e)))) (fun _ i _ => bs.length - (intOf i).toNat)
    case atStart => exact ⟨rfl, 0, bs.length, Nat.zero_le _, rfl, rfl, by omega, rfl⟩
    case round =>
      obtain ⟨rfl, j, m, hj, rfl, rfl, hmj, hn⟩ := hrel
      by_cases hlt : j < bs.length
      · have hlt' : (j : Int) < (bs.length : Int) := by omega
        obtain ⟨g, o, rfl, hcl⟩ := h.cellp hlt
        have hnx := cnt_take s e bs hlt
        obtain ⟨d, hd⟩ : ∃ d, bs[j] = d := ⟨_, rfl⟩
        rw [hd] at hcl hnx
        clear hd
        by_cases hds : d = s
        · have hn2 : Hid (m + 1 = bs.length + (bs.take (j + 1)).countP (fun b => decide (b = s ∨ b = e))) := by
            show _ = _
            rw [hnx, if_pos (.inl hds), hn.out, Nat.add_assoc]
          clear hnx hn
          subst hds
          go_wp2
          exact ⟨⟨trivial, j + 1, m + 1, by omega, by simp, by simp, by omega, hn2⟩, by simp [intOf]; omega⟩
        · have hne : ((d : Int) == (s : Int)) = false := by rw [beq_eq_false_iff_ne]; omega
          by_cases hde : d = e
          · have hn2 : Hid (m + 1 = bs.length + (bs.take (j + 1)).countP (fun b => decide (b = s ∨ b = e))) := by
              show _ = _
              rw [hnx, if_pos (.inr hde), hn.out, Nat.add_assoc]
            clear hnx hn
            subst hde
            go_wp2
            exact ⟨⟨trivial, j + 1, m + 1, by omega, by simp, by simp, by omega, hn2⟩, by simp [intOf]; omega⟩
          · have hne2 : ((d : Int) == (e : Int)) = false := by rw [beq_eq_false_iff_ne]; omega
            have hn2 : Hid (m = bs.length + (bs.take (j + 1)).countP (fun b => decide (b = s ∨ b = e))) := by
              show _ = _
              rw [hnx, if_neg (fun k => k.elim hds hde), Nat.add_zero]; exact hn.out
            clear hnx hn
            go_wp2
            exact ⟨⟨trivial, j + 1, m, by omega, by simp, rfl, by omega, hn2⟩, by simp [intOf]; omega⟩
      · obtain rfl : j = bs.length := by omega
        have hq : Hid (m = (stuL s e x bs).length) := by
          have := hn.out
          rw [List.take_length] at this
          show _ = _
          rw [this, stu_len]
        clear hn
        go_wp2_with fail
        refine (stuff_any _ s e x hs he hx _ bs h hb (by omega)).mono ?_
        rintro E w2 ⟨y, rfl, hr, hB⟩
        replace B : Hid (Below w.heap.size w w2) := belowT B.out hB
        obtain ⟨p2, cap2, rfl⟩ := hr.at.slice
        rw [← hq.out]
        clear hr hB hq
        go_wp2
        go_ret
        exact ⟨rfl, B.out⟩
  · have hl2 : 500 < (bs.length : Int) := by omega
    go_enter Try.func6, Try.ntmps6
    go_wp2_with fail
    refine (awake11 _).mono ?_
    rintro E w1 ⟨rfl, hB⟩
    have B : Hid (Below w.heap.size w w1) := hB
    clear hB hv h
    go_wp2_with fail
    refine (awake11 _).mono ?_
    rintro E w2 ⟨rfl, hB⟩
    replace B : Hid (Below w.heap.size w w2) := belowT B.out hB
    clear hB
    go_wp2
    go_ret
    exact ⟨rfl, B.out⟩
end Go.Proofs.Ytdnlobcfmibeoaa
