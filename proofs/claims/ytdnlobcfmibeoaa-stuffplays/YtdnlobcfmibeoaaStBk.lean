/-
  The ways through the law StuffBack (layer 11). Conditions: as each says.
-/
import Derived.Test.YtdnlobcfmibeoaaStKit
import Derived.Test.YtdnlobcfmibeoaaStUf
namespace Go.Proofs.Ytdnlobcfmibeoaa
open Go.RowKit
set_option linter.unusedVariables false

theorem stu_bytes {s e x : Nat} (he : e < 256) (hx : x < 256) : ∀ {bs : List Nat}, AllBytes bs → AllBytes (stuL s e x bs)
  | [], _ => fun c hc => by cases hc
  | b :: bs, h => by
    have h1 : AllBytes bs := fun c hc => h c (List.mem_cons_of_mem _ hc)
    have h2 : b < 256 := h b (by simp)
    intro c hc
    rw [stuL] at hc
    rcases List.mem_append.1 hc with k | k
    · unfold stuB at k
      split at k
      · simp only [List.mem_cons, List.not_mem_nil, or_false] at k
        rcases k with rfl | rfl
        · exact he
        · exact Nat.xor_lt_two_pow (n := 8) h2 hx
      · rw [List.mem_singleton] at k; rw [k]; exact h2
    · exact stu_bytes he hx h1 c k
theorem xor_zero_of {s x : Nat} (h : s ^^^ x = s) : x = 0 := by
  have k := congrArg (fun v => s ^^^ v) h
  simp only [← Nat.xor_assoc, Nat.xor_self, Nat.zero_xor] at k
  exact k
theorem right_no {s e x : Nat} (h : rightB s e x = false) : s = e ∨ (¬ s = e ∧ x = 0) ∨ (¬ s = e ∧ ¬ x = 0 ∧ e ^^^ x = s) := by
  by_cases h1 : s = e
  · exact .inl h1
  · right
    by_cases h2 : x = 0
    · exact .inl ⟨h1, h2⟩
    · right
      refine ⟨h1, h2, ?_⟩
      apply Classical.byContradiction
      intro h3
      have : rightB s e x = true := rightB_iff.2 ⟨h1, fun k => h2 (xor_zero_of k), h3⟩
      rw [this] at h; cases h
set_option maxRecDepth 100000 in
set_option maxHeartbeats 4000000 in
theorem back_long (w : World) (s e x : Nat) (hs : s < 256) (he : e < 256) (hx : x < 256) (p : Option Addr) (n cap : Nat) (hl : 500 < (n : Int)) (hm : (n : Int) ≤ 9223372036854775807) :
    Calls Try.prog 3 #[.int .u8 (s : Int), .int .u8 (e : Int), .int .u8 (x : Int), .slice p n cap] w fun E w' => E = .returned (.bool true) ∧ Below w.heap.size w w' := by
  go_enter Try.func3, Try.ntmps3
  go_wp2_with fail
  refine (awake11 _).mono ?_
  rintro E w1 ⟨rfl, hB⟩
  have B : Hid (Below w.heap.size w w1) := belowT ((Below.refl _ _).alloc (Nat.le_refl _) _) hB
  clear hB
  go_wp2_with fail
  refine (awake11 _).mono ?_
  rintro E w2 ⟨rfl, hB⟩
  replace B : Hid (Below w.heap.size w w2) := belowT B.out hB
  clear hB
  go_wp2
  go_ret
  exact ⟨rfl, B.out⟩
set_option maxRecDepth 100000 in
set_option maxHeartbeats 4000000 in
theorem back_no (w : World) (s e x : Nat) (hs : s < 256) (he : e < 256) (hx : x < 256) (p : Option Addr) (n cap : Nat) (hl : (n : Int) ≤ 500) (hr : rightB s e x = false) :
    Calls Try.prog 3 #[.int .u8 (s : Int), .int .u8 (e : Int), .int .u8 (x : Int), .slice p n cap] w fun E w' => E = .returned (.bool true) ∧ Below w.heap.size w w' := by
  have cR : ∀ y : World, Calls Try.prog 9 #[.agg #[.int .u8 (s : Int), .int .u8 (e : Int), .int .u8 (x : Int)]] y fun E w' => E = .returned (.bool false) ∧ Below y.heap.size y w' := fun y => by
    have := right_any y s e x hs he hx
    rw [hr] at this; exact this
  have M : Hid (MkB (w.alloc (.cells #[.int .u8 (s : Int), .int .u8 (e : Int), .int .u8 (x : Int)] 24)) w.heap.size s e x) := mkB_new _ _ _ _ _ rfl
  have hx2 : bits .xor .u8 (e : Int) (x : Int) = ((e ^^^ x : Nat) : Int) := u8_xor_nat _ _ he hx
  have hw := right_no hr
  generalize e ^^^ x = d at *
  clear hr
  go_enter Try.func3, Try.ntmps3
  go_wp2_with fail
  refine (awake11 _).mono ?_
  rintro E w1 ⟨rfl, hB⟩
  have B : Hid (Below w.heap.size w w1) := belowT ((Below.refl _ _).alloc (Nat.le_refl _) _) hB
  replace M : Hid (MkB w1 w.heap.size s e x) := M.out.block (hB.block _ (by simp))
  clear hB
  obtain ⟨m0, m1, m2⟩ := M.out.cells
  go_wp2_with fail
  refine (cR _).mono ?_
  rintro E w2 ⟨rfl, hB⟩
  replace B : Hid (Below w.heap.size w w2) := belowT B.out hB
  clear hB cR m0 m1 m2 M
  go_wp2_with fail
  refine (awake11 _).mono ?_
  rintro E w3 ⟨rfl, hB⟩
  replace B : Hid (Below w.heap.size w w3) := belowT B.out hB
  clear hB
  rcases hw with rfl | ⟨h1, rfl⟩ | ⟨h1, h2, rfl⟩
  · go_wp2
    go_ret
    exact ⟨rfl, B.out⟩
  · have t1 : ((s : Int) == (e : Int)) = false := by rw [beq_eq_false_iff_ne]; omega
    go_wp2
    go_ret
    exact ⟨rfl, B.out⟩
  · have t1 : ((d : Int) == (e : Int)) = false := by rw [beq_eq_false_iff_ne]; omega
    have t2 : ((x : Int) == 0) = false := by rw [beq_eq_false_iff_ne]; omega
    go_wp2
    go_ret
    exact ⟨rfl, B.out⟩
set_option maxRecDepth 100000 in
set_option maxHeartbeats 4000000 in
theorem back_yes (w : World) (s e x : Nat) (hs : s < 256) (he : e < 256) (hx : x < 256) (p : Option Addr) (bs : List Nat) (cap : Nat) (h : BytesAt w (.slice p bs.length cap) bs) (hb : AllBytes bs) (hl : bs.length ≤ 500) (hr : rightB s e x = true) :
    Calls Try.prog 3 #[.int .u8 (s : Int), .int .u8 (e : Int), .int .u8 (x : Int), .slice p bs.length cap] w fun E w' => E = .returned (.bool true) ∧ Below w.heap.size w w' := by
  have hR := rightB_iff.1 hr
  have cR : ∀ y : World, Calls Try.prog 9 #[.agg #[.int .u8 (s : Int), .int .u8 (e : Int), .int .u8 (x : Int)]] y fun E w' => E = .returned (.bool true) ∧ Below y.heap.size y w' := fun y => by
    have := right_any y s e x hs he hx
    rw [hr] at this; exact this
  have M : Hid (MkB (w.alloc (.cells #[.int .u8 (s : Int), .int .u8 (e : Int), .int .u8 (x : Int)] 24)) w.heap.size s e x) := mkB_new _ _ _ _ _ rfl
  have cS := fun y => stuff_any y s e x hs he hx (.slice p bs.length cap) bs
  have hLb := stu_bytes (s := s) he hx hb
  have hLm := stu_most s e x bs
  have hLn : decide (s ∈ stuL s e x bs) = false := decide_eq_false (stu_no hR bs)
  have hLu := uns_back hR bs
  have cU := fun y v hy => unstuff_any y s e x hs he hx v (stuL s e x bs) hy hLb (by omega)
  rw [hLu] at cU
  have cH := fun y v hy => has_any y v (stuL s e x bs) s hs hy hLb (by omega)
  rw [hLn] at cH
  generalize stuL s e x bs = L at *
  clear hr hR hLu hLn
  have cM := fun y => most_any y bs.length (by omega)
  have hl2 : (bs.length : Int) ≤ 500 := by omega
  have k1 : (L.length : Int) ≤ 2 * (bs.length : Int) := by omega
  have k2 : (bs.length : Int) ≤ (L.length : Int) := by omega
  clear hLm
  go_enter Try.func3, Try.ntmps3
  go_wp2_with fail
  refine (awake11 _).mono ?_
  rintro E w1 ⟨rfl, hB⟩
  have B : Hid (Below w.heap.size w w1) := belowT ((Below.refl _ _).alloc (Nat.le_refl _) _) hB
  replace M : Hid (MkB w1 w.heap.size s e x) := M.out.block (hB.block _ (by simp))
  clear hB
  obtain ⟨m0, m1, m2⟩ := M.out.cells
  go_wp2_with fail
  refine (cR _).mono ?_
  rintro E w2 ⟨rfl, hB⟩
  replace B : Hid (Below w.heap.size w w2) := belowT B.out hB
  replace M : Hid (MkB w2 w.heap.size s e x) := M.out.block (hB.block _ (Array.getElem?_eq_some_iff.1 M.out).1)
  clear hB cR m0 m1 m2
  obtain ⟨m0, m1, m2⟩ := M.out.cells
  go_wp2_with fail
  refine (cS _ (h.below B.out) hb (by omega)).mono ?_
  rintro E w3 ⟨y1, rfl, r1, hB⟩
  replace B : Hid (Below w.heap.size w w3) := belowT B.out hB
  replace M : Hid (MkB w3 w.heap.size s e x) := M.out.block (hB.block _ (Array.getElem?_eq_some_iff.1 M.out).1)
  have R1 : Hid (BytesAt w3 y1 L) := r1.at
  clear hB cS m0 m1 m2 r1
  obtain ⟨p1, c1, rfl⟩ := R1.out.slice
  obtain ⟨m0, m1, m2⟩ := M.out.cells
  go_wp2_with fail
  refine (cU _ _ R1.out).mono ?_
  rintro E w4 ⟨y2, rfl, r2, hB⟩
  replace B : Hid (Below w.heap.size w w4) := belowT B.out hB
  replace R1 : Hid (BytesAt w4 (.slice p1 L.length c1) L) := R1.out.below hB
  have R2 : Hid (BytesAt w4 y2 bs) := r2.at
  clear hB cU m0 m1 m2 r2 M
  obtain ⟨p2, c2, rfl⟩ := R2.out.slice
  go_wp2_with fail
  refine (cH _ _ R1.out).mono ?_
  rintro E w5 ⟨rfl, rfl⟩
  have v1 := conv_at R2.out
  have v2 := conv_at (h.below B.out)
  clear cH
  generalize strOf bs = S at *
  go_wp2_with fail
  refine (cM _).mono ?_
  rintro E w6 ⟨rfl, rfl⟩
  clear cM
  go_wp2
  go_ret
  exact ⟨rfl, B.out⟩
theorem back_any (w : World) (s e x : Nat) (hs : s < 256) (he : e < 256) (hx : x < 256) (v : Value) (bs : List Nat) (hv : BytesV w v bs) (hb : AllBytes bs) :
    Calls Try.prog 3 #[.int .u8 (s : Int), .int .u8 (e : Int), .int .u8 (x : Int), v] w fun E w' => E = .returned (.bool true) ∧ Below w.heap.size w w' := by
  have hm := hv.len
  have h := hv.at
  obtain ⟨p, cap, rfl⟩ := h.slice
  by_cases hl : bs.length ≤ 500
  · cases hr : rightB s e x with
    | false => exact back_no w s e x hs he hx p _ cap (by omega) hr
    | true => exact back_yes w s e x hs he hx p bs cap h hb hl hr
  · exact back_long w s e x hs he hx p _ cap (by omega) hm
end Go.Proofs.Ytdnlobcfmibeoaa
