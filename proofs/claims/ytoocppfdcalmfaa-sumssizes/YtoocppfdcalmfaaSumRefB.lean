/-
  What the document's own Of returns, kind by kind (layer 5). Conditions: the bytes lie in memory that was there before, at most 300.
-/
import Derived.Test.YtoocppfdcalmfaaSumEnd
namespace Go.Proofs.Ytoocppfdcalmfaa
open Go.RowKit
set_option linter.unusedVariables false

def RSumAtK (w : World) (K : Value) (v : Value) (V : Nat) : Prop :=
  ∀ x, Below w.heap.size w x → Calls Try.prog 16 #[K, v] x fun e w' => e = .returned (.int .u32 (V : Int)) ∧ Below x.heap.size x w'

set_option maxRecDepth 100000 in
set_option maxHeartbeats 4000000 in
theorem rof0_nil (w : World) :
    Calls Try.prog 10 #[.string e0, .slice none 0 0] w fun e w' => ∃ x, e = .returned (.tuple #[x, .bool true]) ∧ BytesAt w' x (endK 0 []) ∧ Below w.heap.size w w' := by
  go_enter Try.func10, Try.ntmps10
  go_wp2
  go_loop [6, 7, 8, 9, 10] (fun a b c d i => a = .int .i64 0 ∧ b = .int .i64 0 ∧ c = .int .i64 0 ∧ d = .int .i64 0 ∧ i = .int .i64 0) (fun _ _ _ _ _ => 0)
  case atStart => exact ⟨rfl, rfl, rfl, rfl, rfl⟩
  case round =>
    obtain ⟨rfl, rfl, rfl, rfl, rfl⟩ := hrel
    go_wp2
    go_ret2
    exact ⟨_, rfl, .inl ⟨rfl, rfl⟩, Below.refl _ _⟩

set_option maxRecDepth 100000 in
set_option maxHeartbeats 4000000 in
theorem rof0_row (w : World) (g o cap : Nat) (bs : List Nat) (hl : (bs.length : Int) ≤ 300) (hbs : AllBytes bs) (hb : BytesIn w g o bs) (hg : g < w.heap.size) :
    Calls Try.prog 10 #[.string e0, .slice (some ⟨g, o, none⟩) bs.length cap] w fun e w' => ∃ x, e = .returned (.tuple #[x, .bool true]) ∧ BytesAt w' x (endK 0 bs) ∧ Below w.heap.size w w' := by
  have hb' : Hid (BytesIn w g o bs ∧ g < w.heap.size ∧ AllBytes bs) := ⟨hb, hg, hbs⟩
  clear hb hg hbs
  go_enter Try.func10, Try.ntmps10
  go_wp2
  go_loop [6, 7, 8, 9, 10] (fun a b c d i => ∃ k S M C : Nat, (k : Int) ≤ (bs.length : Int) ∧ i = .int .i64 (k : Int) ∧ a = .int .i64 (S : Int) ∧ b = .int .i64 (M : Int) ∧ c = .int .i64 (C : Int) ∧ d = .int .i64 (S : Int) ∧ Hid (S = totN (bs.take k) ∧ M = mixB (bs.take k) ∧ C = (secN (bs.take k)).2)) (fun _ _ _ _ i => bs.length - (intOf i).toNat)
  case atStart => exact ⟨0, 0, 0, 0, by omega, rfl, rfl, rfl, rfl, rfl, rfl, rfl, rfl⟩
  case round =>
    obtain ⟨k, S, M, C, hk, rfl, rfl, rfl, rfl, rfl, hv⟩ := hrel
    obtain ⟨vS, vM, vC⟩ := hv.out
    have tb := take_bytes hb'.out.2.2 k
    have lS := tot_le tb
    have lM := mix_lt tb
    have lC := sec_le tb
    rw [← vS] at lS
    rw [← vM] at lM
    rw [← vC] at lC
    have lk : (bs.take k).length ≤ 300 := by rw [List.length_take]; omega
    have lS2 : (S : Int) ≤ 76500 := by omega
    have lC2 : (C : Int) ≤ 22950000 := by
      have h1 : 255 * (bs.take k).length * (bs.take k).length ≤ 255 * 300 * 300 := Nat.mul_le_mul (Nat.mul_le_mul_left _ lk) lk
      omega
    clear lS lC lk tb
    by_cases hlt : k < bs.length
    · have hki : (k : Int) < (bs.length : Int) := by omega
      have hcell := hb'.out.1 k hlt
      have hc : bs[k] < 256 := hb'.out.2.2 _ (List.getElem_mem hlt)
      have nx : Hid (S + bs[k] = totN (bs.take (k + 1)) ∧ M ^^^ bs[k] = mixB (bs.take (k + 1)) ∧ C + (S + bs[k]) = (secN (bs.take (k + 1))).2) := by
        refine ⟨?_, ?_, ?_⟩
        · rw [take_snoc bs hlt, totN_snoc, ← vS]
        · rw [take_snoc bs hlt, mixB_snoc, ← vM]
        · rw [take_snoc bs hlt, secN_snoc, secN_one, ← vC, ← vS]
      clear hv vS vM vC
      generalize bs[k] = c at *
      obtain ⟨M2, hM2⟩ : ∃ M2 : Nat, M ^^^ c = M2 := ⟨_, rfl⟩
      have xr : bits .xor .i64 (M : Int) (c : Int) = (M2 : Int) := by rw [i64_xor_small lM hc, hM2]
      rw [hM2] at nx
      replace nx : Hid (S + c = totN (bs.take (k + 1)) ∧ M2 = mixB (bs.take (k + 1)) ∧ C + (S + c) = (secN (bs.take (k + 1))).2) := nx
      clear hM2
      have hci : (0 : Int) ≤ (c : Int) ∧ (c : Int) < 256 := ⟨by omega, by omega⟩
      go_wp2
      exact ⟨⟨k + 1, S + c, M2, C + (S + c), by omega, by simp, by simp, by simp, by simp, by simp, nx⟩, by simp [intOf]; omega⟩
    · obtain rfl : k = bs.length := by omega
      rw [List.take_length] at vS vM vC
      clear hlt hk hv
      clear vS vM vC
      go_wp2
      go_ret2
      exact ⟨_, rfl, .inl ⟨rfl, rfl⟩, Below.refl _ _⟩

set_option maxRecDepth 100000 in
set_option maxHeartbeats 4000000 in
theorem rof1_nil (w : World) :
    Calls Try.prog 10 #[.string e1, .slice none 0 0] w fun e w' => ∃ x, e = .returned (.tuple #[x, .bool true]) ∧ BytesAt w' x (endK 1 []) ∧ Below w.heap.size w w' := by
  go_enter Try.func10, Try.ntmps10
  go_wp2
  go_loop [6, 7, 8, 9, 10] (fun a b c d i => a = .int .i64 0 ∧ b = .int .i64 0 ∧ c = .int .i64 0 ∧ d = .int .i64 0 ∧ i = .int .i64 0) (fun _ _ _ _ _ => 0)
  case atStart => exact ⟨rfl, rfl, rfl, rfl, rfl⟩
  case round =>
    obtain ⟨rfl, rfl, rfl, rfl, rfl⟩ := hrel
    have nb : Hid (BytesAt (w.alloc (.cells #[.int .u8 0] 5)) (.slice (some ⟨w.heap.size, 0, none⟩) 1 1) (endK 1 [])) := new_bytes w (endK 1 []) #[.int .u8 0] rfl
    have B : Hid (Below w.heap.size w (w.alloc (.cells #[.int .u8 0] 5))) := (Below.refl _ _).alloc (Nat.le_refl _) _
    go_wp2
    go_ret2
    exact ⟨_, rfl, nb.out, B.out⟩

set_option maxRecDepth 100000 in
set_option maxHeartbeats 4000000 in
theorem rof1_row (w : World) (g o cap : Nat) (bs : List Nat) (hl : (bs.length : Int) ≤ 300) (hbs : AllBytes bs) (hb : BytesIn w g o bs) (hg : g < w.heap.size) :
    Calls Try.prog 10 #[.string e1, .slice (some ⟨g, o, none⟩) bs.length cap] w fun e w' => ∃ x, e = .returned (.tuple #[x, .bool true]) ∧ BytesAt w' x (endK 1 bs) ∧ Below w.heap.size w w' := by
  have hb' : Hid (BytesIn w g o bs ∧ g < w.heap.size ∧ AllBytes bs) := ⟨hb, hg, hbs⟩
  clear hb hg hbs
  go_enter Try.func10, Try.ntmps10
  go_wp2
  go_loop [6, 7, 8, 9, 10] (fun a b c d i => ∃ k S M C : Nat, (k : Int) ≤ (bs.length : Int) ∧ i = .int .i64 (k : Int) ∧ a = .int .i64 (S : Int) ∧ b = .int .i64 (M : Int) ∧ c = .int .i64 (C : Int) ∧ d = .int .i64 (S : Int) ∧ Hid (S = totN (bs.take k) ∧ M = mixB (bs.take k) ∧ C = (secN (bs.take k)).2)) (fun _ _ _ _ i => bs.length - (intOf i).toNat)
  case atStart => exact ⟨0, 0, 0, 0, by omega, rfl, rfl, rfl, rfl, rfl, rfl, rfl, rfl⟩
  case round =>
    obtain ⟨k, S, M, C, hk, rfl, rfl, rfl, rfl, rfl, hv⟩ := hrel
    obtain ⟨vS, vM, vC⟩ := hv.out
    have tb := take_bytes hb'.out.2.2 k
    have lS := tot_le tb
    have lM := mix_lt tb
    have lC := sec_le tb
    rw [← vS] at lS
    rw [← vM] at lM
    rw [← vC] at lC
    have lk : (bs.take k).length ≤ 300 := by rw [List.length_take]; omega
    have lS2 : (S : Int) ≤ 76500 := by omega
    have lC2 : (C : Int) ≤ 22950000 := by
      have h1 : 255 * (bs.take k).length * (bs.take k).length ≤ 255 * 300 * 300 := Nat.mul_le_mul (Nat.mul_le_mul_left _ lk) lk
      omega
    clear lS lC lk tb
    by_cases hlt : k < bs.length
    · have hki : (k : Int) < (bs.length : Int) := by omega
      have hcell := hb'.out.1 k hlt
      have hc : bs[k] < 256 := hb'.out.2.2 _ (List.getElem_mem hlt)
      have nx : Hid (S + bs[k] = totN (bs.take (k + 1)) ∧ M ^^^ bs[k] = mixB (bs.take (k + 1)) ∧ C + (S + bs[k]) = (secN (bs.take (k + 1))).2) := by
        refine ⟨?_, ?_, ?_⟩
        · rw [take_snoc bs hlt, totN_snoc, ← vS]
        · rw [take_snoc bs hlt, mixB_snoc, ← vM]
        · rw [take_snoc bs hlt, secN_snoc, secN_one, ← vC, ← vS]
      clear hv vS vM vC
      generalize bs[k] = c at *
      obtain ⟨M2, hM2⟩ : ∃ M2 : Nat, M ^^^ c = M2 := ⟨_, rfl⟩
      have xr : bits .xor .i64 (M : Int) (c : Int) = (M2 : Int) := by rw [i64_xor_small lM hc, hM2]
      rw [hM2] at nx
      replace nx : Hid (S + c = totN (bs.take (k + 1)) ∧ M2 = mixB (bs.take (k + 1)) ∧ C + (S + c) = (secN (bs.take (k + 1))).2) := nx
      clear hM2
      have hci : (0 : Int) ≤ (c : Int) ∧ (c : Int) < 256 := ⟨by omega, by omega⟩
      go_wp2
      exact ⟨⟨k + 1, S + c, M2, C + (S + c), by omega, by simp, by simp, by simp, by simp, by simp, nx⟩, by simp [intOf]; omega⟩
    · obtain rfl : k = bs.length := by omega
      rw [List.take_length] at vS vM vC
      clear hlt hk hv
      obtain ⟨x, hx⟩ : ∃ x : Nat, x = S % 256 := ⟨_, rfl⟩
      have r1 : (S : Int) % 256 = (x : Int) := by omega
      have w1 : IntKind.u8.wrap (x : Int) = (x : Int) := by simp only [IntKind.wrap_u8']; omega
      have ee : endK 1 bs = [x] := by show [totN bs % 256] = _; rw [← vS, ← hx]
      have nb : Hid (BytesAt (w.alloc (.cells #[.int .u8 (x : Int)] 5)) (.slice (some ⟨w.heap.size, 0, none⟩) 1 1) (endK 1 bs)) := by unfold Hid; rw [ee]; exact new_bytes w [x] #[.int .u8 (x : Int)] rfl
      clear vS vM vC ee hx
      have B : Hid (Below w.heap.size w (w.alloc (.cells #[.int .u8 (x : Int)] 5))) := (Below.refl _ _).alloc (Nat.le_refl _) _
      go_wp2
      go_ret2
      exact ⟨_, rfl, nb.out, B.out⟩

set_option maxRecDepth 100000 in
set_option maxHeartbeats 4000000 in
theorem rof2_nil (w : World) :
    Calls Try.prog 10 #[.string e2, .slice none 0 0] w fun e w' => ∃ x, e = .returned (.tuple #[x, .bool true]) ∧ BytesAt w' x (endK 2 []) ∧ Below w.heap.size w w' := by
  go_enter Try.func10, Try.ntmps10
  go_wp2
  go_loop [6, 7, 8, 9, 10] (fun a b c d i => a = .int .i64 0 ∧ b = .int .i64 0 ∧ c = .int .i64 0 ∧ d = .int .i64 0 ∧ i = .int .i64 0) (fun _ _ _ _ _ => 0)
  case atStart => exact ⟨rfl, rfl, rfl, rfl, rfl⟩
  case round =>
    obtain ⟨rfl, rfl, rfl, rfl, rfl⟩ := hrel
    have nb : Hid (BytesAt (w.alloc (.cells #[.int .u8 0] 5)) (.slice (some ⟨w.heap.size, 0, none⟩) 1 1) (endK 2 [])) := new_bytes w (endK 2 []) #[.int .u8 0] rfl
    have B : Hid (Below w.heap.size w (w.alloc (.cells #[.int .u8 0] 5))) := (Below.refl _ _).alloc (Nat.le_refl _) _
    go_wp2
    go_ret2
    exact ⟨_, rfl, nb.out, B.out⟩

set_option maxRecDepth 100000 in
set_option maxHeartbeats 4000000 in
theorem rof2_row (w : World) (g o cap : Nat) (bs : List Nat) (hl : (bs.length : Int) ≤ 300) (hbs : AllBytes bs) (hb : BytesIn w g o bs) (hg : g < w.heap.size) :
    Calls Try.prog 10 #[.string e2, .slice (some ⟨g, o, none⟩) bs.length cap] w fun e w' => ∃ x, e = .returned (.tuple #[x, .bool true]) ∧ BytesAt w' x (endK 2 bs) ∧ Below w.heap.size w w' := by
  have hb' : Hid (BytesIn w g o bs ∧ g < w.heap.size ∧ AllBytes bs) := ⟨hb, hg, hbs⟩
  clear hb hg hbs
  go_enter Try.func10, Try.ntmps10
  go_wp2
  go_loop [6, 7, 8, 9, 10] (fun a b c d i => ∃ k S M C : Nat, (k : Int) ≤ (bs.length : Int) ∧ i = .int .i64 (k : Int) ∧ a = .int .i64 (S : Int) ∧ b = .int .i64 (M : Int) ∧ c = .int .i64 (C : Int) ∧ d = .int .i64 (S : Int) ∧ Hid (S = totN (bs.take k) ∧ M = mixB (bs.take k) ∧ C = (secN (bs.take k)).2)) (fun _ _ _ _ i => bs.length - (intOf i).toNat)
  case atStart => exact ⟨0, 0, 0, 0, by omega, rfl, rfl, rfl, rfl, rfl, rfl, rfl, rfl⟩
  case round =>
    obtain ⟨k, S, M, C, hk, rfl, rfl, rfl, rfl, rfl, hv⟩ := hrel
    obtain ⟨vS, vM, vC⟩ := hv.out
    have tb := take_bytes hb'.out.2.2 k
    have lS := tot_le tb
    have lM := mix_lt tb
    have lC := sec_le tb
    rw [← vS] at lS
    rw [← vM] at lM
    rw [← vC] at lC
    have lk : (bs.take k).length ≤ 300 := by rw [List.length_take]; omega
    have lS2 : (S : Int) ≤ 76500 := by omega
    have lC2 : (C : Int) ≤ 22950000 := by
      have h1 : 255 * (bs.take k).length * (bs.take k).length ≤ 255 * 300 * 300 := Nat.mul_le_mul (Nat.mul_le_mul_left _ lk) lk
      omega
    clear lS lC lk tb
    by_cases hlt : k < bs.length
    · have hki : (k : Int) < (bs.length : Int) := by omega
      have hcell := hb'.out.1 k hlt
      have hc : bs[k] < 256 := hb'.out.2.2 _ (List.getElem_mem hlt)
      have nx : Hid (S + bs[k] = totN (bs.take (k + 1)) ∧ M ^^^ bs[k] = mixB (bs.take (k + 1)) ∧ C + (S + bs[k]) = (secN (bs.take (k + 1))).2) := by
        refine ⟨?_, ?_, ?_⟩
        · rw [take_snoc bs hlt, totN_snoc, ← vS]
        · rw [take_snoc bs hlt, mixB_snoc, ← vM]
        · rw [take_snoc bs hlt, secN_snoc, secN_one, ← vC, ← vS]
      clear hv vS vM vC
      generalize bs[k] = c at *
      obtain ⟨M2, hM2⟩ : ∃ M2 : Nat, M ^^^ c = M2 := ⟨_, rfl⟩
      have xr : bits .xor .i64 (M : Int) (c : Int) = (M2 : Int) := by rw [i64_xor_small lM hc, hM2]
      rw [hM2] at nx
      replace nx : Hid (S + c = totN (bs.take (k + 1)) ∧ M2 = mixB (bs.take (k + 1)) ∧ C + (S + c) = (secN (bs.take (k + 1))).2) := nx
      clear hM2
      have hci : (0 : Int) ≤ (c : Int) ∧ (c : Int) < 256 := ⟨by omega, by omega⟩
      go_wp2
      exact ⟨⟨k + 1, S + c, M2, C + (S + c), by omega, by simp, by simp, by simp, by simp, by simp, nx⟩, by simp [intOf]; omega⟩
    · obtain rfl : k = bs.length := by omega
      rw [List.take_length] at vS vM vC
      clear hlt hk hv
      obtain ⟨y, hy⟩ : ∃ y : Nat, y = S % 256 := ⟨_, rfl⟩
      have r0 : (S : Int) % 256 = (y : Int) := by omega
      have ry : (0 : Int) ≤ (y : Int) ∧ (y : Int) < 256 := ⟨by omega, by omega⟩
      obtain ⟨x, hx⟩ : ∃ x : Nat, x = (256 - S % 256) % 256 := ⟨_, rfl⟩
      have r1 : (256 - (y : Int)) % 256 = (x : Int) := by omega
      have w1 : IntKind.u8.wrap (x : Int) = (x : Int) := by simp only [IntKind.wrap_u8']; omega
      have ee : endK 2 bs = [x] := by show [(256 - totN bs % 256) % 256] = _; rw [← vS, ← hx]
      have nb : Hid (BytesAt (w.alloc (.cells #[.int .u8 (x : Int)] 5)) (.slice (some ⟨w.heap.size, 0, none⟩) 1 1) (endK 2 bs)) := by unfold Hid; rw [ee]; exact new_bytes w [x] #[.int .u8 (x : Int)] rfl
      clear vS vM vC ee hx hy
      have B : Hid (Below w.heap.size w (w.alloc (.cells #[.int .u8 (x : Int)] 5))) := (Below.refl _ _).alloc (Nat.le_refl _) _
      go_wp2
      go_ret2
      exact ⟨_, rfl, nb.out, B.out⟩

set_option maxRecDepth 100000 in
set_option maxHeartbeats 4000000 in
theorem rof3_nil (w : World) :
    Calls Try.prog 10 #[.string e3, .slice none 0 0] w fun e w' => ∃ x, e = .returned (.tuple #[x, .bool true]) ∧ BytesAt w' x (endK 3 []) ∧ Below w.heap.size w w' := by
  go_enter Try.func10, Try.ntmps10
  go_wp2
  go_loop [6, 7, 8, 9, 10] (fun a b c d i => a = .int .i64 0 ∧ b = .int .i64 0 ∧ c = .int .i64 0 ∧ d = .int .i64 0 ∧ i = .int .i64 0) (fun _ _ _ _ _ => 0)
  case atStart => exact ⟨rfl, rfl, rfl, rfl, rfl⟩
  case round =>
    obtain ⟨rfl, rfl, rfl, rfl, rfl⟩ := hrel
    have nb : Hid (BytesAt (w.alloc (.cells #[.int .u8 0] 5)) (.slice (some ⟨w.heap.size, 0, none⟩) 1 1) (endK 3 [])) := new_bytes w (endK 3 []) #[.int .u8 0] rfl
    have B : Hid (Below w.heap.size w (w.alloc (.cells #[.int .u8 0] 5))) := (Below.refl _ _).alloc (Nat.le_refl _) _
    go_wp2
    go_ret2
    exact ⟨_, rfl, nb.out, B.out⟩

set_option maxRecDepth 100000 in
set_option maxHeartbeats 4000000 in
theorem rof3_row (w : World) (g o cap : Nat) (bs : List Nat) (hl : (bs.length : Int) ≤ 300) (hbs : AllBytes bs) (hb : BytesIn w g o bs) (hg : g < w.heap.size) :
    Calls Try.prog 10 #[.string e3, .slice (some ⟨g, o, none⟩) bs.length cap] w fun e w' => ∃ x, e = .returned (.tuple #[x, .bool true]) ∧ BytesAt w' x (endK 3 bs) ∧ Below w.heap.size w w' := by
  have hb' : Hid (BytesIn w g o bs ∧ g < w.heap.size ∧ AllBytes bs) := ⟨hb, hg, hbs⟩
  clear hb hg hbs
  go_enter Try.func10, Try.ntmps10
  go_wp2
  go_loop [6, 7, 8, 9, 10] (fun a b c d i => ∃ k S M C : Nat, (k : Int) ≤ (bs.length : Int) ∧ i = .int .i64 (k : Int) ∧ a = .int .i64 (S : Int) ∧ b = .int .i64 (M : Int) ∧ c = .int .i64 (C : Int) ∧ d = .int .i64 (S : Int) ∧ Hid (S = totN (bs.take k) ∧ M = mixB (bs.take k) ∧ C = (secN (bs.take k)).2)) (fun _ _ _ _ i => bs.length - (intOf i).toNat)
  case atStart => exact ⟨0, 0, 0, 0, by omega, rfl, rfl, rfl, rfl, rfl, rfl, rfl, rfl⟩
  case round =>
    obtain ⟨k, S, M, C, hk, rfl, rfl, rfl, rfl, rfl, hv⟩ := hrel
    obtain ⟨vS, vM, vC⟩ := hv.out
    have tb := take_bytes hb'.out.2.2 k
    have lS := tot_le tb
    have lM := mix_lt tb
    have lC := sec_le tb
    rw [← vS] at lS
    rw [← vM] at lM
    rw [← vC] at lC
    have lk : (bs.take k).length ≤ 300 := by rw [List.length_take]; omega
    have lS2 : (S : Int) ≤ 76500 := by omega
    have lC2 : (C : Int) ≤ 22950000 := by
      have h1 : 255 * (bs.take k).length * (bs.take k).length ≤ 255 * 300 * 300 := Nat.mul_le_mul (Nat.mul_le_mul_left _ lk) lk
      omega
    clear lS lC lk tb
    by_cases hlt : k < bs.length
    · have hki : (k : Int) < (bs.length : Int) := by omega
      have hcell := hb'.out.1 k hlt
      have hc : bs[k] < 256 := hb'.out.2.2 _ (List.getElem_mem hlt)
      have nx : Hid (S + bs[k] = totN (bs.take (k + 1)) ∧ M ^^^ bs[k] = mixB (bs.take (k + 1)) ∧ C + (S + bs[k]) = (secN (bs.take (k + 1))).2) := by
        refine ⟨?_, ?_, ?_⟩
        · rw [take_snoc bs hlt, totN_snoc, ← vS]
        · rw [take_snoc bs hlt, mixB_snoc, ← vM]
        · rw [take_snoc bs hlt, secN_snoc, secN_one, ← vC, ← vS]
      clear hv vS vM vC
      generalize bs[k] = c at *
      obtain ⟨M2, hM2⟩ : ∃ M2 : Nat, M ^^^ c = M2 := ⟨_, rfl⟩
      have xr : bits .xor .i64 (M : Int) (c : Int) = (M2 : Int) := by rw [i64_xor_small lM hc, hM2]
      rw [hM2] at nx
      replace nx : Hid (S + c = totN (bs.take (k + 1)) ∧ M2 = mixB (bs.take (k + 1)) ∧ C + (S + c) = (secN (bs.take (k + 1))).2) := nx
      clear hM2
      have hci : (0 : Int) ≤ (c : Int) ∧ (c : Int) < 256 := ⟨by omega, by omega⟩
      go_wp2
      exact ⟨⟨k + 1, S + c, M2, C + (S + c), by omega, by simp, by simp, by simp, by simp, by simp, nx⟩, by simp [intOf]; omega⟩
    · obtain rfl : k = bs.length := by omega
      rw [List.take_length] at vS vM vC
      clear hlt hk hv
      obtain ⟨x, hx⟩ : ∃ x : Nat, x = M := ⟨_, rfl⟩
      subst hx
      have w1 : IntKind.u8.wrap (x : Int) = (x : Int) := by simp only [IntKind.wrap_u8']; omega
      have ee : endK 3 bs = [x] := by show [mixB bs] = _; rw [← vM]
      have nb : Hid (BytesAt (w.alloc (.cells #[.int .u8 (x : Int)] 5)) (.slice (some ⟨w.heap.size, 0, none⟩) 1 1) (endK 3 bs)) := by unfold Hid; rw [ee]; exact new_bytes w [x] #[.int .u8 (x : Int)] rfl
      clear vS vM vC ee
      have B : Hid (Below w.heap.size w (w.alloc (.cells #[.int .u8 (x : Int)] 5))) := (Below.refl _ _).alloc (Nat.le_refl _) _
      go_wp2
      go_ret2
      exact ⟨_, rfl, nb.out, B.out⟩

set_option maxRecDepth 100000 in
set_option maxHeartbeats 4000000 in
theorem rof4_nil (w : World) :
    Calls Try.prog 10 #[.string e4, .slice none 0 0] w fun e w' => ∃ x, e = .returned (.tuple #[x, .bool true]) ∧ BytesAt w' x (endK 4 []) ∧ Below w.heap.size w w' := by
  go_enter Try.func10, Try.ntmps10
  go_wp2
  go_loop [6, 7, 8, 9, 10] (fun a b c d i => a = .int .i64 0 ∧ b = .int .i64 0 ∧ c = .int .i64 0 ∧ d = .int .i64 0 ∧ i = .int .i64 0) (fun _ _ _ _ _ => 0)
  case atStart => exact ⟨rfl, rfl, rfl, rfl, rfl⟩
  case round =>
    obtain ⟨rfl, rfl, rfl, rfl, rfl⟩ := hrel
    have nb : Hid (BytesAt (w.alloc (.cells #[.int .u8 0, .int .u8 0] 5)) (.slice (some ⟨w.heap.size, 0, none⟩) 2 2) (endK 4 [])) := new_bytes w (endK 4 []) #[.int .u8 0, .int .u8 0] rfl
    have B : Hid (Below w.heap.size w (w.alloc (.cells #[.int .u8 0, .int .u8 0] 5))) := (Below.refl _ _).alloc (Nat.le_refl _) _
    go_wp2
    go_ret2
    exact ⟨_, rfl, nb.out, B.out⟩

set_option maxRecDepth 100000 in
set_option maxHeartbeats 4000000 in
theorem rof4_row (w : World) (g o cap : Nat) (bs : List Nat) (hl : (bs.length : Int) ≤ 300) (hbs : AllBytes bs) (hb : BytesIn w g o bs) (hg : g < w.heap.size) :
    Calls Try.prog 10 #[.string e4, .slice (some ⟨g, o, none⟩) bs.length cap] w fun e w' => ∃ x, e = .returned (.tuple #[x, .bool true]) ∧ BytesAt w' x (endK 4 bs) ∧ Below w.heap.size w w' := by
  have hb' : Hid (BytesIn w g o bs ∧ g < w.heap.size ∧ AllBytes bs) := ⟨hb, hg, hbs⟩
  clear hb hg hbs
  go_enter Try.func10, Try.ntmps10
  go_wp2
  go_loop [6, 7, 8, 9, 10] (fun a b c d i => ∃ k S M C : Nat, (k : Int) ≤ (bs.length : Int) ∧ i = .int .i64 (k : Int) ∧ a = .int .i64 (S : Int) ∧ b = .int .i64 (M : Int) ∧ c = .int .i64 (C : Int) ∧ d = .int .i64 (S : Int) ∧ Hid (S = totN (bs.take k) ∧ M = mixB (bs.take k) ∧ C = (secN (bs.take k)).2)) (fun _ _ _ _ i => bs.length - (intOf i).toNat)
  case atStart => exact ⟨0, 0, 0, 0, by omega, rfl, rfl, rfl, rfl, rfl, rfl, rfl, rfl⟩
  case round =>
    obtain ⟨k, S, M, C, hk, rfl, rfl, rfl, rfl, rfl, hv⟩ := hrel
    obtain ⟨vS, vM, vC⟩ := hv.out
    have tb := take_bytes hb'.out.2.2 k
    have lS := tot_le tb
    have lM := mix_lt tb
    have lC := sec_le tb
    rw [← vS] at lS
    rw [← vM] at lM
    rw [← vC] at lC
    have lk : (bs.take k).length ≤ 300 := by rw [List.length_take]; omega
    have lS2 : (S : Int) ≤ 76500 := by omega
    have lC2 : (C : Int) ≤ 22950000 := by
      have h1 : 255 * (bs.take k).length * (bs.take k).length ≤ 255 * 300 * 300 := Nat.mul_le_mul (Nat.mul_le_mul_left _ lk) lk
      omega
    clear lS lC lk tb
    by_cases hlt : k < bs.length
    · have hki : (k : Int) < (bs.length : Int) := by omega
      have hcell := hb'.out.1 k hlt
      have hc : bs[k] < 256 := hb'.out.2.2 _ (List.getElem_mem hlt)
      have nx : Hid (S + bs[k] = totN (bs.take (k + 1)) ∧ M ^^^ bs[k] = mixB (bs.take (k + 1)) ∧ C + (S + bs[k]) = (secN (bs.take (k + 1))).2) := by
        refine ⟨?_, ?_, ?_⟩
        · rw [take_snoc bs hlt, totN_snoc, ← vS]
        · rw [take_snoc bs hlt, mixB_snoc, ← vM]
        · rw [take_snoc bs hlt, secN_snoc, secN_one, ← vC, ← vS]
      clear hv vS vM vC
      generalize bs[k] = c at *
      obtain ⟨M2, hM2⟩ : ∃ M2 : Nat, M ^^^ c = M2 := ⟨_, rfl⟩
      have xr : bits .xor .i64 (M : Int) (c : Int) = (M2 : Int) := by rw [i64_xor_small lM hc, hM2]
      rw [hM2] at nx
      replace nx : Hid (S + c = totN (bs.take (k + 1)) ∧ M2 = mixB (bs.take (k + 1)) ∧ C + (S + c) = (secN (bs.take (k + 1))).2) := nx
      clear hM2
      have hci : (0 : Int) ≤ (c : Int) ∧ (c : Int) < 256 := ⟨by omega, by omega⟩
      go_wp2
      exact ⟨⟨k + 1, S + c, M2, C + (S + c), by omega, by simp, by simp, by simp, by simp, by simp, nx⟩, by simp [intOf]; omega⟩
    · obtain rfl : k = bs.length := by omega
      rw [List.take_length] at vS vM vC
      clear hlt hk hv
      obtain ⟨y, hy⟩ : ∃ y : Nat, y = S % 255 := ⟨_, rfl⟩
      have r0 : (S : Int) % 255 = (y : Int) := by omega
      have w0 : IntKind.u8.wrap (y : Int) = (y : Int) := by simp only [IntKind.wrap_u8']; omega
      obtain ⟨x, hx⟩ : ∃ x : Nat, x = C % 255 := ⟨_, rfl⟩
      have r1 : (C : Int) % 255 = (x : Int) := by omega
      have w1 : IntKind.u8.wrap (x : Int) = (x : Int) := by simp only [IntKind.wrap_u8']; omega
      have ee : endK 4 bs = [x, y] := by show [(secN bs).2 % 255, totN bs % 255] = _; rw [← vS, ← vC, ← hx, ← hy]
      have nb : Hid (BytesAt (w.alloc (.cells #[.int .u8 (x : Int), .int .u8 (y : Int)] 5)) (.slice (some ⟨w.heap.size, 0, none⟩) 2 2) (endK 4 bs)) := by unfold Hid; rw [ee]; exact new_bytes w [x, y] #[.int .u8 (x : Int), .int .u8 (y : Int)] rfl
      clear vS vM vC ee hx hy
      have B : Hid (Below w.heap.size w (w.alloc (.cells #[.int .u8 (x : Int), .int .u8 (y : Int)] 5))) := (Below.refl _ _).alloc (Nat.le_refl _) _
      go_wp2
      go_ret2
      exact ⟨_, rfl, nb.out, B.out⟩

set_option maxRecDepth 100000 in
set_option maxHeartbeats 4000000 in
theorem rof5_nil (w : World) (V : Nat) (hV : V < 4294967296) (eV : Hid (sumV 8 7 0 false 0 [] = V)) (cT : RSumAtK w (.agg #[.int .i64 8, .int .u32 7, .int .u32 0, .bool false, .int .u32 0]) (.slice none 0 0) V) :
    Calls Try.prog 10 #[.string e5, .slice none 0 0] w fun e w' => ∃ x, e = .returned (.tuple #[x, .bool true]) ∧ BytesAt w' x (endK 5 []) ∧ Below w.heap.size w w' := by
  go_enter Try.func10, Try.ntmps10
  go_wp2
  go_loop [6, 7, 8, 9, 10] (fun a b c d i => a = .int .i64 0 ∧ b = .int .i64 0 ∧ c = .int .i64 0 ∧ d = .int .i64 0 ∧ i = .int .i64 0) (fun _ _ _ _ _ => 0)
  case atStart => exact ⟨rfl, rfl, rfl, rfl, rfl⟩
  case round =>
    obtain ⟨rfl, rfl, rfl, rfl, rfl⟩ := hrel
    go_wp2_with fail
    refine (cT _ (Below.refl _ _)).mono ?_
    rintro e w1 ⟨rfl, hb1⟩
    have B : Hid (Below w.heap.size w w1) := hb1
    clear hb1
    go_wp2_with fail
    refine (big_any V 1 w1 hV (by omega)).mono ?_
    rintro e w2 ⟨x, rfl, hr, hb2⟩
    have R : Hid (BytesAt w2 x (endK 5 [])) := by
      show BytesAt w2 x (bigL (sumV 8 7 0 false 0 []) 1)
      rw [eV.out]; exact hr.at
    replace B : Hid (Below w.heap.size w w2) := belowT B.out hb2
    clear hr hb2
    go_wp2
    go_ret2
    exact ⟨_, rfl, R.out, B.out⟩

set_option maxRecDepth 100000 in
set_option maxHeartbeats 4000000 in
theorem rof5_row (w : World) (g o cap : Nat) (bs : List Nat) (hl : (bs.length : Int) ≤ 300) (hbs : AllBytes bs) (hb : BytesIn w g o bs) (hg : g < w.heap.size) (V : Nat) (hV : V < 4294967296) (eV : Hid (sumV 8 7 0 false 0 bs = V)) (cT : RSumAtK w (.agg #[.int .i64 8, .int .u32 7, .int .u32 0, .bool false, .int .u32 0]) (.slice (some ⟨g, o, none⟩) bs.length cap) V) :
    Calls Try.prog 10 #[.string e5, .slice (some ⟨g, o, none⟩) bs.length cap] w fun e w' => ∃ x, e = .returned (.tuple #[x, .bool true]) ∧ BytesAt w' x (endK 5 bs) ∧ Below w.heap.size w w' := by
  have hb' : Hid (BytesIn w g o bs ∧ g < w.heap.size ∧ AllBytes bs) := ⟨hb, hg, hbs⟩
  clear hb hg hbs
  go_enter Try.func10, Try.ntmps10
  go_wp2
  go_loop [6, 7, 8, 9, 10] (fun a b c d i => ∃ k S M C : Nat, (k : Int) ≤ (bs.length : Int) ∧ i = .int .i64 (k : Int) ∧ a = .int .i64 (S : Int) ∧ b = .int .i64 (M : Int) ∧ c = .int .i64 (C : Int) ∧ d = .int .i64 (S : Int) ∧ Hid (S = totN (bs.take k) ∧ M = mixB (bs.take k) ∧ C = (secN (bs.take k)).2)) (fun _ _ _ _ i => bs.length - (intOf i).toNat)
  case atStart => exact ⟨0, 0, 0, 0, by omega, rfl, rfl, rfl, rfl, rfl, rfl, rfl, rfl⟩
  case round =>
    obtain ⟨k, S, M, C, hk, rfl, rfl, rfl, rfl, rfl, hv⟩ := hrel
    obtain ⟨vS, vM, vC⟩ := hv.out
    have tb := take_bytes hb'.out.2.2 k
    have lS := tot_le tb
    have lM := mix_lt tb
    have lC := sec_le tb
    rw [← vS] at lS
    rw [← vM] at lM
    rw [← vC] at lC
    have lk : (bs.take k).length ≤ 300 := by rw [List.length_take]; omega
    have lS2 : (S : Int) ≤ 76500 := by omega
    have lC2 : (C : Int) ≤ 22950000 := by
      have h1 : 255 * (bs.take k).length * (bs.take k).length ≤ 255 * 300 * 300 := Nat.mul_le_mul (Nat.mul_le_mul_left _ lk) lk
      omega
    clear lS lC lk tb
    by_cases hlt : k < bs.length
    · have hki : (k : Int) < (bs.length : Int) := by omega
      have hcell := hb'.out.1 k hlt
      have hc : bs[k] < 256 := hb'.out.2.2 _ (List.getElem_mem hlt)
      have nx : Hid (S + bs[k] = totN (bs.take (k + 1)) ∧ M ^^^ bs[k] = mixB (bs.take (k + 1)) ∧ C + (S + bs[k]) = (secN (bs.take (k + 1))).2) := by
        refine ⟨?_, ?_, ?_⟩
        · rw [take_snoc bs hlt, totN_snoc, ← vS]
        · rw [take_snoc bs hlt, mixB_snoc, ← vM]
        · rw [take_snoc bs hlt, secN_snoc, secN_one, ← vC, ← vS]
      clear hv vS vM vC
      generalize bs[k] = c at *
      obtain ⟨M2, hM2⟩ : ∃ M2 : Nat, M ^^^ c = M2 := ⟨_, rfl⟩
      have xr : bits .xor .i64 (M : Int) (c : Int) = (M2 : Int) := by rw [i64_xor_small lM hc, hM2]
      rw [hM2] at nx
      replace nx : Hid (S + c = totN (bs.take (k + 1)) ∧ M2 = mixB (bs.take (k + 1)) ∧ C + (S + c) = (secN (bs.take (k + 1))).2) := nx
      clear hM2
      have hci : (0 : Int) ≤ (c : Int) ∧ (c : Int) < 256 := ⟨by omega, by omega⟩
      go_wp2
      exact ⟨⟨k + 1, S + c, M2, C + (S + c), by omega, by simp, by simp, by simp, by simp, by simp, nx⟩, by simp [intOf]; omega⟩
    · obtain rfl : k = bs.length := by omega
      rw [List.take_length] at vS vM vC
      clear hlt hk hv
      clear vS vM vC
      go_wp2_with fail
      refine (cT _ (Below.refl _ _)).mono ?_
      rintro e w1 ⟨rfl, hb1⟩
      have B : Hid (Below w.heap.size w w1) := hb1
      clear hb1
      go_wp2_with fail
      refine (big_any V 1 w1 hV (by omega)).mono ?_
      rintro e w2 ⟨x, rfl, hr, hb2⟩
      have R : Hid (BytesAt w2 x (endK 5 bs)) := by
        show BytesAt w2 x (bigL (sumV 8 7 0 false 0 bs) 1)
        rw [eV.out]; exact hr.at
      replace B : Hid (Below w.heap.size w w2) := belowT B.out hb2
      clear hr hb2
      go_wp2
      go_ret2
      exact ⟨_, rfl, R.out, B.out⟩

set_option maxRecDepth 100000 in
set_option maxHeartbeats 4000000 in
theorem rof6_nil (w : World) (V : Nat) (hV : V < 4294967296) (eV : Hid (sumV 16 32773 0 true 0 [] = V)) (cT : RSumAtK w (.agg #[.int .i64 16, .int .u32 32773, .int .u32 0, .bool true, .int .u32 0]) (.slice none 0 0) V) :
    Calls Try.prog 10 #[.string e6, .slice none 0 0] w fun e w' => ∃ x, e = .returned (.tuple #[x, .bool true]) ∧ BytesAt w' x (endK 6 []) ∧ Below w.heap.size w w' := by
  go_enter Try.func10, Try.ntmps10
  go_wp2
  go_loop [6, 7, 8, 9, 10] (fun a b c d i => a = .int .i64 0 ∧ b = .int .i64 0 ∧ c = .int .i64 0 ∧ d = .int .i64 0 ∧ i = .int .i64 0) (fun _ _ _ _ _ => 0)
  case atStart => exact ⟨rfl, rfl, rfl, rfl, rfl⟩
  case round =>
    obtain ⟨rfl, rfl, rfl, rfl, rfl⟩ := hrel
    go_wp2_with fail
    refine (cT _ (Below.refl _ _)).mono ?_
    rintro e w1 ⟨rfl, hb1⟩
    have B : Hid (Below w.heap.size w w1) := hb1
    clear hb1
    go_wp2_with fail
    refine (big_any V 2 w1 hV (by omega)).mono ?_
    rintro e w2 ⟨x, rfl, hr, hb2⟩
    have R : Hid (BytesAt w2 x (endK 6 [])) := by
      show BytesAt w2 x (bigL (sumV 16 32773 0 true 0 []) 2)
      rw [eV.out]; exact hr.at
    replace B : Hid (Below w.heap.size w w2) := belowT B.out hb2
    clear hr hb2
    go_wp2
    go_ret2
    exact ⟨_, rfl, R.out, B.out⟩

set_option maxRecDepth 100000 in
set_option maxHeartbeats 4000000 in
theorem rof6_row (w : World) (g o cap : Nat) (bs : List Nat) (hl : (bs.length : Int) ≤ 300) (hbs : AllBytes bs) (hb : BytesIn w g o bs) (hg : g < w.heap.size) (V : Nat) (hV : V < 4294967296) (eV : Hid (sumV 16 32773 0 true 0 bs = V)) (cT : RSumAtK w (.agg #[.int .i64 16, .int .u32 32773, .int .u32 0, .bool true, .int .u32 0]) (.slice (some ⟨g, o, none⟩) bs.length cap) V) :
    Calls Try.prog 10 #[.string e6, .slice (some ⟨g, o, none⟩) bs.length cap] w fun e w' => ∃ x, e = .returned (.tuple #[x, .bool true]) ∧ BytesAt w' x (endK 6 bs) ∧ Below w.heap.size w w' := by
  have hb' : Hid (BytesIn w g o bs ∧ g < w.heap.size ∧ AllBytes bs) := ⟨hb, hg, hbs⟩
  clear hb hg hbs
  go_enter Try.func10, Try.ntmps10
  go_wp2
  go_loop [6, 7, 8, 9, 10] (fun a b c d i => ∃ k S M C : Nat, (k : Int) ≤ (bs.length : Int) ∧ i = .int .i64 (k : Int) ∧ a = .int .i64 (S : Int) ∧ b = .int .i64 (M : Int) ∧ c = .int .i64 (C : Int) ∧ d = .int .i64 (S : Int) ∧ Hid (S = totN (bs.take k) ∧ M = mixB (bs.take k) ∧ C = (secN (bs.take k)).2)) (fun _ _ _ _ i => bs.length - (intOf i).toNat)
  case atStart => exact ⟨0, 0, 0, 0, by omega, rfl, rfl, rfl, rfl, rfl, rfl, rfl, rfl⟩
  case round =>
    obtain ⟨k, S, M, C, hk, rfl, rfl, rfl, rfl, rfl, hv⟩ := hrel
    obtain ⟨vS, vM, vC⟩ := hv.out
    have tb := take_bytes hb'.out.2.2 k
    have lS := tot_le tb
    have lM := mix_lt tb
    have lC := sec_le tb
    rw [← vS] at lS
    rw [← vM] at lM
    rw [← vC] at lC
    have lk : (bs.take k).length ≤ 300 := by rw [List.length_take]; omega
    have lS2 : (S : Int) ≤ 76500 := by omega
    have lC2 : (C : Int) ≤ 22950000 := by
      have h1 : 255 * (bs.take k).length * (bs.take k).length ≤ 255 * 300 * 300 := Nat.mul_le_mul (Nat.mul_le_mul_left _ lk) lk
      omega
    clear lS lC lk tb
    by_cases hlt : k < bs.length
    · have hki : (k : Int) < (bs.length : Int) := by omega
      have hcell := hb'.out.1 k hlt
      have hc : bs[k] < 256 := hb'.out.2.2 _ (List.getElem_mem hlt)
      have nx : Hid (S + bs[k] = totN (bs.take (k + 1)) ∧ M ^^^ bs[k] = mixB (bs.take (k + 1)) ∧ C + (S + bs[k]) = (secN (bs.take (k + 1))).2) := by
        refine ⟨?_, ?_, ?_⟩
        · rw [take_snoc bs hlt, totN_snoc, ← vS]
        · rw [take_snoc bs hlt, mixB_snoc, ← vM]
        · rw [take_snoc bs hlt, secN_snoc, secN_one, ← vC, ← vS]
      clear hv vS vM vC
      generalize bs[k] = c at *
      obtain ⟨M2, hM2⟩ : ∃ M2 : Nat, M ^^^ c = M2 := ⟨_, rfl⟩
      have xr : bits .xor .i64 (M : Int) (c : Int) = (M2 : Int) := by rw [i64_xor_small lM hc, hM2]
      rw [hM2] at nx
      replace nx : Hid (S + c = totN (bs.take (k + 1)) ∧ M2 = mixB (bs.take (k + 1)) ∧ C + (S + c) = (secN (bs.take (k + 1))).2) := nx
      clear hM2
      have hci : (0 : Int) ≤ (c : Int) ∧ (c : Int) < 256 := ⟨by omega, by omega⟩
      go_wp2
      exact ⟨⟨k + 1, S + c, M2, C + (S + c), by omega, by simp, by simp, by simp, by simp, by simp, nx⟩, by simp [intOf]; omega⟩
    · obtain rfl : k = bs.length := by omega
      rw [List.take_length] at vS vM vC
      clear hlt hk hv
      clear vS vM vC
      go_wp2_with fail
      refine (cT _ (Below.refl _ _)).mono ?_
      rintro e w1 ⟨rfl, hb1⟩
      have B : Hid (Below w.heap.size w w1) := hb1
      clear hb1
      go_wp2_with fail
      refine (big_any V 2 w1 hV (by omega)).mono ?_
      rintro e w2 ⟨x, rfl, hr, hb2⟩
      have R : Hid (BytesAt w2 x (endK 6 bs)) := by
        show BytesAt w2 x (bigL (sumV 16 32773 0 true 0 bs) 2)
        rw [eV.out]; exact hr.at
      replace B : Hid (Below w.heap.size w w2) := belowT B.out hb2
      clear hr hb2
      go_wp2
      go_ret2
      exact ⟨_, rfl, R.out, B.out⟩

set_option maxRecDepth 100000 in
set_option maxHeartbeats 4000000 in
theorem rof7_nil (w : World) (V : Nat) (hV : V < 4294967296) (eV : Hid (sumV 16 4129 65535 false 0 [] = V)) (cT : RSumAtK w (.agg #[.int .i64 16, .int .u32 4129, .int .u32 65535, .bool false, .int .u32 0]) (.slice none 0 0) V) :
    Calls Try.prog 10 #[.string e7, .slice none 0 0] w fun e w' => ∃ x, e = .returned (.tuple #[x, .bool true]) ∧ BytesAt w' x (endK 7 []) ∧ Below w.heap.size w w' := by
  go_enter Try.func10, Try.ntmps10
  go_wp2
  go_loop [6, 7, 8, 9, 10] (fun a b c d i => a = .int .i64 0 ∧ b = .int .i64 0 ∧ c = .int .i64 0 ∧ d = .int .i64 0 ∧ i = .int .i64 0) (fun _ _ _ _ _ => 0)
  case atStart => exact ⟨rfl, rfl, rfl, rfl, rfl⟩
  case round =>
    obtain ⟨rfl, rfl, rfl, rfl, rfl⟩ := hrel
    go_wp2_with fail
    refine (cT _ (Below.refl _ _)).mono ?_
    rintro e w1 ⟨rfl, hb1⟩
    have B : Hid (Below w.heap.size w w1) := hb1
    clear hb1
    go_wp2_with fail
    refine (big_any V 2 w1 hV (by omega)).mono ?_
    rintro e w2 ⟨x, rfl, hr, hb2⟩
    have R : Hid (BytesAt w2 x (endK 7 [])) := by
      show BytesAt w2 x (bigL (sumV 16 4129 65535 false 0 []) 2)
      rw [eV.out]; exact hr.at
    replace B : Hid (Below w.heap.size w w2) := belowT B.out hb2
    clear hr hb2
    go_wp2
    go_ret2
    exact ⟨_, rfl, R.out, B.out⟩

set_option maxRecDepth 100000 in
set_option maxHeartbeats 4000000 in
theorem rof7_row (w : World) (g o cap : Nat) (bs : List Nat) (hl : (bs.length : Int) ≤ 300) (hbs : AllBytes bs) (hb : BytesIn w g o bs) (hg : g < w.heap.size) (V : Nat) (hV : V < 4294967296) (eV : Hid (sumV 16 4129 65535 false 0 bs = V)) (cT : RSumAtK w (.agg #[.int .i64 16, .int .u32 4129, .int .u32 65535, .bool false, .int .u32 0]) (.slice (some ⟨g, o, none⟩) bs.length cap) V) :
    Calls Try.prog 10 #[.string e7, .slice (some ⟨g, o, none⟩) bs.length cap] w fun e w' => ∃ x, e = .returned (.tuple #[x, .bool true]) ∧ BytesAt w' x (endK 7 bs) ∧ Below w.heap.size w w' := by
  have hb' : Hid (BytesIn w g o bs ∧ g < w.heap.size ∧ AllBytes bs) := ⟨hb, hg, hbs⟩
  clear hb hg hbs
  go_enter Try.func10, Try.ntmps10
  go_wp2
  go_loop [6, 7, 8, 9, 10] (fun a b c d i => ∃ k S M C : Nat, (k : Int) ≤ (bs.length : Int) ∧ i = .int .i64 (k : Int) ∧ a = .int .i64 (S : Int) ∧ b = .int .i64 (M : Int) ∧ c = .int .i64 (C : Int) ∧ d = .int .i64 (S : Int) ∧ Hid (S = totN (bs.take k) ∧ M = mixB (bs.take k) ∧ C = (secN (bs.take k)).2)) (fun _ _ _ _ i => bs.length - (intOf i).toNat)
  case atStart => exact ⟨0, 0, 0, 0, by omega, rfl, rfl, rfl, rfl, rfl, rfl, rfl, rfl⟩
  case round =>
    obtain ⟨k, S, M, C, hk, rfl, rfl, rfl, rfl, rfl, hv⟩ := hrel
    obtain ⟨vS, vM, vC⟩ := hv.out
    have tb := take_bytes hb'.out.2.2 k
    have lS := tot_le tb
    have lM := mix_lt tb
    have lC := sec_le tb
    rw [← vS] at lS
    rw [← vM] at lM
    rw [← vC] at lC
    have lk : (bs.take k).length ≤ 300 := by rw [List.length_take]; omega
    have lS2 : (S : Int) ≤ 76500 := by omega
    have lC2 : (C : Int) ≤ 22950000 := by
      have h1 : 255 * (bs.take k).length * (bs.take k).length ≤ 255 * 300 * 300 := Nat.mul_le_mul (Nat.mul_le_mul_left _ lk) lk
      omega
    clear lS lC lk tb
    by_cases hlt : k < bs.length
    · have hki : (k : Int) < (bs.length : Int) := by omega
      have hcell := hb'.out.1 k hlt
      have hc : bs[k] < 256 := hb'.out.2.2 _ (List.getElem_mem hlt)
      have nx : Hid (S + bs[k] = totN (bs.take (k + 1)) ∧ M ^^^ bs[k] = mixB (bs.take (k + 1)) ∧ C + (S + bs[k]) = (secN (bs.take (k + 1))).2) := by
        refine ⟨?_, ?_, ?_⟩
        · rw [take_snoc bs hlt, totN_snoc, ← vS]
        · rw [take_snoc bs hlt, mixB_snoc, ← vM]
        · rw [take_snoc bs hlt, secN_snoc, secN_one, ← vC, ← vS]
      clear hv vS vM vC
      generalize bs[k] = c at *
      obtain ⟨M2, hM2⟩ : ∃ M2 : Nat, M ^^^ c = M2 := ⟨_, rfl⟩
      have xr : bits .xor .i64 (M : Int) (c : Int) = (M2 : Int) := by rw [i64_xor_small lM hc, hM2]
      rw [hM2] at nx
      replace nx : Hid (S + c = totN (bs.take (k + 1)) ∧ M2 = mixB (bs.take (k + 1)) ∧ C + (S + c) = (secN (bs.take (k + 1))).2) := nx
      clear hM2
      have hci : (0 : Int) ≤ (c : Int) ∧ (c : Int) < 256 := ⟨by omega, by omega⟩
      go_wp2
      exact ⟨⟨k + 1, S + c, M2, C + (S + c), by omega, by simp, by simp, by simp, by simp, by simp, nx⟩, by simp [intOf]; omega⟩
    · obtain rfl : k = bs.length := by omega
      rw [List.take_length] at vS vM vC
      clear hlt hk hv
      clear vS vM vC
      go_wp2_with fail
      refine (cT _ (Below.refl _ _)).mono ?_
      rintro e w1 ⟨rfl, hb1⟩
      have B : Hid (Below w.heap.size w w1) := hb1
      clear hb1
      go_wp2_with fail
      refine (big_any V 2 w1 hV (by omega)).mono ?_
      rintro e w2 ⟨x, rfl, hr, hb2⟩
      have R : Hid (BytesAt w2 x (endK 7 bs)) := by
        show BytesAt w2 x (bigL (sumV 16 4129 65535 false 0 bs) 2)
        rw [eV.out]; exact hr.at
      replace B : Hid (Below w.heap.size w w2) := belowT B.out hb2
      clear hr hb2
      go_wp2
      go_ret2
      exact ⟨_, rfl, R.out, B.out⟩

set_option maxRecDepth 100000 in
set_option maxHeartbeats 4000000 in
theorem rof8_nil (w : World) (V : Nat) (hV : V < 4294967296) (eV : Hid (sumV 32 79764919 4294967295 true 4294967295 [] = V)) (cT : RSumAtK w (.agg #[.int .i64 32, .int .u32 79764919, .int .u32 4294967295, .bool true, .int .u32 4294967295]) (.slice none 0 0) V) :
    Calls Try.prog 10 #[.string e8, .slice none 0 0] w fun e w' => ∃ x, e = .returned (.tuple #[x, .bool true]) ∧ BytesAt w' x (endK 8 []) ∧ Below w.heap.size w w' := by
  go_enter Try.func10, Try.ntmps10
  go_wp2
  go_loop [6, 7, 8, 9, 10] (fun a b c d i => a = .int .i64 0 ∧ b = .int .i64 0 ∧ c = .int .i64 0 ∧ d = .int .i64 0 ∧ i = .int .i64 0) (fun _ _ _ _ _ => 0)
  case atStart => exact ⟨rfl, rfl, rfl, rfl, rfl⟩
  case round =>
    obtain ⟨rfl, rfl, rfl, rfl, rfl⟩ := hrel
    go_wp2_with fail
    refine (cT _ (Below.refl _ _)).mono ?_
    rintro e w1 ⟨rfl, hb1⟩
    have B : Hid (Below w.heap.size w w1) := hb1
    clear hb1
    go_wp2_with fail
    refine (big_any V 4 w1 hV (by omega)).mono ?_
    rintro e w2 ⟨x, rfl, hr, hb2⟩
    have R : Hid (BytesAt w2 x (endK 8 [])) := by
      show BytesAt w2 x (bigL (sumV 32 79764919 4294967295 true 4294967295 []) 4)
      rw [eV.out]; exact hr.at
    replace B : Hid (Below w.heap.size w w2) := belowT B.out hb2
    clear hr hb2
    go_wp2
    go_ret2
    exact ⟨_, rfl, R.out, B.out⟩

set_option maxRecDepth 100000 in
set_option maxHeartbeats 4000000 in
theorem rof8_row (w : World) (g o cap : Nat) (bs : List Nat) (hl : (bs.length : Int) ≤ 300) (hbs : AllBytes bs) (hb : BytesIn w g o bs) (hg : g < w.heap.size) (V : Nat) (hV : V < 4294967296) (eV : Hid (sumV 32 79764919 4294967295 true 4294967295 bs = V)) (cT : RSumAtK w (.agg #[.int .i64 32, .int .u32 79764919, .int .u32 4294967295, .bool true, .int .u32 4294967295]) (.slice (some ⟨g, o, none⟩) bs.length cap) V) :
    Calls Try.prog 10 #[.string e8, .slice (some ⟨g, o, none⟩) bs.length cap] w fun e w' => ∃ x, e = .returned (.tuple #[x, .bool true]) ∧ BytesAt w' x (endK 8 bs) ∧ Below w.heap.size w w' := by
  have hb' : Hid (BytesIn w g o bs ∧ g < w.heap.size ∧ AllBytes bs) := ⟨hb, hg, hbs⟩
  clear hb hg hbs
  go_enter Try.func10, Try.ntmps10
  go_wp2
  go_loop [6, 7, 8, 9, 10] (fun a b c d i => ∃ k S M C : Nat, (k : Int) ≤ (bs.length : Int) ∧ i = .int .i64 (k : Int) ∧ a = .int .i64 (S : Int) ∧ b = .int .i64 (M : Int) ∧ c = .int .i64 (C : Int) ∧ d = .int .i64 (S : Int) ∧ Hid (S = totN (bs.take k) ∧ M = mixB (bs.take k) ∧ C = (secN (bs.take k)).2)) (fun _ _ _ _ i => bs.length - (intOf i).toNat)
  case atStart => exact ⟨0, 0, 0, 0, by omega, rfl, rfl, rfl, rfl, rfl, rfl, rfl, rfl⟩
  case round =>
    obtain ⟨k, S, M, C, hk, rfl, rfl, rfl, rfl, rfl, hv⟩ := hrel
    obtain ⟨vS, vM, vC⟩ := hv.out
    have tb := take_bytes hb'.out.2.2 k
    have lS := tot_le tb
    have lM := mix_lt tb
    have lC := sec_le tb
    rw [← vS] at lS
    rw [← vM] at lM
    rw [← vC] at lC
    have lk : (bs.take k).length ≤ 300 := by rw [List.length_take]; omega
    have lS2 : (S : Int) ≤ 76500 := by omega
    have lC2 : (C : Int) ≤ 22950000 := by
      have h1 : 255 * (bs.take k).length * (bs.take k).length ≤ 255 * 300 * 300 := Nat.mul_le_mul (Nat.mul_le_mul_left _ lk) lk
      omega
    clear lS lC lk tb
    by_cases hlt : k < bs.length
    · have hki : (k : Int) < (bs.length : Int) := by omega
      have hcell := hb'.out.1 k hlt
      have hc : bs[k] < 256 := hb'.out.2.2 _ (List.getElem_mem hlt)
      have nx : Hid (S + bs[k] = totN (bs.take (k + 1)) ∧ M ^^^ bs[k] = mixB (bs.take (k + 1)) ∧ C + (S + bs[k]) = (secN (bs.take (k + 1))).2) := by
        refine ⟨?_, ?_, ?_⟩
        · rw [take_snoc bs hlt, totN_snoc, ← vS]
        · rw [take_snoc bs hlt, mixB_snoc, ← vM]
        · rw [take_snoc bs hlt, secN_snoc, secN_one, ← vC, ← vS]
      clear hv vS vM vC
      generalize bs[k] = c at *
      obtain ⟨M2, hM2⟩ : ∃ M2 : Nat, M ^^^ c = M2 := ⟨_, rfl⟩
      have xr : bits .xor .i64 (M : Int) (c : Int) = (M2 : Int) := by rw [i64_xor_small lM hc, hM2]
      rw [hM2] at nx
      replace nx : Hid (S + c = totN (bs.take (k + 1)) ∧ M2 = mixB (bs.take (k + 1)) ∧ C + (S + c) = (secN (bs.take (k + 1))).2) := nx
      clear hM2
      have hci : (0 : Int) ≤ (c : Int) ∧ (c : Int) < 256 := ⟨by omega, by omega⟩
      go_wp2
      exact ⟨⟨k + 1, S + c, M2, C + (S + c), by omega, by simp, by simp, by simp, by simp, by simp, nx⟩, by simp [intOf]; omega⟩
    · obtain rfl : k = bs.length := by omega
      rw [List.take_length] at vS vM vC
      clear hlt hk hv
      clear vS vM vC
      go_wp2_with fail
      refine (cT _ (Below.refl _ _)).mono ?_
      rintro e w1 ⟨rfl, hb1⟩
      have B : Hid (Below w.heap.size w w1) := hb1
      clear hb1
      go_wp2_with fail
      refine (big_any V 4 w1 hV (by omega)).mono ?_
      rintro e w2 ⟨x, rfl, hr, hb2⟩
      have R : Hid (BytesAt w2 x (endK 8 bs)) := by
        show BytesAt w2 x (bigL (sumV 32 79764919 4294967295 true 4294967295 bs) 4)
        rw [eV.out]; exact hr.at
      replace B : Hid (Below w.heap.size w w2) := belowT B.out hb2
      clear hr hb2
      go_wp2
      go_ret2
      exact ⟨_, rfl, R.out, B.out⟩

set_option maxRecDepth 100000 in
set_option maxHeartbeats 4000000 in
theorem rof9_nil (w : World) (s : ByteArray) (h0 : (s.toList == [110, 111, 110, 101]) = false) (h1 : (s.toList == [115, 117, 109]) = false) (h2 : (s.toList == [108, 114, 99]) = false) (h3 : (s.toList == [120, 111, 114]) = false) (h4 : (s.toList == [102, 108, 101, 116, 99, 104, 101, 114]) = false) (h5 : (s.toList == [99, 114, 99, 56]) = false) (h6 : (s.toList == [99, 114, 99, 49, 54]) = false) (h7 : (s.toList == [99, 99, 105, 116, 116]) = false) (h8 : (s.toList == [99, 114, 99, 51, 50]) = false) :
    Calls Try.prog 10 #[.string s, .slice none 0 0] w fun e w' => e = .returned (.tuple #[.slice none 0 0, .bool false]) ∧ Below w.heap.size w w' := by
  go_enter Try.func10, Try.ntmps10
  go_wp2
  go_loop [6, 7, 8, 9, 10] (fun a b c d i => a = .int .i64 0 ∧ b = .int .i64 0 ∧ c = .int .i64 0 ∧ d = .int .i64 0 ∧ i = .int .i64 0) (fun _ _ _ _ _ => 0)
  case atStart => exact ⟨rfl, rfl, rfl, rfl, rfl⟩
  case round =>
    obtain ⟨rfl, rfl, rfl, rfl, rfl⟩ := hrel
    go_wp2
    go_ret2
    exact ⟨rfl, Below.refl _ _⟩

set_option maxRecDepth 100000 in
set_option maxHeartbeats 4000000 in
theorem rof9_row (w : World) (s : ByteArray) (h0 : (s.toList == [110, 111, 110, 101]) = false) (h1 : (s.toList == [115, 117, 109]) = false) (h2 : (s.toList == [108, 114, 99]) = false) (h3 : (s.toList == [120, 111, 114]) = false) (h4 : (s.toList == [102, 108, 101, 116, 99, 104, 101, 114]) = false) (h5 : (s.toList == [99, 114, 99, 56]) = false) (h6 : (s.toList == [99, 114, 99, 49, 54]) = false) (h7 : (s.toList == [99, 99, 105, 116, 116]) = false) (h8 : (s.toList == [99, 114, 99, 51, 50]) = false) (g o cap : Nat) (bs : List Nat) (hl : (bs.length : Int) ≤ 300) (hbs : AllBytes bs) (hb : BytesIn w g o bs) (hg : g < w.heap.size) :
    Calls Try.prog 10 #[.string s, .slice (some ⟨g, o, none⟩) bs.length cap] w fun e w' => e = .returned (.tuple #[.slice none 0 0, .bool false]) ∧ Below w.heap.size w w' := by
  have hb' : Hid (BytesIn w g o bs ∧ g < w.heap.size ∧ AllBytes bs) := ⟨hb, hg, hbs⟩
  clear hb hg hbs
  go_enter Try.func10, Try.ntmps10
  go_wp2
  go_loop [6, 7, 8, 9, 10] (fun a b c d i => ∃ k S M C : Nat, (k : Int) ≤ (bs.length : Int) ∧ i = .int .i64 (k : Int) ∧ a = .int .i64 (S : Int) ∧ b = .int .i64 (M : Int) ∧ c = .int .i64 (C : Int) ∧ d = .int .i64 (S : Int) ∧ Hid (S = totN (bs.take k) ∧ M = mixB (bs.take k) ∧ C = (secN (bs.take k)).2)) (fun _ _ _ _ i => bs.length - (intOf i).toNat)
  case atStart => exact ⟨0, 0, 0, 0, by omega, rfl, rfl, rfl, rfl, rfl, rfl, rfl, rfl⟩
  case round =>
    obtain ⟨k, S, M, C, hk, rfl, rfl, rfl, rfl, rfl, hv⟩ := hrel
    obtain ⟨vS, vM, vC⟩ := hv.out
    have tb := take_bytes hb'.out.2.2 k
    have lS := tot_le tb
    have lM := mix_lt tb
    have lC := sec_le tb
    rw [← vS] at lS
    rw [← vM] at lM
    rw [← vC] at lC
    have lk : (bs.take k).length ≤ 300 := by rw [List.length_take]; omega
    have lS2 : (S : Int) ≤ 76500 := by omega
    have lC2 : (C : Int) ≤ 22950000 := by
      have h1 : 255 * (bs.take k).length * (bs.take k).length ≤ 255 * 300 * 300 := Nat.mul_le_mul (Nat.mul_le_mul_left _ lk) lk
      omega
    clear lS lC lk tb
    by_cases hlt : k < bs.length
    · have hki : (k : Int) < (bs.length : Int) := by omega
      have hcell := hb'.out.1 k hlt
      have hc : bs[k] < 256 := hb'.out.2.2 _ (List.getElem_mem hlt)
      have nx : Hid (S + bs[k] = totN (bs.take (k + 1)) ∧ M ^^^ bs[k] = mixB (bs.take (k + 1)) ∧ C + (S + bs[k]) = (secN (bs.take (k + 1))).2) := by
        refine ⟨?_, ?_, ?_⟩
        · rw [take_snoc bs hlt, totN_snoc, ← vS]
        · rw [take_snoc bs hlt, mixB_snoc, ← vM]
        · rw [take_snoc bs hlt, secN_snoc, secN_one, ← vC, ← vS]
      clear hv vS vM vC
      generalize bs[k] = c at *
      obtain ⟨M2, hM2⟩ : ∃ M2 : Nat, M ^^^ c = M2 := ⟨_, rfl⟩
      have xr : bits .xor .i64 (M : Int) (c : Int) = (M2 : Int) := by rw [i64_xor_small lM hc, hM2]
      rw [hM2] at nx
      replace nx : Hid (S + c = totN (bs.take (k + 1)) ∧ M2 = mixB (bs.take (k + 1)) ∧ C + (S + c) = (secN (bs.take (k + 1))).2) := nx
      clear hM2
      have hci : (0 : Int) ≤ (c : Int) ∧ (c : Int) < 256 := ⟨by omega, by omega⟩
      go_wp2
      exact ⟨⟨k + 1, S + c, M2, C + (S + c), by omega, by simp, by simp, by simp, by simp, by simp, nx⟩, by simp [intOf]; omega⟩
    · obtain rfl : k = bs.length := by omega
      rw [List.take_length] at vS vM vC
      clear hlt hk hv
      clear vS vM vC
      go_wp2
      go_ret2
      exact ⟨rfl, Below.refl _ _⟩
end Go.Proofs.Ytoocppfdcalmfaa
