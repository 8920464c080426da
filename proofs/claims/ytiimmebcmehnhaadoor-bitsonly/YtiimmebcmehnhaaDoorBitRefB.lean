/-
  What the document's own Read returns of be, le, sbe, sle (layer 6). Conditions: one to four bytes, in memory that was there before.
-/
import Derived.Test.YtiimmebcmehnhaaDoorBitRefA
namespace Go.Proofs.YtiimmebcmehnhaaDoor
open Go.RowKit
set_option linter.unusedVariables false

theorem pow_small {k : Nat} (h : k ≤ 3) : 256 ^ k ≤ 16777216 := by
  have : 256 ^ k ≤ 256 ^ 3 := Nat.pow_le_pow_right (by omega) h
  omega
theorem pow_four {k : Nat} (h : k ≤ 4) : 256 ^ k ≤ 4294967296 := by
  have : 256 ^ k ≤ 256 ^ 4 := Nat.pow_le_pow_right (by omega) h
  omega
theorem ret_t {a b : Int} {v : Value} (h : a = b) : Ending.returned (.tuple #[.int .i64 a, v]) = .returned (.tuple #[.int .i64 b, v]) := by rw [h]
theorem take_len_le (bs : List Nat) (k : Nat) : (bs.take k).length ≤ k := by rw [List.length_take]; omega
theorem rev_get {bs : List Nat} {k j : Nat} (hk : k < bs.length) (hj : j = bs.length - 1 - k) (hjl : j < bs.length) : bs.reverse[k]'(by rw [List.length_reverse]; exact hk) = bs[j] := by
  subst hj
  rw [List.getElem_reverse]

set_option maxRecDepth 100000 in
set_option maxHeartbeats 4000000 in
theorem bread_be (w : World) (g o cap : Nat) (bs : List Nat) (hl : 1 ≤ (bs.length : Int) ∧ (bs.length : Int) ≤ 4) (hbs : AllBytes bs) (hb : BytesIn w g o bs) :
    Calls Tryd.prog 13 #[.string kBe, .slice (some ⟨g, o, none⟩) bs.length cap] w fun e w' => e = .returned (.tuple #[.int .i64 ((beN bs : Nat) : Int), .bool true]) ∧ w' = w := by
  have hb' : Hid (BytesIn w g o bs ∧ AllBytes bs) := ⟨hb, hbs⟩
  have hrb : Hid (AllBytes bs) := hbs
  clear hb hbs
  go_enter Tryd.func13, Tryd.ntmps13
  go_wp2
  go_loop [6, 10, 11] (fun a b i => ∃ k N A : Nat, (k : Int) ≤ (bs.length : Int) ∧ i = .int .i64 (k : Int) ∧ a = .int .i64 (N : Int) ∧ b = .int .i64 (A : Int) ∧ Hid (N = beN (bs.take k) ∧ A = 256 ^ k)) (fun _ _ i => bs.length - (intOf i).toNat)
  case atStart => exact ⟨0, 0, 1, by omega, rfl, rfl, rfl, rfl, rfl⟩
  case round =>
    obtain ⟨k, N, A, hk, rfl, rfl, rfl, hv⟩ := hrel
    have lN : N < 256 ^ k := by
      have h1 := beN_lt (bs := bs.take k) (fun c hc => hrb.out c (List.mem_of_mem_take hc))
      have h2 : 256 ^ (bs.take k).length ≤ 256 ^ k := Nat.pow_le_pow_right (by omega) (take_len_le _ _)
      have := hv.out.1
      omega
    have hA := hv.out.2
    by_cases hlt : k < bs.length
    · have hki : (k : Int) < (bs.length : Int) := by omega
      have p3 := pow_small (k := k) (by omega)
      have lN2 : (N : Int) < 16777216 := by omega
      have lA2 : (A : Int) ≤ 16777216 := by omega
      have hcell := hb'.out.1 k hlt
      have hc : bs[k] < 256 := hb'.out.2 _ (List.getElem_mem hlt)
      have nx : Hid (256 * N + bs[k] = beN (bs.take (k + 1)) ∧ 256 ^ k * 256 = 256 ^ (k + 1)) := by
        refine ⟨?_, (Nat.pow_succ ..).symm⟩
        rw [take_snoc bs hlt, beN_snoc, ← hv.out.1]
      rw [← hA] at nx
      replace nx : Hid (256 * N + bs[k] = beN (bs.take (k + 1)) ∧ A * 256 = 256 ^ (k + 1)) := nx
      clear hv hA p3 lN
      generalize bs[k] = c at *
      have hci : (0 : Int) ≤ (c : Int) ∧ (c : Int) < 256 := ⟨by omega, by omega⟩
      go_wp2
      exact ⟨⟨k + 1, 256 * N + c, A * 256, by omega, by simp, by simp, by simp, nx⟩, by simp [intOf]; omega⟩
    · obtain rfl : k = bs.length := by omega
      have p4 := pow_four (k := bs.length) (by omega)
      have fin : Hid (N = beN bs) := by have := hv.out.1; rwa [List.take_length] at this
      have lN2 : (N : Int) < 4294967296 := by omega
      have lA2 : (A : Int) ≤ 4294967296 := by omega
      clear hv hA p4 lN hlt hk
      go_wp2
      go_ret2
      exact ⟨ret_t (by rw [fin.out]), rfl⟩

set_option maxRecDepth 100000 in
set_option maxHeartbeats 4000000 in
theorem bread_le (w : World) (g o cap : Nat) (bs : List Nat) (hl : 1 ≤ (bs.length : Int) ∧ (bs.length : Int) ≤ 4) (hbs : AllBytes bs) (hb : BytesIn w g o bs) :
    Calls Tryd.prog 13 #[.string kLe, .slice (some ⟨g, o, none⟩) bs.length cap] w fun e w' => e = .returned (.tuple #[.int .i64 ((beN bs.reverse : Nat) : Int), .bool true]) ∧ w' = w := by
  have hb' : Hid (BytesIn w g o bs ∧ AllBytes bs) := ⟨hb, hbs⟩
  have hrb : Hid (AllBytes bs.reverse) := all_rev hbs
  clear hb hbs
  go_enter Tryd.func13, Tryd.ntmps13
  go_wp2
  go_loop [6, 10, 11] (fun a b i => ∃ k N A : Nat, (k : Int) ≤ (bs.length : Int) ∧ i = .int .i64 (k : Int) ∧ a = .int .i64 (N : Int) ∧ b = .int .i64 (A : Int) ∧ Hid (N = beN (bs.reverse.take k) ∧ A = 256 ^ k)) (fun _ _ i => bs.length - (intOf i).toNat)
  case atStart => exact ⟨0, 0, 1, by omega, rfl, rfl, rfl, rfl, rfl⟩
  case round =>
    obtain ⟨k, N, A, hk, rfl, rfl, rfl, hv⟩ := hrel
    have lN : N < 256 ^ k := by
      have h1 := beN_lt (bs := bs.reverse.take k) (fun c hc => hrb.out c (List.mem_of_mem_take hc))
      have h2 : 256 ^ (bs.reverse.take k).length ≤ 256 ^ k := Nat.pow_le_pow_right (by omega) (take_len_le _ _)
      have := hv.out.1
      omega
    have hA := hv.out.2
    by_cases hlt : k < bs.length
    · have hki : (k : Int) < (bs.length : Int) := by omega
      have p3 := pow_small (k := k) (by omega)
      have lN2 : (N : Int) < 16777216 := by omega
      have lA2 : (A : Int) ≤ 16777216 := by omega
      obtain ⟨j, hj⟩ : ∃ j : Nat, j = bs.length - 1 - k := ⟨_, rfl⟩
      have hjl : j < bs.length := by omega
      have hj1 : (bs.length : Int) - 1 - (k : Int) = (j : Int) := by omega
      have hj2 : (j : Int) < (bs.length : Int) := by omega
      have hcell := hb'.out.1 k hlt
      have hcj := hb'.out.1 j hjl
      have hc : bs[j] < 256 := hb'.out.2 _ (List.getElem_mem hjl)
      have gt : bs.reverse[k]'(by rw [List.length_reverse]; exact hlt) = bs[j] := rev_get hlt hj hjl
      have nx : Hid (256 * N + bs[j] = beN (bs.reverse.take (k + 1)) ∧ 256 ^ k * 256 = 256 ^ (k + 1)) := by
        refine ⟨?_, (Nat.pow_succ ..).symm⟩
        rw [take_snoc bs.reverse (by rw [List.length_reverse]; exact hlt), gt, beN_snoc, ← hv.out.1]
      rw [← hA] at nx
      replace nx : Hid (256 * N + bs[j] = beN (bs.reverse.take (k + 1)) ∧ A * 256 = 256 ^ (k + 1)) := nx
      clear hv hA p3 lN gt hj
      generalize bs[j] = c at *
      generalize bs[k] = c0 at *
      have hci : (0 : Int) ≤ (c : Int) ∧ (c : Int) < 256 := ⟨by omega, by omega⟩
      go_wp2
      exact ⟨⟨k + 1, 256 * N + c, A * 256, by omega, by simp, by simp, by simp, nx⟩, by simp [intOf]; omega⟩
    · obtain rfl : k = bs.length := by omega
      have p4 := pow_four (k := bs.length) (by omega)
      have fin : Hid (N = beN bs.reverse) := by have := hv.out.1; rwa [← List.length_reverse, List.take_length] at this
      have lN2 : (N : Int) < 4294967296 := by omega
      have lA2 : (A : Int) ≤ 4294967296 := by omega
      clear hv hA p4 lN hlt hk
      go_wp2
      go_ret2
      exact ⟨ret_t (by rw [fin.out]), rfl⟩

set_option maxRecDepth 100000 in
set_option maxHeartbeats 4000000 in
theorem bread_sbe (w : World) (g o cap : Nat) (bs : List Nat) (hl : 1 ≤ (bs.length : Int) ∧ (bs.length : Int) ≤ 4) (hbs : AllBytes bs) (hb : BytesIn w g o bs) :
    Calls Tryd.prog 13 #[.string kSbe, .slice (some ⟨g, o, none⟩) bs.length cap] w fun e w' => e = .returned (.tuple #[.int .i64 (sgnV (beN bs) bs.length), .bool true]) ∧ w' = w := by
  have hb' : Hid (BytesIn w g o bs ∧ AllBytes bs) := ⟨hb, hbs⟩
  have hrb : Hid (AllBytes bs) := hbs
  obtain ⟨S, hS⟩ : ∃ S, sgnV (beN bs) bs.length = S := ⟨_, rfl⟩
  rw [hS]
  replace hS : Hid (sgnV (beN bs) bs.length = S) := hS
  clear hb hbs
  go_enter Tryd.func13, Tryd.ntmps13
  go_wp2
  go_loop [6, 10, 11] (fun a b i => ∃ k N A : Nat, (k : Int) ≤ (bs.length : Int) ∧ i = .int .i64 (k : Int) ∧ a = .int .i64 (N : Int) ∧ b = .int .i64 (A : Int) ∧ Hid (N = beN (bs.take k) ∧ A = 256 ^ k)) (fun _ _ i => bs.length - (intOf i).toNat)
  case atStart => exact ⟨0, 0, 1, by omega, rfl, rfl, rfl, rfl, rfl⟩
  case round =>
    obtain ⟨k, N, A, hk, rfl, rfl, rfl, hv⟩ := hrel
    have lN : N < 256 ^ k := by
      have h1 := beN_lt (bs := bs.take k) (fun c hc => hrb.out c (List.mem_of_mem_take hc))
      have h2 : 256 ^ (bs.take k).length ≤ 256 ^ k := Nat.pow_le_pow_right (by omega) (take_len_le _ _)
      have := hv.out.1
      omega
    have hA := hv.out.2
    by_cases hlt : k < bs.length
    · have hki : (k : Int) < (bs.length : Int) := by omega
      have p3 := pow_small (k := k) (by omega)
      have lN2 : (N : Int) < 16777216 := by omega
      have lA2 : (A : Int) ≤ 16777216 := by omega
      have hcell := hb'.out.1 k hlt
      have hc : bs[k] < 256 := hb'.out.2 _ (List.getElem_mem hlt)
      have nx : Hid (256 * N + bs[k] = beN (bs.take (k + 1)) ∧ 256 ^ k * 256 = 256 ^ (k + 1)) := by
        refine ⟨?_, (Nat.pow_succ ..).symm⟩
        rw [take_snoc bs hlt, beN_snoc, ← hv.out.1]
      rw [← hA] at nx
      replace nx : Hid (256 * N + bs[k] = beN (bs.take (k + 1)) ∧ A * 256 = 256 ^ (k + 1)) := nx
      clear hv hA p3 lN
      generalize bs[k] = c at *
      have hci : (0 : Int) ≤ (c : Int) ∧ (c : Int) < 256 := ⟨by omega, by omega⟩
      go_wp2
      exact ⟨⟨k + 1, 256 * N + c, A * 256, by omega, by simp, by simp, by simp, nx⟩, by simp [intOf]; omega⟩
    · obtain rfl : k = bs.length := by omega
      have p4 := pow_four (k := bs.length) (by omega)
      have fin : N = beN bs := by have := hv.out.1; rwa [List.take_length] at this
      have lN2 : (N : Int) < 4294967296 := by omega
      have lA2 : (0 : Int) ≤ (A : Int) ∧ (A : Int) ≤ 4294967296 := ⟨by omega, by omega⟩
      have sg : Hid (S = if A / 2 ≤ N then (N : Int) - (A : Int) else (N : Int)) := by
        have h := hS.out
        rw [← fin] at h
        unfold Hid
        rw [← h]
        unfold sgnV; rw [hA]
      clear hv hA p4 lN hlt hk fin hS
      by_cases hge : A / 2 ≤ N
      · have q1 : (A : Int) / 2 ≤ (N : Int) := by omega
        have fin : Hid (S = (N : Int) - (A : Int)) := by have := sg.out; rwa [if_pos hge] at this
        clear sg
        go_wp2
        go_ret2
        exact ⟨ret_t fin.out.symm, rfl⟩
      · have q1 : ¬ (A : Int) / 2 ≤ (N : Int) := by omega
        have q2 : (N : Int) < (A : Int) / 2 := by omega
        have fin : Hid (S = (N : Int)) := by have := sg.out; rwa [if_neg hge] at this
        clear sg
        go_wp2
        go_ret2
        exact ⟨ret_t fin.out.symm, rfl⟩

set_option maxRecDepth 100000 in
set_option maxHeartbeats 4000000 in
theorem bread_sle (w : World) (g o cap : Nat) (bs : List Nat) (hl : 1 ≤ (bs.length : Int) ∧ (bs.length : Int) ≤ 4) (hbs : AllBytes bs) (hb : BytesIn w g o bs) :
    Calls Tryd.prog 13 #[.string kSle, .slice (some ⟨g, o, none⟩) bs.length cap] w fun e w' => e = .returned (.tuple #[.int .i64 (sgnV (beN bs.reverse) bs.length), .bool true]) ∧ w' = w := by
  have hb' : Hid (BytesIn w g o bs ∧ AllBytes bs) := ⟨hb, hbs⟩
  have hrb : Hid (AllBytes bs.reverse) := all_rev hbs
  obtain ⟨S, hS⟩ : ∃ S, sgnV (beN bs.reverse) bs.length = S := ⟨_, rfl⟩
  rw [hS]
  replace hS : Hid (sgnV (beN bs.reverse) bs.length = S) := hS
  clear hb hbs
  go_enter Tryd.func13, Tryd.ntmps13
  go_wp2
  go_loop [6, 10, 11] (fun a b i => ∃ k N A : Nat, (k : Int) ≤ (bs.length : Int) ∧ i = .int .i64 (k : Int) ∧ a = .int .i64 (N : Int) ∧ b = .int .i64 (A : Int) ∧ Hid (N = beN (bs.reverse.take k) ∧ A = 256 ^ k)) (fun _ _ i => bs.length - (intOf i).toNat)
  case atStart => exact ⟨0, 0, 1, by omega, rfl, rfl, rfl, rfl, rfl⟩
  case round =>
    obtain ⟨k, N, A, hk, rfl, rfl, rfl, hv⟩ := hrel
    have lN : N < 256 ^ k := by
      have h1 := beN_lt (bs := bs.reverse.take k) (fun c hc => hrb.out c (List.mem_of_mem_take hc))
      have h2 : 256 ^ (bs.reverse.take k).length ≤ 256 ^ k := Nat.pow_le_pow_right (by omega) (take_len_le _ _)
      have := hv.out.1
      omega
    have hA := hv.out.2
    by_cases hlt : k < bs.length
    · have hki : (k : Int) < (bs.length : Int) := by omega
      have p3 := pow_small (k := k) (by omega)
      have lN2 : (N : Int) < 16777216 := by omega
      have lA2 : (A : Int) ≤ 16777216 := by omega
      obtain ⟨j, hj⟩ : ∃ j : Nat, j = bs.length - 1 - k := ⟨_, rfl⟩
      have hjl : j < bs.length := by omega
      have hj1 : (bs.length : Int) - 1 - (k : Int) = (j : Int) := by omega
      have hj2 : (j : Int) < (bs.length : Int) := by omega
      have hcell := hb'.out.1 k hlt
      have hcj := hb'.out.1 j hjl
      have hc : bs[j] < 256 := hb'.out.2 _ (List.getElem_mem hjl)
      have gt : bs.reverse[k]'(by rw [List.length_reverse]; exact hlt) = bs[j] := rev_get hlt hj hjl
      have nx : Hid (256 * N + bs[j] = beN (bs.reverse.take (k + 1)) ∧ 256 ^ k * 256 = 256 ^ (k + 1)) := by
        refine ⟨?_, (Nat.pow_succ ..).symm⟩
        rw [take_snoc bs.reverse (by rw [List.length_reverse]; exact hlt), gt, beN_snoc, ← hv.out.1]
      rw [← hA] at nx
      replace nx : Hid (256 * N + bs[j] = beN (bs.reverse.take (k + 1)) ∧ A * 256 = 256 ^ (k + 1)) := nx
      clear hv hA p3 lN gt hj
      generalize bs[j] = c at *
      generalize bs[k] = c0 at *
      have hci : (0 : Int) ≤ (c : Int) ∧ (c : Int) < 256 := ⟨by omega, by omega⟩
      go_wp2
      exact ⟨⟨k + 1, 256 * N + c, A * 256, by omega, by simp, by simp, by simp, nx⟩, by simp [intOf]; omega⟩
    · obtain rfl : k = bs.length := by omega
      have p4 := pow_four (k := bs.length) (by omega)
      have fin : N = beN bs.reverse := by have := hv.out.1; rwa [← List.length_reverse, List.take_length] at this
      have lN2 : (N : Int) < 4294967296 := by omega
      have lA2 : (0 : Int) ≤ (A : Int) ∧ (A : Int) ≤ 4294967296 := ⟨by omega, by omega⟩
      have sg : Hid (S = if A / 2 ≤ N then (N : Int) - (A : Int) else (N : Int)) := by
        have h := hS.out
        rw [← fin] at h
        unfold Hid
        rw [← h]
        unfold sgnV; rw [hA]
      clear hv hA p4 lN hlt hk fin hS
      by_cases hge : A / 2 ≤ N
      · have q1 : (A : Int) / 2 ≤ (N : Int) := by omega
        have fin : Hid (S = (N : Int) - (A : Int)) := by have := sg.out; rwa [if_pos hge] at this
        clear sg
        go_wp2
        go_ret2
        exact ⟨ret_t fin.out.symm, rfl⟩
      · have q1 : ¬ (A : Int) / 2 ≤ (N : Int) := by omega
        have q2 : (N : Int) < (A : Int) / 2 := by omega
        have fin : Hid (S = (N : Int)) := by have := sg.out; rwa [if_neg hge] at this
        clear sg
        go_wp2
        go_ret2
        exact ⟨ret_t fin.out.symm, rfl⟩
end Go.Proofs.YtiimmebcmehnhaaDoor
