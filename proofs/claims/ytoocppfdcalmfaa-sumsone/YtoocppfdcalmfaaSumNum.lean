/-
  What the program's own nothing, added, lacking, madeOne, fletcher return, and the closures of divided (layer 5). Conditions: the bytes lie in memory that was there before, at most 300.
-/
import Derived.Laws.BitsAllLaws
import Derived.Laws.Shifts
import Derived.Test.YtoocppfdcalmfaaSumCon
namespace Go.Proofs.Ytoocppfdcalmfaa
open Go.RowKit
set_option linter.unusedVariables false

set_option maxHeartbeats 1000000 in
theorem nothing_any (v : Value) (w : World) : Calls Try.prog 18 #[v] w fun e w' => e = .returned (.int .u32 0) ∧ w' = w := by
  go_enter Try.func18, Try.ntmps18
  go_wp2
  go_ret
  exact ⟨rfl, rfl⟩

set_option maxHeartbeats 2000000 in
theorem added_nil (w : World) : Calls Try.prog 19 #[.slice none 0 0] w fun e w' => e = .returned (.int .u32 0) ∧ w' = w := by
  go_enter Try.func19, Try.ntmps19
  go_wp2
  go_loop [3, 8] (fun a i => a = .int .u8 0 ∧ i = .int .i64 0) (fun _ _ => 0)
  case atStart => exact ⟨rfl, rfl⟩
  case round =>
    obtain ⟨rfl, rfl⟩ := hrel
    go_wp2
    go_ret
    exact ⟨rfl, rfl⟩
set_option maxHeartbeats 2000000 in
theorem added_row (w : World) (g o cap : Nat) (bs : List Nat) (hl : (bs.length : Int) ≤ 300) (hbs : AllBytes bs) (hb : BytesIn w g o bs) :
    Calls Try.prog 19 #[.slice (some ⟨g, o, none⟩) bs.length cap] w fun e w' => e = .returned (.int .u32 ((totN bs % 256 : Nat) : Int)) ∧ w' = w := by
  have hb' : Hid (BytesIn w g o bs ∧ AllBytes bs) := ⟨hb, hbs⟩
  clear hb hbs
  go_enter Try.func19, Try.ntmps19
  go_wp2
  go_loop [3, 8] (fun a i => ∃ k S : Nat, (k : Int) ≤ (bs.length : Int) ∧ i = .int .i64 (k : Int) ∧ a = .int .u8 (S : Int) ∧ Hid (S = totN (bs.take k) % 256)) (fun _ i => bs.length - (intOf i).toNat)
  case atStart => exact ⟨0, 0, by omega, rfl, rfl, rfl⟩
  case round =>
    obtain ⟨k, S, hk, rfl, rfl, hv⟩ := hrel
    have lS : (S : Int) < 256 := by have := hv.out; omega
    by_cases hlt : k < bs.length
    · have hki : (k : Int) < (bs.length : Int) := by omega
      have hcell := hb'.out.1 k hlt
      have hc : bs[k] < 256 := hb'.out.2 _ (List.getElem_mem hlt)
      obtain ⟨S2, hS2⟩ : ∃ S2 : Nat, (S + bs[k]) % 256 = S2 := ⟨_, rfl⟩
      have nx : Hid (S2 = totN (bs.take (k + 1)) % 256) := by
        unfold Hid
        rw [take_snoc bs hlt, totN_snoc, ← hS2, hv.out]; omega
      have ad : IntKind.u8.wrap ((S : Int) + (bs[k] : Int)) = (S2 : Int) := by simp only [IntKind.wrap_u8']; omega
      clear hv hS2
      generalize bs[k] = c at *
      go_wp2
      exact ⟨⟨k + 1, S2, by omega, by simp, rfl, nx⟩, by simp [intOf]; omega⟩
    · obtain rfl : k = bs.length := by omega
      have fin : Hid (S = totN bs % 256) := by have := hv.out; rwa [List.take_length] at this
      have cv : IntKind.u32.wrap (S : Int) = (S : Int) := by simp only [IntKind.wrap_u32']; omega
      clear hv hlt hk
      go_wp2
      go_ret
      exact ⟨ret_nat fin.out, rfl⟩
theorem added_any (v : Value) (bs : List Nat) (w : World) (hv : BytesAt w v bs) (hl : (bs.length : Int) ≤ 300) (hb : AllBytes bs) : Calls Try.prog 19 #[v] w fun e w' => e = .returned (.int .u32 ((totN bs % 256 : Nat) : Int)) ∧ w' = w := by
  rcases hv with ⟨rfl, rfl⟩ | ⟨g, o, cap, rfl, h1, _⟩
  · exact added_nil w
  · exact added_row w g o cap bs hl hb h1
set_option maxHeartbeats 2000000 in
theorem lacking_any (v : Value) (bs : List Nat) (w : World) (hv : BytesAt w v bs) (hl : (bs.length : Int) ≤ 300) (hb : AllBytes bs) : Calls Try.prog 20 #[v] w fun e w' => e = .returned (.int .u32 (((256 - totN bs % 256) % 256 : Nat) : Int)) ∧ w' = w := by
  have f : Hid (Calls Try.prog 19 #[v] w fun e w' => e = .returned (.int .u32 ((totN bs % 256 : Nat) : Int)) ∧ w' = w) := added_any v bs w hv hl hb
  obtain ⟨T, hT⟩ : ∃ T, totN bs % 256 = T := ⟨_, rfl⟩
  have lT : (T : Int) < 256 := by omega
  rw [hT] at f
  rw [hT]
  replace f : Hid (Calls Try.prog 19 #[v] w fun e w' => e = .returned (.int .u32 (T : Int)) ∧ w' = w) := f
  obtain ⟨U, hU⟩ : ∃ U, (256 - T) % 256 = U := ⟨_, rfl⟩
  rw [hU]
  have a1 : IntKind.u8.wrap (T : Int) = (T : Int) := by simp only [IntKind.wrap_u8']; omega
  have a2 : IntKind.u8.wrap (-(T : Int)) = (U : Int) := by simp only [IntKind.wrap_u8']; omega
  have a3 : IntKind.u32.wrap (U : Int) = (U : Int) := by simp only [IntKind.wrap_u32']; omega
  clear hT hU hv hl hb
  go_enter Try.func20, Try.ntmps20
  go_wp2_with fail
  refine f.out.mono ?_
  rintro e w1 ⟨rfl, rfl⟩
  clear f
  go_wp2
  go_ret
  exact ⟨rfl, rfl⟩

set_option maxHeartbeats 2000000 in
theorem madeOne_nil (w : World) : Calls Try.prog 21 #[.slice none 0 0] w fun e w' => e = .returned (.int .u32 0) ∧ w' = w := by
  go_enter Try.func21, Try.ntmps21
  go_wp2
  go_loop [3, 8] (fun a i => a = .int .u8 0 ∧ i = .int .i64 0) (fun _ _ => 0)
  case atStart => exact ⟨rfl, rfl⟩
  case round =>
    obtain ⟨rfl, rfl⟩ := hrel
    go_wp2
    go_ret
    exact ⟨rfl, rfl⟩
set_option maxHeartbeats 2000000 in
theorem madeOne_row (w : World) (g o cap : Nat) (bs : List Nat) (hl : (bs.length : Int) ≤ 300) (hbs : AllBytes bs) (hb : BytesIn w g o bs) :
    Calls Try.prog 21 #[.slice (some ⟨g, o, none⟩) bs.length cap] w fun e w' => e = .returned (.int .u32 ((mixB bs : Nat) : Int)) ∧ w' = w := by
  have hb' : Hid (BytesIn w g o bs ∧ AllBytes bs) := ⟨hb, hbs⟩
  clear hb hbs
  go_enter Try.func21, Try.ntmps21
  go_wp2
  go_loop [3, 8] (fun a i => ∃ k M : Nat, (k : Int) ≤ (bs.length : Int) ∧ i = .int .i64 (k : Int) ∧ a = .int .u8 (M : Int) ∧ Hid (M = mixB (bs.take k))) (fun _ i => bs.length - (intOf i).toNat)
  case atStart => exact ⟨0, 0, by omega, rfl, rfl, rfl⟩
  case round =>
    obtain ⟨k, M, hk, rfl, rfl, hv⟩ := hrel
    have lM : M < 256 := by have := hv.out; rw [this]; exact mix_lt (take_bytes hb'.out.2 k)
    by_cases hlt : k < bs.length
    · have hki : (k : Int) < (bs.length : Int) := by omega
      have hcell := hb'.out.1 k hlt
      have hc : bs[k] < 256 := hb'.out.2 _ (List.getElem_mem hlt)
      obtain ⟨M2, hM2⟩ : ∃ M2 : Nat, M ^^^ bs[k] = M2 := ⟨_, rfl⟩
      have nx : Hid (M2 = mixB (bs.take (k + 1))) := by
        unfold Hid
        rw [take_snoc bs hlt, mixB_snoc, ← hM2, hv.out]
      have ad : bits .xor .u8 (M : Int) (bs[k] : Int) = (M2 : Int) := by rw [u8_xor_nat M bs[k] lM hc, hM2]
      clear hv hM2
      generalize bs[k] = c at *
      go_wp2
      exact ⟨⟨k + 1, M2, by omega, by simp, rfl, nx⟩, by simp [intOf]; omega⟩
    · obtain rfl : k = bs.length := by omega
      have fin : Hid (M = mixB bs) := by have := hv.out; rwa [List.take_length] at this
      have cv : IntKind.u32.wrap (M : Int) = (M : Int) := by simp only [IntKind.wrap_u32']; omega
      clear hv hlt hk
      go_wp2
      go_ret
      exact ⟨ret_nat fin.out, rfl⟩
theorem madeOne_any (v : Value) (bs : List Nat) (w : World) (hv : BytesAt w v bs) (hl : (bs.length : Int) ≤ 300) (hb : AllBytes bs) : Calls Try.prog 21 #[v] w fun e w' => e = .returned (.int .u32 ((mixB bs : Nat) : Int)) ∧ w' = w := by
  rcases hv with ⟨rfl, rfl⟩ | ⟨g, o, cap, rfl, h1, _⟩
  · exact madeOne_nil w
  · exact madeOne_row w g o cap bs hl hb h1

/-- Fletcher's number -/
def fleN (bs : List Nat) : Nat := ((secN bs).2 % 255) * 256 + totN bs % 255
set_option maxHeartbeats 2000000 in
theorem fletcher_nil (w : World) : Calls Try.prog 22 #[.slice none 0 0] w fun e w' => e = .returned (.int .u32 0) ∧ w' = w := by
  go_enter Try.func22, Try.ntmps22
  go_wp2
  go_loop [3, 4, 9] (fun a b i => a = .int .u32 0 ∧ b = .int .u32 0 ∧ i = .int .i64 0) (fun _ _ _ => 0)
  case atStart => exact ⟨rfl, rfl, rfl⟩
  case round =>
    obtain ⟨rfl, rfl, rfl⟩ := hrel
    have z : bits .or .u32 0 0 = 0 := by kernel_rfl
    go_wp2
    go_ret
    exact ⟨rfl, rfl⟩
set_option maxHeartbeats 2000000 in
theorem fletcher_row (w : World) (g o cap : Nat) (bs : List Nat) (hl : (bs.length : Int) ≤ 300) (hbs : AllBytes bs) (hb : BytesIn w g o bs) :
    Calls Try.prog 22 #[.slice (some ⟨g, o, none⟩) bs.length cap] w fun e w' => e = .returned (.int .u32 ((fleN bs : Nat) : Int)) ∧ w' = w := by
  have hb' : Hid (BytesIn w g o bs ∧ AllBytes bs) := ⟨hb, hbs⟩
  clear hb hbs
  go_enter Try.func22, Try.ntmps22
  go_wp2
  go_loop [3, 4, 9] (fun a b i => ∃ k F C : Nat, (k : Int) ≤ (bs.length : Int) ∧ i = .int .i64 (k : Int) ∧ a = .int .u32 (F : Int) ∧ b = .int .u32 (C : Int) ∧ Hid (F = totN (bs.take k) % 255 ∧ C = (secN (bs.take k)).2 % 255)) (fun _ _ i => bs.length - (intOf i).toNat)
  case atStart => exact ⟨0, 0, 0, by omega, rfl, rfl, rfl, rfl, rfl⟩
  case round =>
    obtain ⟨k, F, C, hk, rfl, rfl, rfl, hv⟩ := hrel
    have lF : F < 255 := by have := hv.out.1; omega
    have lC : C < 255 := by have := hv.out.2; omega
    by_cases hlt : k < bs.length
    · have hki : (k : Int) < (bs.length : Int) := by omega
      have hcell := hb'.out.1 k hlt
      have hc : bs[k] < 256 := hb'.out.2 _ (List.getElem_mem hlt)
      obtain ⟨F2, hF2⟩ : ∃ F2 : Nat, (F + bs[k]) % 255 = F2 := ⟨_, rfl⟩
      obtain ⟨C2, hC2⟩ : ∃ C2 : Nat, (C + F2) % 255 = C2 := ⟨_, rfl⟩
      have nx : Hid (F2 = totN (bs.take (k + 1)) % 255 ∧ C2 = (secN (bs.take (k + 1))).2 % 255) := by
        refine ⟨?_, ?_⟩
        · rw [take_snoc bs hlt, totN_snoc, ← hF2, hv.out.1]; omega
        · rw [take_snoc bs hlt, secN_snoc, secN_one, ← hC2, ← hF2, hv.out.1, hv.out.2]
          simp only
          omega
      clear hv
      generalize bs[k] = c at *
      have b0 : IntKind.u32.wrap (c : Int) = (c : Int) := by simp only [IntKind.wrap_u32']; omega
      have b1 : IntKind.u32.wrap ((F : Int) + (c : Int)) = (F : Int) + (c : Int) := by simp only [IntKind.wrap_u32']; omega
      have b2 : ((F : Int) + (c : Int)) % 255 = (F2 : Int) := by omega
      have b3 : IntKind.u32.wrap ((C : Int) + (F2 : Int)) = (C : Int) + (F2 : Int) := by simp only [IntKind.wrap_u32']; omega
      have b4 : ((C : Int) + (F2 : Int)) % 255 = (C2 : Int) := by omega
      have b5 : IntKind.u32.wrap (F2 : Int) = (F2 : Int) := by simp only [IntKind.wrap_u32']; omega
      have b6 : IntKind.u32.wrap (C2 : Int) = (C2 : Int) := by simp only [IntKind.wrap_u32']; omega
      clear hF2 hC2
      go_wp2
      exact ⟨⟨k + 1, F2, C2, by omega, by simp, by rw [b2], by rw [b4], nx⟩, by simp [intOf]; omega⟩
    · obtain rfl : k = bs.length := by omega
      have fin : Hid (C * 256 + F = fleN bs) := by have := hv.out; rw [List.take_length] at this; unfold Hid fleN; rw [this.1, this.2]
      have a2 : IntKind.u32.wrap ((C : Int) * 256) = (C : Int) * 256 := by simp only [IntKind.wrap_u32]; omega
      have a3 : bits .or .u32 ((C : Int) * 256) (F : Int) = ((C * 256 + F : Nat) : Int) := by
        have e1 : ((C : Int) * 256) = ((C * 256 : Nat) : Int) := by omega
        rw [e1, u32_or_nat _ _ (by omega) (by omega), nat_join 8 (C * 256) F (by omega) (by omega)]
      clear hv hlt hk
      obtain ⟨X, hX⟩ : ∃ X, C * 256 + F = X := ⟨_, rfl⟩
      rw [hX] at a3 fin
      clear hX
      replace fin : Hid (X = fleN bs) := fin
      go_wp2
      go_ret
      exact ⟨ret_nat fin.out, rfl⟩
theorem fletcher_any (v : Value) (bs : List Nat) (w : World) (hv : BytesAt w v bs) (hl : (bs.length : Int) ≤ 300) (hb : AllBytes bs) : Calls Try.prog 22 #[v] w fun e w' => e = .returned (.int .u32 ((fleN bs : Nat) : Int)) ∧ w' = w := by
  rcases hv with ⟨rfl, rfl⟩ | ⟨g, o, cap, rfl, h1, _⟩
  · exact fletcher_nil w
  · exact fletcher_row w g o cap bs hl hb h1
end Go.Proofs.Ytoocppfdcalmfaa
