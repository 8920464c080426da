/-
  What the program's own sum of width 16 returns (layer 4). Conditions: the numbers are below 2 to the width; the bytes lie in memory that was there before.
-/
import Derived.Test.YtoocppfdcalmfaaCrcPC
namespace Go.Proofs.Ytoocppfdcalmfaa
open Go.RowKit
set_option linter.unusedVariables false

set_option maxRecDepth 100000 in
set_option maxHeartbeats 4000000 in
theorem sum160_false (p f z : Nat) (w : World) (hp : p < 65536) (hf : f < 65536) (hz : z < 65536) :
    Calls Try.prog 31 #[kv 16 p f false z, .slice none 0 0] w fun e w' => e = .returned (.tuple #[.int .u32 ((sumN 16 p f false z [] : Nat) : Int), .int .i64 0]) ∧ Below w.heap.size w w' := by
  obtain ⟨T, L0, hS⟩ := sumN_of 16 p f false z []
  obtain ⟨S, hS2⟩ : ∃ S, sumN 16 p f false z [] = S := ⟨_, rfl⟩
  rw [hS2]
  rw [hS2] at hS
  clear hS2
  replace hS : Hid (S = T ^^^ z) := hS
  replace L0 : Hid (LeftN 16 p false [] f 0 T) := L0
  have K0 : Hid (KSt w (w.alloc (.cells (kcs 16 p f false z) 56)) (kcs 16 p f false z)) := KSt.first w _
  have af : IntKind.u16.wrap (f : Int) = (f : Int) := by simp only [IntKind.wrap_u16]; omega
  have ap : IntKind.u16.wrap (p : Int) = (p : Int) := by simp only [IntKind.wrap_u16]; omega
  go_enter Try.func31, Try.ntmps31
  go_wp2_with (go_at_call 36; refine (fits16_yes _ _ (by assumption)).mono ?_; rintro e w' ⟨rfl, rfl⟩)
  go_loopw [6, 30] (fun r i wr => ∃ k x : Nat, k ≤ 0 ∧ x < 65536 ∧ r = .int .u16 (x : Int) ∧ i = .int .i64 (k : Int) ∧ Hid (KSt w wr (kcs 16 p f false z)) ∧ Hid (LeftN 16 p false [] x k T)) (fun _ i _ => 0 - (intOf i).toNat)
  case atStart => exact ⟨0, f, by omega, hf, rfl, rfl, K0, L0⟩
  case round =>
    obtain ⟨k, x, hk, hx, rfl, rfl, ks, L⟩ := hrel
    clear K0 L0 af
    obtain ⟨k0, k1, k3, k4⟩ := ks.out.cells
    obtain rfl : k = 0 := by omega
    have dn : T = x := L.out.done.symm
    clear hk
    · clear ap
      have B : Hid (Below w.heap.size w wr) := ks.out.b
      have ax : IntKind.u32.wrap (x : Int) = (x : Int) := by simp only [IntKind.wrap_u32']; omega
      have fin : Hid (S = x ^^^ z) := by unfold Hid; rw [hS.out, dn]
      have ex : bits .xor .u32 (x : Int) (z : Int) = (S : Int) := by rw [u32_xor_nat x z (by omega) (by omega), fin.out]
      clear L ks hS fin
      go_wp2
      go_ret2
      exact ⟨rfl, B.out⟩

set_option maxRecDepth 100000 in
set_option maxHeartbeats 4000000 in
theorem sum16_false (p f z : Nat) (bs : List Nat) (gb ob capb : Nat) (w : World) (hp : p < 65536) (hf : f < 65536) (hz : z < 65536) (hbs : AllBytes bs) (hlen : (bs.length : Int) ≤ 9223372036854775807) (hb : BytesIn w gb ob bs) (hgb : gb < w.heap.size) :
    Calls Try.prog 31 #[kv 16 p f false z, .slice (some ⟨gb, ob, none⟩) bs.length capb] w fun e w' => e = .returned (.tuple #[.int .u32 ((sumN 16 p f false z bs : Nat) : Int), .int .i64 0]) ∧ Below w.heap.size w w' := by
  obtain ⟨T, L0, hS⟩ := sumN_of 16 p f false z bs
  obtain ⟨S, hS2⟩ : ∃ S, sumN 16 p f false z bs = S := ⟨_, rfl⟩
  rw [hS2]
  rw [hS2] at hS
  clear hS2
  replace hS : Hid (S = T ^^^ z) := hS
  replace L0 : Hid (LeftN 16 p false bs f 0 T) := L0
  have K0 : Hid (KSt w (w.alloc (.cells (kcs 16 p f false z) 56)) (kcs 16 p f false z)) := KSt.first w _
  have af : IntKind.u16.wrap (f : Int) = (f : Int) := by simp only [IntKind.wrap_u16]; omega
  have ap : IntKind.u16.wrap (p : Int) = (p : Int) := by simp only [IntKind.wrap_u16]; omega
  go_enter Try.func31, Try.ntmps31
  go_wp2_with (go_at_call 36; refine (fits16_yes _ _ (by assumption)).mono ?_; rintro e w' ⟨rfl, rfl⟩)
  go_loopw [6, 30] (fun r i wr => ∃ k x : Nat, k ≤ bs.length ∧ x < 65536 ∧ r = .int .u16 (x : Int) ∧ i = .int .i64 (k : Int) ∧ Hid (KSt w wr (kcs 16 p f false z)) ∧ Hid (LeftN 16 p false bs x k T)) (fun _ i _ => bs.length - (intOf i).toNat)
  case atStart => exact ⟨0, f, by omega, hf, rfl, rfl, K0, L0⟩
  case round =>
    obtain ⟨k, x, hk, hx, rfl, rfl, ks, L⟩ := hrel
    clear K0 L0 af
    obtain ⟨k0, k1, k3, k4⟩ := ks.out.cells
    by_cases hlt : k < bs.length
    · have hki : (k : Int) < (bs.length : Int) := by omega
      have hbk := hb.at hgb ks.out.b k hlt
      have hc : bs[k] < 256 := hbs bs[k] (List.getElem_mem hlt)
      have L1 : Hid (LeftN 16 p false bs (byN 16 p x (bcN false bs[k])) (k + 1) T) := L.out.next hlt
      clear L
      generalize bs[k] = c at *
      have hd : bcN false c < 256 := bcN_lt hc
      have hm : mixN 16 x (bcN false c) < 65536 := mixN_lt (w := 16) (by omega) hx hd
      have hy : Hid (byN 16 p x (bcN false c) < 65536) := byN_lt (w := 16) (by omega) hp hx hd
      have em : Hid (mixN 16 x (bcN false c) = x ^^^ (bcN false c * 256)) := rfl
      have eb : Hid (byN 16 p x (bcN false c) = itN 16 p 8 (mixN 16 x (bcN false c))) := rfl
      replace eb : Hid (byN 16 p x c = itN 16 p 8 (mixN 16 x c)) := eb
      replace em : Hid (mixN 16 x c = x ^^^ (c * 256)) := em
      replace hy : Hid (byN 16 p x c < 65536) := hy
      replace hm : mixN 16 x c < 65536 := hm
      replace L1 : Hid (LeftN 16 p false bs (byN 16 p x c) (k + 1) T) := L1
      clear hd
      have ad8 : IntKind.u8.wrap (c : Int) = (c : Int) := by simp only [IntKind.wrap_u8']; omega
      have ad : IntKind.u16.wrap (c : Int) = (c : Int) := by simp only [IntKind.wrap_u16]; omega
      have ash : IntKind.u16.wrap ((c : Int) * 256) = (c : Int) * 256 := by simp only [IntKind.wrap_u16]; omega
      obtain ⟨Y, hY⟩ : ∃ Y, byN 16 p x c = Y := ⟨_, rfl⟩
      rw [hY] at eb hy L1
      clear hY
      replace hy : Hid (Y < 65536) := hy
      replace L1 : Hid (LeftN 16 p false bs Y (k + 1) T) := L1
      have dc : Hid (∀ w, Calls Try.prog 37 #[.int .u16 ((mixN 16 x c : Nat) : Int), .int .u16 (p : Int), .int .i64 16] w fun e w' => e = .returned (.int .u16 (Y : Int)) ∧ w' = w) := by
        rw [show Y = itN 16 p 8 (mixN 16 x c) from eb.out]
        exact fun w => div16_any _ p w hm hp
      have axr : bits .xor .u16 (x : Int) ((c : Int) * 256) = ((mixN 16 x c : Nat) : Int) := by
        rw [em.out, ← u16_xor_nat x (c * 256) hx (by omega)]
        rfl
      clear em eb
      generalize mixN 16 x c = m at *
      go_wp2_with fail
      go_quiet (first | (go_at_call 37; refine Calls.quiet_of_same (dc.out _)))
      go_wp2
      exact ⟨⟨k + 1, Y, by omega, hy.out, rfl, by simp, ks.out.drewN _, L1⟩, by simp [intOf]; omega⟩
    · obtain rfl : k = bs.length := by omega
      have dn : T = x := L.out.done.symm
      clear ap
      have B : Hid (Below w.heap.size w wr) := ks.out.b
      have ax : IntKind.u32.wrap (x : Int) = (x : Int) := by simp only [IntKind.wrap_u32']; omega
      have fin : Hid (S = x ^^^ z) := by unfold Hid; rw [hS.out, dn]
      have ex : bits .xor .u32 (x : Int) (z : Int) = (S : Int) := by rw [u32_xor_nat x z (by omega) (by omega), fin.out]
      clear L ks hS fin
      go_wp2
      go_ret2
      exact ⟨rfl, B.out⟩

set_option maxRecDepth 100000 in
set_option maxHeartbeats 4000000 in
theorem sum160_true (p f z : Nat) (w : World) (hp : p < 65536) (hf : f < 65536) (hz : z < 65536) :
    Calls Try.prog 31 #[kv 16 p f true z, .slice none 0 0] w fun e w' => e = .returned (.tuple #[.int .u32 ((sumN 16 p f true z [] : Nat) : Int), .int .i64 0]) ∧ Below w.heap.size w w' := by
  obtain ⟨T, L0, hS⟩ := sumN_of 16 p f true z []
  obtain ⟨S, hS2⟩ : ∃ S, sumN 16 p f true z [] = S := ⟨_, rfl⟩
  rw [hS2]
  rw [hS2] at hS
  clear hS2
  replace hS : Hid (S = turnL T 16 ^^^ z) := hS
  replace L0 : Hid (LeftN 16 p true [] f 0 T) := L0
  have K0 : Hid (KSt w (w.alloc (.cells (kcs 16 p f true z) 56)) (kcs 16 p f true z)) := KSt.first w _
  have af : IntKind.u16.wrap (f : Int) = (f : Int) := by simp only [IntKind.wrap_u16]; omega
  have ap : IntKind.u16.wrap (p : Int) = (p : Int) := by simp only [IntKind.wrap_u16]; omega
  go_enter Try.func31, Try.ntmps31
  go_wp2_with (go_at_call 36; refine (fits16_yes _ _ (by assumption)).mono ?_; rintro e w' ⟨rfl, rfl⟩)
  go_loopw [6, 30] (fun r i wr => ∃ k x : Nat, k ≤ 0 ∧ x < 65536 ∧ r = .int .u16 (x : Int) ∧ i = .int .i64 (k : Int) ∧ Hid (KSt w wr (kcs 16 p f true z)) ∧ Hid (LeftN 16 p true [] x k T)) (fun _ i _ => 0 - (intOf i).toNat)
  case atStart => exact ⟨0, f, by omega, hf, rfl, rfl, K0, L0⟩
  case round =>
    obtain ⟨k, x, hk, hx, rfl, rfl, ks, L⟩ := hrel
    clear K0 L0 af
    obtain ⟨k0, k1, k3, k4⟩ := ks.out.cells
    obtain rfl : k = 0 := by omega
    have dn : T = x := L.out.done.symm
    clear hk
    · clear ap
      have B : Hid (Below w.heap.size w wr) := ks.out.b
      have ax : IntKind.u32.wrap (x : Int) = (x : Int) := by simp only [IntKind.wrap_u32']; omega
      have tc : TurnC x (turnL x 16) 16 := turnC (by omega) (by omega) (by omega)
      have td : turnL x 16 < 65536 := turn_lt x 16
      have fin : Hid (S = turnL x 16 ^^^ z) := by unfold Hid; rw [hS.out, dn]
      generalize turnL x 16 = y at *
      have ay : IntKind.u16.wrap (y : Int) = (y : Int) := by simp only [IntKind.wrap_u16]; omega
      have ay2 : IntKind.u32.wrap (y : Int) = (y : Int) := by simp only [IntKind.wrap_u32']; omega
      have ex : bits .xor .u32 (y : Int) (z : Int) = (S : Int) := by rw [u32_xor_nat y z (by omega) (by omega), fin.out]
      clear L ks hS fin
      go_wp2_with (go_at_call 34; refine (tc _).mono ?_; rintro e w' ⟨rfl, rfl⟩)
      go_ret2
      exact ⟨rfl, B.out⟩

set_option maxRecDepth 100000 in
set_option maxHeartbeats 4000000 in
theorem sum16_true (p f z : Nat) (bs : List Nat) (gb ob capb : Nat) (w : World) (hp : p < 65536) (hf : f < 65536) (hz : z < 65536) (hbs : AllBytes bs) (hlen : (bs.length : Int) ≤ 9223372036854775807) (hb : BytesIn w gb ob bs) (hgb : gb < w.heap.size) :
    Calls Try.prog 31 #[kv 16 p f true z, .slice (some ⟨gb, ob, none⟩) bs.length capb] w fun e w' => e = .returned (.tuple #[.int .u32 ((sumN 16 p f true z bs : Nat) : Int), .int .i64 0]) ∧ Below w.heap.size w w' := by
  obtain ⟨T, L0, hS⟩ := sumN_of 16 p f true z bs
  obtain ⟨S, hS2⟩ : ∃ S, sumN 16 p f true z bs = S := ⟨_, rfl⟩
  rw [hS2]
  rw [hS2] at hS
  clear hS2
  replace hS : Hid (S = turnL T 16 ^^^ z) := hS
  replace L0 : Hid (LeftN 16 p true bs f 0 T) := L0
  have K0 : Hid (KSt w (w.alloc (.cells (kcs 16 p f true z) 56)) (kcs 16 p f true z)) := KSt.first w _
  have af : IntKind.u16.wrap (f : Int) = (f : Int) := by simp only [IntKind.wrap_u16]; omega
  have ap : IntKind.u16.wrap (p : Int) = (p : Int) := by simp only [IntKind.wrap_u16]; omega
  go_enter Try.func31, Try.ntmps31
  go_wp2_with (go_at_call 36; refine (fits16_yes _ _ (by assumption)).mono ?_; rintro e w' ⟨rfl, rfl⟩)
  go_loopw [6, 30] (fun r i wr => ∃ k x : Nat, k ≤ bs.length ∧ x < 65536 ∧ r = .int .u16 (x : Int) ∧ i = .int .i64 (k : Int) ∧ Hid (KSt w wr (kcs 16 p f true z)) ∧ Hid (LeftN 16 p true bs x k T)) (fun _ i _ => bs.length - (intOf i).toNat)
  case atStart => exact ⟨0, f, by omega, hf, rfl, rfl, K0, L0⟩
  case round =>
    obtain ⟨k, x, hk, hx, rfl, rfl, ks, L⟩ := hrel
    clear K0 L0 af
    obtain ⟨k0, k1, k3, k4⟩ := ks.out.cells
    by_cases hlt : k < bs.length
    · have hki : (k : Int) < (bs.length : Int) := by omega
      have hbk := hb.at hgb ks.out.b k hlt
      have hc : bs[k] < 256 := hbs bs[k] (List.getElem_mem hlt)
      have L1 : Hid (LeftN 16 p true bs (byN 16 p x (bcN true bs[k])) (k + 1) T) := L.out.next hlt
      clear L
      generalize bs[k] = c at *
      have hd : bcN true c < 256 := bcN_lt hc
      have hm : mixN 16 x (bcN true c) < 65536 := mixN_lt (w := 16) (by omega) hx hd
      have hy : Hid (byN 16 p x (bcN true c) < 65536) := byN_lt (w := 16) (by omega) hp hx hd
      have em : Hid (mixN 16 x (bcN true c) = x ^^^ (bcN true c * 256)) := rfl
      have eb : Hid (byN 16 p x (bcN true c) = itN 16 p 8 (mixN 16 x (bcN true c))) := rfl
      have tc : TurnC c (bcN true c) 8 := turnC (by omega) (by omega) (by omega)
      have ac : IntKind.u32.wrap (c : Int) = (c : Int) := by simp only [IntKind.wrap_u32']; omega
      generalize bcN true c = d at *
      have ad8 : IntKind.u8.wrap (d : Int) = (d : Int) := by simp only [IntKind.wrap_u8']; omega
      have ad : IntKind.u16.wrap (d : Int) = (d : Int) := by simp only [IntKind.wrap_u16]; omega
      have ash : IntKind.u16.wrap ((d : Int) * 256) = (d : Int) * 256 := by simp only [IntKind.wrap_u16]; omega
      obtain ⟨Y, hY⟩ : ∃ Y, byN 16 p x d = Y := ⟨_, rfl⟩
      rw [hY] at eb hy L1
      clear hY
      replace hy : Hid (Y < 65536) := hy
      replace L1 : Hid (LeftN 16 p true bs Y (k + 1) T) := L1
      have dc : Hid (∀ w, Calls Try.prog 37 #[.int .u16 ((mixN 16 x d : Nat) : Int), .int .u16 (p : Int), .int .i64 16] w fun e w' => e = .returned (.int .u16 (Y : Int)) ∧ w' = w) := by
        rw [show Y = itN 16 p 8 (mixN 16 x d) from eb.out]
        exact fun w => div16_any _ p w hm hp
      have axr : bits .xor .u16 (x : Int) ((d : Int) * 256) = ((mixN 16 x d : Nat) : Int) := by
        rw [em.out, ← u16_xor_nat x (d * 256) hx (by omega)]
        rfl
      clear em eb
      generalize mixN 16 x d = m at *
      go_wp2_with (go_at_call 34; refine (tc _).mono ?_; rintro e w' ⟨rfl, rfl⟩)
      go_quiet (first | (go_at_call 37; refine Calls.quiet_of_same (dc.out _)))
      go_wp2
      exact ⟨⟨k + 1, Y, by omega, hy.out, rfl, by simp, ks.out.drewN _, L1⟩, by simp [intOf]; omega⟩
    · obtain rfl : k = bs.length := by omega
      have dn : T = x := L.out.done.symm
      clear ap
      have B : Hid (Below w.heap.size w wr) := ks.out.b
      have ax : IntKind.u32.wrap (x : Int) = (x : Int) := by simp only [IntKind.wrap_u32']; omega
      have tc : TurnC x (turnL x 16) 16 := turnC (by omega) (by omega) (by omega)
      have td : turnL x 16 < 65536 := turn_lt x 16
      have fin : Hid (S = turnL x 16 ^^^ z) := by unfold Hid; rw [hS.out, dn]
      generalize turnL x 16 = y at *
      have ay : IntKind.u16.wrap (y : Int) = (y : Int) := by simp only [IntKind.wrap_u16]; omega
      have ay2 : IntKind.u32.wrap (y : Int) = (y : Int) := by simp only [IntKind.wrap_u32']; omega
      have ex : bits .xor .u32 (y : Int) (z : Int) = (S : Int) := by rw [u32_xor_nat y z (by omega) (by omega), fin.out]
      clear L ks hS fin
      go_wp2_with (go_at_call 34; refine (tc _).mono ?_; rintro e w' ⟨rfl, rfl⟩)
      go_ret2
      exact ⟨rfl, B.out⟩
end Go.Proofs.Ytoocppfdcalmfaa
