/-
  Texts that belong together, one behind the other: CrcPD, CrcPE, CrcSumAt, SumEnd, SnMath, SumRefB, SumRefC, SumConK, SumClo. Conditions: as each says.
-/
import Derived.Lib.SlBytesConst
import Derived.Test.YtllkkgcfhphgmaaJs1
import Derived.Test.YtllkkgcfhphgmaaJs10
import Derived.Test.YtllkkgcfhphgmaaJs4
import Derived.Test.YtllkkgcfhphgmaaJs7
/-
  What the program's own Sum and Named, and the law's own Of and awake, return (layer 4). Conditions: the numbers are of their kinds; the bytes lie in memory that was there before.
-/
namespace Go.Proofs.Ytllkkgcfhphgmaa
open Go.RowKit
set_option linter.unusedVariables false

set_option maxRecDepth 100000 in
set_option maxHeartbeats 2000000 in
theorem sum8_no_p (p f : Nat) (t : Bool) (z : Nat) (b : Value) (w : World) (hp : 256 ≤ p) (hp2 : p < 4294967296) :
    Calls Try.prog 72 #[kv 8 p f t z, b] w fun e w' => e = .returned (.tuple #[.int .u32 0, .int .i64 1]) ∧ Below w.heap.size w w' := by
  have B : Hid (Below w.heap.size w (w.alloc (.cells #[.int .i64 8, .int .u32 (p : Int), .int .u32 (f : Int), .bool t, .int .u32 (z : Int)] 107))) := (Below.refl _ _).alloc (Nat.le_refl _) _
  go_enter Try.func72, Try.ntmps72
  go_wp2_with fail
  refine (fits8_no p _ hp hp2).mono ?_
  rintro e w' ⟨rfl, rfl⟩
  go_wp2
  go_ret2
  exact ⟨rfl, B.out⟩

set_option maxRecDepth 100000 in
set_option maxHeartbeats 2000000 in
theorem sum8_no_f (p f : Nat) (t : Bool) (z : Nat) (b : Value) (w : World) (hp : p < 256) (hf : 256 ≤ f) (hf2 : f < 4294967296) :
    Calls Try.prog 72 #[kv 8 p f t z, b] w fun e w' => e = .returned (.tuple #[.int .u32 0, .int .i64 1]) ∧ Below w.heap.size w w' := by
  have B : Hid (Below w.heap.size w (w.alloc (.cells #[.int .i64 8, .int .u32 (p : Int), .int .u32 (f : Int), .bool t, .int .u32 (z : Int)] 107))) := (Below.refl _ _).alloc (Nat.le_refl _) _
  go_enter Try.func72, Try.ntmps72
  go_wp2_with fail
  refine (fits8_yes p _ hp).mono ?_
  rintro e w' ⟨rfl, rfl⟩
  go_wp2_with fail
  refine (fits8_no f _ hf hf2).mono ?_
  rintro e w' ⟨rfl, rfl⟩
  go_wp2
  go_ret2
  exact ⟨rfl, B.out⟩

set_option maxRecDepth 100000 in
set_option maxHeartbeats 2000000 in
theorem sum8_no_z (p f : Nat) (t : Bool) (z : Nat) (b : Value) (w : World) (hp : p < 256) (hf : f < 256) (hz : 256 ≤ z) (hz2 : z < 4294967296) :
    Calls Try.prog 72 #[kv 8 p f t z, b] w fun e w' => e = .returned (.tuple #[.int .u32 0, .int .i64 1]) ∧ Below w.heap.size w w' := by
  have B : Hid (Below w.heap.size w (w.alloc (.cells #[.int .i64 8, .int .u32 (p : Int), .int .u32 (f : Int), .bool t, .int .u32 (z : Int)] 107))) := (Below.refl _ _).alloc (Nat.le_refl _) _
  go_enter Try.func72, Try.ntmps72
  go_wp2_with fail
  refine (fits8_yes p _ hp).mono ?_
  rintro e w' ⟨rfl, rfl⟩
  go_wp2_with fail
  refine (fits8_yes f _ hf).mono ?_
  rintro e w' ⟨rfl, rfl⟩
  go_wp2_with fail
  refine (fits8_no z _ hz hz2).mono ?_
  rintro e w' ⟨rfl, rfl⟩
  go_wp2
  go_ret2
  exact ⟨rfl, B.out⟩

set_option maxRecDepth 100000 in
set_option maxHeartbeats 2000000 in
theorem sum16_no_p (p f : Nat) (t : Bool) (z : Nat) (b : Value) (w : World) (hp : 65536 ≤ p) (hp2 : p < 4294967296) :
    Calls Try.prog 73 #[kv 16 p f t z, b] w fun e w' => e = .returned (.tuple #[.int .u32 0, .int .i64 1]) ∧ Below w.heap.size w w' := by
  have B : Hid (Below w.heap.size w (w.alloc (.cells #[.int .i64 16, .int .u32 (p : Int), .int .u32 (f : Int), .bool t, .int .u32 (z : Int)] 107))) := (Below.refl _ _).alloc (Nat.le_refl _) _
  go_enter Try.func73, Try.ntmps73
  go_wp2_with fail
  refine (fits16_no p _ hp hp2).mono ?_
  rintro e w' ⟨rfl, rfl⟩
  go_wp2
  go_ret2
  exact ⟨rfl, B.out⟩

set_option maxRecDepth 100000 in
set_option maxHeartbeats 2000000 in
theorem sum16_no_f (p f : Nat) (t : Bool) (z : Nat) (b : Value) (w : World) (hp : p < 65536) (hf : 65536 ≤ f) (hf2 : f < 4294967296) :
    Calls Try.prog 73 #[kv 16 p f t z, b] w fun e w' => e = .returned (.tuple #[.int .u32 0, .int .i64 1]) ∧ Below w.heap.size w w' := by
  have B : Hid (Below w.heap.size w (w.alloc (.cells #[.int .i64 16, .int .u32 (p : Int), .int .u32 (f : Int), .bool t, .int .u32 (z : Int)] 107))) := (Below.refl _ _).alloc (Nat.le_refl _) _
  go_enter Try.func73, Try.ntmps73
  go_wp2_with fail
  refine (fits16_yes p _ hp).mono ?_
  rintro e w' ⟨rfl, rfl⟩
  go_wp2_with fail
  refine (fits16_no f _ hf hf2).mono ?_
  rintro e w' ⟨rfl, rfl⟩
  go_wp2
  go_ret2
  exact ⟨rfl, B.out⟩

set_option maxRecDepth 100000 in
set_option maxHeartbeats 2000000 in
theorem sum16_no_z (p f : Nat) (t : Bool) (z : Nat) (b : Value) (w : World) (hp : p < 65536) (hf : f < 65536) (hz : 65536 ≤ z) (hz2 : z < 4294967296) :
    Calls Try.prog 73 #[kv 16 p f t z, b] w fun e w' => e = .returned (.tuple #[.int .u32 0, .int .i64 1]) ∧ Below w.heap.size w w' := by
  have B : Hid (Below w.heap.size w (w.alloc (.cells #[.int .i64 16, .int .u32 (p : Int), .int .u32 (f : Int), .bool t, .int .u32 (z : Int)] 107))) := (Below.refl _ _).alloc (Nat.le_refl _) _
  go_enter Try.func73, Try.ntmps73
  go_wp2_with fail
  refine (fits16_yes p _ hp).mono ?_
  rintro e w' ⟨rfl, rfl⟩
  go_wp2_with fail
  refine (fits16_yes f _ hf).mono ?_
  rintro e w' ⟨rfl, rfl⟩
  go_wp2_with fail
  refine (fits16_no z _ hz hz2).mono ?_
  rintro e w' ⟨rfl, rfl⟩
  go_wp2
  go_ret2
  exact ⟨rfl, B.out⟩

/-- what Sum answers -/
def sumV (W : Int) (p f : Nat) (t : Bool) (z : Nat) (bs : List Nat) : Nat := if kindB W p f z = true then sumL W.toNat p f t z bs else 0
def sumE (W : Int) (p f z : Nat) : Int := if kindB W p f z = true then 0 else 1

end Go.Proofs.Ytllkkgcfhphgmaa
/-
  What the program's own Sum and Named, and the law's own Of and awake, return (layer 4). Conditions: the numbers are of their kinds; the bytes lie in memory that was there before.
-/
namespace Go.Proofs.Ytllkkgcfhphgmaa
open Go.RowKit
set_option linter.unusedVariables false


theorem sum8_any (p f : Nat) (t : Bool) (z : Nat) (b : Value) (bs : List Nat) (w : World) (hp : p < 4294967296) (hf : f < 4294967296) (hz : z < 4294967296) (hbs : AllBytes bs) (hlen : (bs.length : Int) ≤ 9223372036854775807) (h : BytesAt w b bs) :
    Calls Try.prog 72 #[kv 8 p f t z, b] w fun e w' => e = .returned (.tuple #[.int .u32 ((sumV 8 p f t z bs : Nat) : Int), .int .i64 (sumE 8 p f z)]) ∧ Below w.heap.size w w' := by
  have no : kindB 8 p f z = false → sumV 8 p f t z bs = 0 ∧ sumE 8 p f z = 1 := fun h => by unfold sumV sumE; rw [h]; exact ⟨rfl, rfl⟩
  by_cases h1 : p < 256
  · by_cases h2 : f < 256
    · by_cases h3 : z < 256
      · have hk : kindB 8 p f z = true := by unfold kindB; simp; omega
        have e1 : sumV 8 p f t z bs = sumN 8 p f t z bs := by
          unfold sumV; rw [if_pos hk]; exact sum_same (w := 8) (by omega) h1 h2 hbs
        have e2 : sumE 8 p f z = 0 := by unfold sumE; rw [if_pos hk]
        rw [e1, e2]
        rcases h with ⟨rfl, rfl⟩ | ⟨g, o, cap, rfl, hb, hg⟩
        · cases t
          · exact sum80_false p f z w h1 h2 h3
          · exact sum80_true p f z w h1 h2 h3
        · cases t
          · exact sum8_false p f z bs g o cap w h1 h2 h3 hbs hlen hb hg
          · exact sum8_true p f z bs g o cap w h1 h2 h3 hbs hlen hb hg
      · obtain ⟨e1, e2⟩ := no (by unfold kindB; simp; omega)
        rw [e1, e2]
        exact sum8_no_z p f t z b w h1 h2 (by omega) hz
    · obtain ⟨e1, e2⟩ := no (by unfold kindB; simp; omega)
      rw [e1, e2]
      exact sum8_no_f p f t z b w h1 (by omega) hf
  · obtain ⟨e1, e2⟩ := no (by unfold kindB; simp; omega)
    rw [e1, e2]
    exact sum8_no_p p f t z b w (by omega) hp

theorem sum16_any (p f : Nat) (t : Bool) (z : Nat) (b : Value) (bs : List Nat) (w : World) (hp : p < 4294967296) (hf : f < 4294967296) (hz : z < 4294967296) (hbs : AllBytes bs) (hlen : (bs.length : Int) ≤ 9223372036854775807) (h : BytesAt w b bs) :
    Calls Try.prog 73 #[kv 16 p f t z, b] w fun e w' => e = .returned (.tuple #[.int .u32 ((sumV 16 p f t z bs : Nat) : Int), .int .i64 (sumE 16 p f z)]) ∧ Below w.heap.size w w' := by
  have no : kindB 16 p f z = false → sumV 16 p f t z bs = 0 ∧ sumE 16 p f z = 1 := fun h => by unfold sumV sumE; rw [h]; exact ⟨rfl, rfl⟩
  by_cases h1 : p < 65536
  · by_cases h2 : f < 65536
    · by_cases h3 : z < 65536
      · have hk : kindB 16 p f z = true := by unfold kindB; simp; omega
        have e1 : sumV 16 p f t z bs = sumN 16 p f t z bs := by
          unfold sumV; rw [if_pos hk]; exact sum_same (w := 16) (by omega) h1 h2 hbs
        have e2 : sumE 16 p f z = 0 := by unfold sumE; rw [if_pos hk]
        rw [e1, e2]
        rcases h with ⟨rfl, rfl⟩ | ⟨g, o, cap, rfl, hb, hg⟩
        · cases t
          · exact sum160_false p f z w h1 h2 h3
          · exact sum160_true p f z w h1 h2 h3
        · cases t
          · exact sum16_false p f z bs g o cap w h1 h2 h3 hbs hlen hb hg
          · exact sum16_true p f z bs g o cap w h1 h2 h3 hbs hlen hb hg
      · obtain ⟨e1, e2⟩ := no (by unfold kindB; simp; omega)
        rw [e1, e2]
        exact sum16_no_z p f t z b w h1 h2 (by omega) hz
    · obtain ⟨e1, e2⟩ := no (by unfold kindB; simp; omega)
      rw [e1, e2]
      exact sum16_no_f p f t z b w h1 (by omega) hf
  · obtain ⟨e1, e2⟩ := no (by unfold kindB; simp; omega)
    rw [e1, e2]
    exact sum16_no_p p f t z b w (by omega) hp

theorem sum32_any (p f : Nat) (t : Bool) (z : Nat) (b : Value) (bs : List Nat) (w : World) (hp : p < 4294967296) (hf : f < 4294967296) (hz : z < 4294967296) (hbs : AllBytes bs) (hlen : (bs.length : Int) ≤ 9223372036854775807) (h : BytesAt w b bs) :
    Calls Try.prog 74 #[kv 32 p f t z, b] w fun e w' => e = .returned (.tuple #[.int .u32 ((sumV 32 p f t z bs : Nat) : Int), .int .i64 (sumE 32 p f z)]) ∧ Below w.heap.size w w' := by
  have h1 : p < 4294967296 := hp
  have h2 : f < 4294967296 := hf
  have h3 : z < 4294967296 := hz
  · have hk : kindB 32 p f z = true := by unfold kindB; simp; omega
    have e1 : sumV 32 p f t z bs = sumN 32 p f t z bs := by
      unfold sumV; rw [if_pos hk]; exact sum_same (w := 32) (by omega) h1 h2 hbs
    have e2 : sumE 32 p f z = 0 := by unfold sumE; rw [if_pos hk]
    rw [e1, e2]
    rcases h with ⟨rfl, rfl⟩ | ⟨g, o, cap, rfl, hb, hg⟩
    · cases t
      · exact sum320_false p f z w h1 h2 h3
      · exact sum320_true p f z w h1 h2 h3
    · cases t
      · exact sum32_false p f z bs g o cap w h1 h2 h3 hbs hlen hb hg
      · exact sum32_true p f z bs g o cap w h1 h2 h3 hbs hlen hb hg

def NewK (w : World) (W : Int) (p f : Nat) (t : Bool) (z : Nat) : World := w.alloc (.cells #[.int .i64 W, .int .u32 (p : Int), .int .u32 (f : Int), .bool t, .int .u32 (z : Int)] 107)
theorem newK_below (w : World) (W : Int) (p f : Nat) (t : Bool) (z : Nat) : Below w.heap.size w (NewK w W p f t z) := (Below.refl _ _).alloc (Nat.le_refl _) _

set_option maxRecDepth 100000 in
set_option maxHeartbeats 2000000 in
theorem sumOf8 (p f : Nat) (t : Bool) (z : Nat) (b : Value) (bs : List Nat) (w : World) (hp : p < 4294967296) (hf : f < 4294967296) (hz : z < 4294967296) (hbs : AllBytes bs) (hlen : (bs.length : Int) ≤ 9223372036854775807) (h : BytesAt w b bs) :
    Calls Try.prog 71 #[kv 8 p f t z, b] w fun e w' => e = .returned (.tuple #[.int .u32 ((sumV 8 p f t z bs : Nat) : Int), .int .i64 (sumE 8 p f z)]) ∧ Below w.heap.size w w' := by
  have nb : Hid (Below w.heap.size w (NewK w 8 p f t z)) := newK_below w 8 p f t z
  have c : Hid (Calls Try.prog 72 #[kv 8 p f t z, b] (NewK w 8 p f t z) fun e w' => e = .returned (.tuple #[.int .u32 ((sumV 8 p f t z bs : Nat) : Int), .int .i64 (sumE 8 p f z)]) ∧ Below (NewK w 8 p f t z).heap.size (NewK w 8 p f t z) w') := sum8_any p f t z b bs _ hp hf hz hbs hlen (h.below nb.out)
  clear h
  generalize sumV 8 p f t z bs = V at *
  generalize sumE 8 p f z = E at *
  go_enter Try.func71, Try.ntmps71
  go_wp2_with fail
  refine c.out.mono ?_
  rintro e w1 ⟨rfl, hb1⟩
  have B : Hid (Below w.heap.size w w1) := belowT nb.out hb1
  clear hb1 c nb
  go_wp2
  go_ret2
  exact ⟨rfl, B.out⟩

set_option maxRecDepth 100000 in
set_option maxHeartbeats 2000000 in
theorem sumOf16 (p f : Nat) (t : Bool) (z : Nat) (b : Value) (bs : List Nat) (w : World) (hp : p < 4294967296) (hf : f < 4294967296) (hz : z < 4294967296) (hbs : AllBytes bs) (hlen : (bs.length : Int) ≤ 9223372036854775807) (h : BytesAt w b bs) :
    Calls Try.prog 71 #[kv 16 p f t z, b] w fun e w' => e = .returned (.tuple #[.int .u32 ((sumV 16 p f t z bs : Nat) : Int), .int .i64 (sumE 16 p f z)]) ∧ Below w.heap.size w w' := by
  have nb : Hid (Below w.heap.size w (NewK w 16 p f t z)) := newK_below w 16 p f t z
  have c : Hid (Calls Try.prog 73 #[kv 16 p f t z, b] (NewK w 16 p f t z) fun e w' => e = .returned (.tuple #[.int .u32 ((sumV 16 p f t z bs : Nat) : Int), .int .i64 (sumE 16 p f z)]) ∧ Below (NewK w 16 p f t z).heap.size (NewK w 16 p f t z) w') := sum16_any p f t z b bs _ hp hf hz hbs hlen (h.below nb.out)
  clear h
  generalize sumV 16 p f t z bs = V at *
  generalize sumE 16 p f z = E at *
  go_enter Try.func71, Try.ntmps71
  go_wp2_with fail
  refine c.out.mono ?_
  rintro e w1 ⟨rfl, hb1⟩
  have B : Hid (Below w.heap.size w w1) := belowT nb.out hb1
  clear hb1 c nb
  go_wp2
  go_ret2
  exact ⟨rfl, B.out⟩

set_option maxRecDepth 100000 in
set_option maxHeartbeats 2000000 in
theorem sumOf32 (p f : Nat) (t : Bool) (z : Nat) (b : Value) (bs : List Nat) (w : World) (hp : p < 4294967296) (hf : f < 4294967296) (hz : z < 4294967296) (hbs : AllBytes bs) (hlen : (bs.length : Int) ≤ 9223372036854775807) (h : BytesAt w b bs) :
    Calls Try.prog 71 #[kv 32 p f t z, b] w fun e w' => e = .returned (.tuple #[.int .u32 ((sumV 32 p f t z bs : Nat) : Int), .int .i64 (sumE 32 p f z)]) ∧ Below w.heap.size w w' := by
  have nb : Hid (Below w.heap.size w (NewK w 32 p f t z)) := newK_below w 32 p f t z
  have c : Hid (Calls Try.prog 74 #[kv 32 p f t z, b] (NewK w 32 p f t z) fun e w' => e = .returned (.tuple #[.int .u32 ((sumV 32 p f t z bs : Nat) : Int), .int .i64 (sumE 32 p f z)]) ∧ Below (NewK w 32 p f t z).heap.size (NewK w 32 p f t z) w') := sum32_any p f t z b bs _ hp hf hz hbs hlen (h.below nb.out)
  clear h
  generalize sumV 32 p f t z bs = V at *
  generalize sumE 32 p f z = E at *
  go_enter Try.func71, Try.ntmps71
  go_wp2_with fail
  refine c.out.mono ?_
  rintro e w1 ⟨rfl, hb1⟩
  have B : Hid (Below w.heap.size w w1) := belowT nb.out hb1
  clear hb1 c nb
  go_wp2
  go_ret2
  exact ⟨rfl, B.out⟩

set_option maxRecDepth 100000 in
set_option maxHeartbeats 2000000 in
theorem sumOf_no (W : Int) (p f : Nat) (t : Bool) (z : Nat) (b : Value) (w : World) (h8 : (W == 8) = false) (h16 : (W == 16) = false) (h32 : (W == 32) = false) :
    Calls Try.prog 71 #[kv W p f t z, b] w fun e w' => e = .returned (.tuple #[.int .u32 0, .int .i64 1]) ∧ Below w.heap.size w w' := by
  have nb : Hid (Below w.heap.size w (w.alloc (.cells #[.int .i64 W, .int .u32 (p : Int), .int .u32 (f : Int), .bool t, .int .u32 (z : Int)] 107))) := newK_below w W p f t z
  go_enter Try.func71, Try.ntmps71
  go_wp2
  go_ret2
  exact ⟨rfl, nb.out⟩

theorem sum_any (W : Int) (p f : Nat) (t : Bool) (z : Nat) (b : Value) (bs : List Nat) (w : World) (hp : p < 4294967296) (hf : f < 4294967296) (hz : z < 4294967296) (hbs : AllBytes bs) (hlen : (bs.length : Int) ≤ 9223372036854775807) (h : BytesAt w b bs) :
    Calls Try.prog 71 #[kv W p f t z, b] w fun e w' => e = .returned (.tuple #[.int .u32 ((sumV W p f t z bs : Nat) : Int), .int .i64 (sumE W p f z)]) ∧ Below w.heap.size w w' := by
  by_cases h8 : W = 8
  · subst h8; exact sumOf8 p f t z b bs w hp hf hz hbs hlen h
  by_cases h16 : W = 16
  · subst h16; exact sumOf16 p f t z b bs w hp hf hz hbs hlen h
  by_cases h32 : W = 32
  · subst h32; exact sumOf32 p f t z b bs w hp hf hz hbs hlen h
  have hk : kindB W p f z = false := by unfold kindB; simp [h8, h16, h32]
  have e1 : sumV W p f t z bs = 0 := by unfold sumV; rw [hk]; rfl
  have e2 : sumE W p f z = 1 := by unfold sumE; rw [hk]; rfl
  rw [e1, e2]
  exact sumOf_no W p f t z b w (by simp [h8]) (by simp [h16]) (by simp [h32])

/-! the names -/
abbrev n8 : ByteArray := ⟨#[99, 114, 99, 56]⟩
abbrev n16 : ByteArray := ⟨#[99, 114, 99, 49, 54]⟩
abbrev nC : ByteArray := ⟨#[99, 99, 105, 116, 116]⟩
abbrev n32 : ByteArray := ⟨#[99, 114, 99, 51, 50]⟩

theorem not_n8 {s : ByteArray} (h : ¬ s = n8) : (s.toList == [99, 114, 99, 56]) = false := by have := txt_no h; rwa [show n8.toList = [99, 114, 99, 56] by rw [ByteArray.toList_eq]] at this
theorem not_n16 {s : ByteArray} (h : ¬ s = n16) : (s.toList == [99, 114, 99, 49, 54]) = false := by have := txt_no h; rwa [show n16.toList = [99, 114, 99, 49, 54] by rw [ByteArray.toList_eq]] at this
theorem not_nC {s : ByteArray} (h : ¬ s = nC) : (s.toList == [99, 99, 105, 116, 116]) = false := by have := txt_no h; rwa [show nC.toList = [99, 99, 105, 116, 116] by rw [ByteArray.toList_eq]] at this
theorem not_n32 {s : ByteArray} (h : ¬ s = n32) : (s.toList == [99, 114, 99, 51, 50]) = false := by have := txt_no h; rwa [show n32.toList = [99, 114, 99, 51, 50] by rw [ByteArray.toList_eq]] at this

set_option maxRecDepth 100000 in
theorem named_n8 (w : World) : Calls Try.prog 70 #[.string n8] w fun e w' => e = .returned (.tuple #[kv 8 7 0 false 0, .bool true]) ∧ Below w.heap.size w w' := by
  go_enter Try.func70, Try.ntmps70
  go_wp2
  exact bodyPost_ret (v := .tuple #[kv 8 7 0 false 0, .bool true]) (by simp [results, Try.results70, go_sem]) rfl ⟨rfl, (Below.refl _ _).alloc (Nat.le_refl _) _⟩

set_option maxRecDepth 100000 in
theorem named_n16 (w : World) : Calls Try.prog 70 #[.string n16] w fun e w' => e = .returned (.tuple #[kv 16 32773 0 true 0, .bool true]) ∧ Below w.heap.size w w' := by
  go_enter Try.func70, Try.ntmps70
  go_wp2
  exact bodyPost_ret (v := .tuple #[kv 16 32773 0 true 0, .bool true]) (by simp [results, Try.results70, go_sem]) rfl ⟨rfl, (Below.refl _ _).alloc (Nat.le_refl _) _⟩

set_option maxRecDepth 100000 in
theorem named_nC (w : World) : Calls Try.prog 70 #[.string nC] w fun e w' => e = .returned (.tuple #[kv 16 4129 65535 false 0, .bool true]) ∧ Below w.heap.size w w' := by
  go_enter Try.func70, Try.ntmps70
  go_wp2
  exact bodyPost_ret (v := .tuple #[kv 16 4129 65535 false 0, .bool true]) (by simp [results, Try.results70, go_sem]) rfl ⟨rfl, (Below.refl _ _).alloc (Nat.le_refl _) _⟩

set_option maxRecDepth 100000 in
theorem named_n32 (w : World) : Calls Try.prog 70 #[.string n32] w fun e w' => e = .returned (.tuple #[kv 32 79764919 4294967295 true 4294967295, .bool true]) ∧ Below w.heap.size w w' := by
  go_enter Try.func70, Try.ntmps70
  go_wp2
  exact bodyPost_ret (v := .tuple #[kv 32 79764919 4294967295 true 4294967295, .bool true]) (by simp [results, Try.results70, go_sem]) rfl ⟨rfl, (Below.refl _ _).alloc (Nat.le_refl _) _⟩

set_option maxRecDepth 100000 in
theorem named_no (s : ByteArray) (w : World) (h1 : (s.toList == [99, 114, 99, 56]) = false) (h2 : (s.toList == [99, 114, 99, 49, 54]) = false) (h3 : (s.toList == [99, 99, 105, 116, 116]) = false) (h4 : (s.toList == [99, 114, 99, 51, 50]) = false) :
    Calls Try.prog 70 #[.string s] w fun e w' => e = .returned (.tuple #[kv 0 0 0 false 0, .bool false]) ∧ Below w.heap.size w w' := by
  go_enter Try.func70, Try.ntmps70
  go_wp2
  exact bodyPost_ret (v := .tuple #[kv 0 0 0 false 0, .bool false]) (by simp [results, Try.results70, go_sem]) rfl ⟨rfl, (Below.refl _ _).alloc (Nat.le_refl _) _⟩
end Go.Proofs.Ytllkkgcfhphgmaa
/-
  What Sum answers, over every world behind a given one, of the program and of the document (layer 4). No conditions but those that each says.
-/
namespace Go.Proofs.Ytllkkgcfhphgmaa
open Go.RowKit
set_option linter.unusedVariables false

/-- contracts, over every world behind w -/
def SumAt (w : World) (W : Int) (p f : Nat) (t : Bool) (z : Nat) (v : Value) (V : Nat) (E : Int) : Prop :=
  ∀ x, Below w.heap.size w x → Calls Try.prog 71 #[kv W p f t z, v] x fun e w' => e = .returned (.tuple #[.int .u32 (V : Int), .int .i64 E]) ∧ Below x.heap.size x w'
theorem sumAt {w : World} {W : Int} {p f : Nat} {t : Bool} {z : Nat} {v : Value} {bs : List Nat} (hp : p < 4294967296) (hf : f < 4294967296) (hz : z < 4294967296) (hv : BytesV w v bs) (hb : AllBytes bs) : SumAt w W p f t z v (sumV W p f t z bs) (sumE W p f z) :=
  fun x hx => sum_any W p f t z v bs x hp hf hz hb hv.len (hv.at.below hx)
theorem sumE_yes {W : Int} {p f z : Nat} (h : kindB W p f z = true) : sumE W p f z = 0 := by unfold sumE; rw [if_pos h]
theorem sumE_no {W : Int} {p f z : Nat} (h : kindB W p f z = false) : sumE W p f z = 1 := by unfold sumE; rw [h]; rfl
theorem sumV_yes {W : Int} {p f : Nat} {t : Bool} {z : Nat} {bs : List Nat} (h : kindB W p f z = true) : sumV W p f t z bs = sumL W.toNat p f t z bs := by unfold sumV; rw [if_pos h]
theorem sumV_no {W : Int} {p f : Nat} {t : Bool} {z : Nat} {bs : List Nat} (h : kindB W p f z = false) : sumV W p f t z bs = 0 := by unfold sumV; rw [h]; rfl
theorem kind_width {W : Int} {p f z : Nat} (h : kindB W p f z = true) : W = 8 ∨ W = 16 ∨ W = 32 := by
  unfold kindB at h
  simp only [Bool.and_eq_true, decide_eq_true_eq] at h
  exact h.1
/-- the same of the document's -/
def RSumAt (w : World) (W : Int) (p f : Nat) (t : Bool) (z : Nat) (v : Value) (V : Nat) : Prop :=
  ∀ x, Below w.heap.size w x → Calls Try.prog 16 #[kv W p f t z, v] x fun e w' => e = .returned (.int .u32 (V : Int)) ∧ Below x.heap.size x w'
theorem rsumAt {w : World} {W : Int} {p f : Nat} {t : Bool} {z : Nat} {v : Value} {bs : List Nat} (hp : p < 4294967296) (hf : f < 4294967296) (hz : z < 4294967296) (hv : BytesV w v bs) (hb : AllBytes bs) (hk : kindB W p f z = true) : RSumAt w W p f t z v (sumV W p f t z bs) := by
  intro x hx
  have hw := kind_width hk
  have e : ((W.toNat : Nat) : Int) = W := by omega
  have k := rsum_any W.toNat p f t z v bs x (by omega) hp hf hz hb hv.len (hv.at.below hx)
  rw [e, ← sumV_yes hk] at k
  exact k
end Go.Proofs.Ytllkkgcfhphgmaa
/-
  The names of endings, and the endings, kind by kind (layer 5). No conditions but those that each says.
-/
namespace Go.Proofs.Ytllkkgcfhphgmaa
open Go.RowKit
set_option linter.unusedVariables false

abbrev e0 : ByteArray := ⟨#[110, 111, 110, 101]⟩
abbrev e1 : ByteArray := ⟨#[115, 117, 109]⟩
abbrev e2 : ByteArray := ⟨#[108, 114, 99]⟩
abbrev e3 : ByteArray := ⟨#[120, 111, 114]⟩
abbrev e4 : ByteArray := ⟨#[102, 108, 101, 116, 99, 104, 101, 114]⟩
abbrev e5 : ByteArray := ⟨#[99, 114, 99, 56]⟩
abbrev e6 : ByteArray := ⟨#[99, 114, 99, 49, 54]⟩
abbrev e7 : ByteArray := ⟨#[99, 99, 105, 116, 116]⟩
abbrev e8 : ByteArray := ⟨#[99, 114, 99, 51, 50]⟩
/-- the ending of kind k -/
def endK (k : Nat) (bs : List Nat) : List Nat :=
  match k with
  | 0 => []
  | 1 => [totN bs % 256]
  | 2 => [(256 - totN bs % 256) % 256]
  | 3 => [mixB bs]
  | 4 => [(secN bs).2 % 255, totN bs % 255]
  | 5 => bigL (sumV 8 7 0 false 0 bs) 1
  | 6 => bigL (sumV 16 32773 0 true 0 bs) 2
  | 7 => bigL (sumV 16 4129 65535 false 0 bs) 2
  | 8 => bigL (sumV 32 79764919 4294967295 true 4294967295 bs) 4
  | _ => []
/-- how long it is -/
def sizeK (k : Nat) : Nat :=
  match k with
  | 0 => 0
  | 1 => 1
  | 2 => 1
  | 3 => 1
  | 4 => 2
  | 5 => 1
  | 6 => 2
  | 7 => 2
  | 8 => 4
  | _ => 0
/-- which name it is; 9: none of them -/
def whichN (s : ByteArray) : Nat := if s = e0 then 0 else if s = e1 then 1 else if s = e2 then 2 else if s = e3 then 3 else if s = e4 then 4 else if s = e5 then 5 else if s = e6 then 6 else if s = e7 then 7 else if s = e8 then 8 else 9
def nameN (k : Nat) : ByteArray :=
  match k with
  | 0 => e0
  | 1 => e1
  | 2 => e2
  | 3 => e3
  | 4 => e4
  | 5 => e5
  | 6 => e6
  | 7 => e7
  | 8 => e8
  | _ => ⟨#[]⟩
theorem end_len {k : Nat} (h : k < 9) (bs : List Nat) : (endK k bs).length = sizeK k := by
  match k, h with
  | 0, _ => rfl
  | 1, _ => rfl
  | 2, _ => rfl
  | 3, _ => rfl
  | 4, _ => rfl
  | 5, _ => exact bigL_len _ _
  | 6, _ => exact bigL_len _ _
  | 7, _ => exact bigL_len _ _
  | 8, _ => exact bigL_len _ _
theorem end_bytes {k : Nat} (h : k < 9) {bs : List Nat} (hb : AllBytes bs) : AllBytes (endK k bs) := by
  have one : ∀ x : Nat, x < 256 → AllBytes [x] := fun x hx c hc => by rw [List.mem_singleton] at hc; omega
  match k, h with
  | 0, _ => exact fun c hc => by cases hc
  | 1, _ => exact one _ (by omega)
  | 2, _ => exact one _ (by omega)
  | 3, _ => exact one _ (mix_lt hb)
  | 4, _ =>
    intro c hc
    have hc' : c = (secN bs).2 % 255 ∨ c = totN bs % 255 := by simpa [endK] using hc
    omega
  | 5, _ => exact bigL_bytes _ _
  | 6, _ => exact bigL_bytes _ _
  | 7, _ => exact bigL_bytes _ _
  | 8, _ => exact bigL_bytes _ _
theorem not_e0 {s : ByteArray} (h : ¬ s = e0) : (s.toList == [110, 111, 110, 101]) = false := by have := txt_no h; rwa [show e0.toList = [110, 111, 110, 101] by rw [ByteArray.toList_eq]] at this
theorem not_e1 {s : ByteArray} (h : ¬ s = e1) : (s.toList == [115, 117, 109]) = false := by have := txt_no h; rwa [show e1.toList = [115, 117, 109] by rw [ByteArray.toList_eq]] at this
theorem not_e2 {s : ByteArray} (h : ¬ s = e2) : (s.toList == [108, 114, 99]) = false := by have := txt_no h; rwa [show e2.toList = [108, 114, 99] by rw [ByteArray.toList_eq]] at this
theorem not_e3 {s : ByteArray} (h : ¬ s = e3) : (s.toList == [120, 111, 114]) = false := by have := txt_no h; rwa [show e3.toList = [120, 111, 114] by rw [ByteArray.toList_eq]] at this
theorem not_e4 {s : ByteArray} (h : ¬ s = e4) : (s.toList == [102, 108, 101, 116, 99, 104, 101, 114]) = false := by have := txt_no h; rwa [show e4.toList = [102, 108, 101, 116, 99, 104, 101, 114] by rw [ByteArray.toList_eq]] at this
theorem not_e5 {s : ByteArray} (h : ¬ s = e5) : (s.toList == [99, 114, 99, 56]) = false := by have := txt_no h; rwa [show e5.toList = [99, 114, 99, 56] by rw [ByteArray.toList_eq]] at this
theorem not_e6 {s : ByteArray} (h : ¬ s = e6) : (s.toList == [99, 114, 99, 49, 54]) = false := by have := txt_no h; rwa [show e6.toList = [99, 114, 99, 49, 54] by rw [ByteArray.toList_eq]] at this
theorem not_e7 {s : ByteArray} (h : ¬ s = e7) : (s.toList == [99, 99, 105, 116, 116]) = false := by have := txt_no h; rwa [show e7.toList = [99, 99, 105, 116, 116] by rw [ByteArray.toList_eq]] at this
theorem not_e8 {s : ByteArray} (h : ¬ s = e8) : (s.toList == [99, 114, 99, 51, 50]) = false := by have := txt_no h; rwa [show e8.toList = [99, 114, 99, 51, 50] by rw [ByteArray.toList_eq]] at this
theorem which_name {k : Nat} (h : k < 9) : whichN (nameN k) = k := by
  match k, h with
  | 0, _ => exact of_decide_eq_true (by kernel_rfl)
  | 1, _ => exact of_decide_eq_true (by kernel_rfl)
  | 2, _ => exact of_decide_eq_true (by kernel_rfl)
  | 3, _ => exact of_decide_eq_true (by kernel_rfl)
  | 4, _ => exact of_decide_eq_true (by kernel_rfl)
  | 5, _ => exact of_decide_eq_true (by kernel_rfl)
  | 6, _ => exact of_decide_eq_true (by kernel_rfl)
  | 7, _ => exact of_decide_eq_true (by kernel_rfl)
  | 8, _ => exact of_decide_eq_true (by kernel_rfl)
theorem which_cases (s : ByteArray) : (∃ k, k < 9 ∧ s = nameN k ∧ whichN s = k) ∨ (whichN s = 9 ∧ ¬ s = e0 ∧ ¬ s = e1 ∧ ¬ s = e2 ∧ ¬ s = e3 ∧ ¬ s = e4 ∧ ¬ s = e5 ∧ ¬ s = e6 ∧ ¬ s = e7 ∧ ¬ s = e8) := by
  by_cases h0 : s = e0
  · exact .inl ⟨0, by omega, h0, by rw [h0]; exact which_name (k := 0) (by omega)⟩
  by_cases h1 : s = e1
  · exact .inl ⟨1, by omega, h1, by rw [h1]; exact which_name (k := 1) (by omega)⟩
  by_cases h2 : s = e2
  · exact .inl ⟨2, by omega, h2, by rw [h2]; exact which_name (k := 2) (by omega)⟩
  by_cases h3 : s = e3
  · exact .inl ⟨3, by omega, h3, by rw [h3]; exact which_name (k := 3) (by omega)⟩
  by_cases h4 : s = e4
  · exact .inl ⟨4, by omega, h4, by rw [h4]; exact which_name (k := 4) (by omega)⟩
  by_cases h5 : s = e5
  · exact .inl ⟨5, by omega, h5, by rw [h5]; exact which_name (k := 5) (by omega)⟩
  by_cases h6 : s = e6
  · exact .inl ⟨6, by omega, h6, by rw [h6]; exact which_name (k := 6) (by omega)⟩
  by_cases h7 : s = e7
  · exact .inl ⟨7, by omega, h7, by rw [h7]; exact which_name (k := 7) (by omega)⟩
  by_cases h8 : s = e8
  · exact .inl ⟨8, by omega, h8, by rw [h8]; exact which_name (k := 8) (by omega)⟩
  refine .inr ⟨?_, h0, h1, h2, h3, h4, h5, h6, h7, h8⟩
  unfold whichN
  rw [if_neg h0, if_neg h1, if_neg h2, if_neg h3, if_neg h4, if_neg h5, if_neg h6, if_neg h7, if_neg h8]
theorem i64_xor_small {a b : Nat} (ha : a < 256) (hb : b < 256) : bits .xor .i64 (a : Int) (b : Int) = ((a ^^^ b : Nat) : Int) := by
  have hx : a ^^^ b < 2 ^ 8 := Nat.xor_lt_two_pow (by omega) (by omega)
  show IntKind.i64.wrap ((BitVec.ofInt 64 (a : Int) ^^^ BitVec.ofInt 64 (b : Int)).toNat : Int) = _
  rw [BitVec.toNat_xor, ofInt_u64 a (by omega), ofInt_u64 b (by omega), IntKind.wrap_i64]
  omega
end Go.Proofs.Ytllkkgcfhphgmaa
/-
  Whether a field is right, whether a device is sound, plainly: the error (layer 9); a device with a field left out, with one twice. No function of a program is named here. No conditions but those that each says.
-/
namespace Go.Proofs.Ytllkkgcfhphgmaa
open Go.RowKit
set_option linter.unusedVariables false

def orE (b : Bool) (n : Int) : Int := if b = true then 0 else n
/-- the first error -/
def firstE : List Int → Int
  | [] => 0
  | e :: es => if e = 0 then firstE es else e
def gdK (f : Fd) : Bool := nameB f.nm && rgtB (kindI (txt f.kd)) f.wd
def gdP (sz : Int) (f : Fd) : Bool := decide (0 ≤ f.pl) && (decide (f.pl < sz) && decide (f.wd ≤ sz - f.pl))
def gdR (f : Fd) : Bool := rightB f.sn f.sd && rightB f.on f.od
def gdU (f : Fd) : Bool := isU (txt f.un)
/-- a field's error in a payload of a size -/
def fldE (sz : Int) (f : Fd) : Int := firstE [orE (gdK f) 6, orE (gdP sz f) 11, orE (gdR f) 1, orE (gdU f) 4]
/-- the error of the first field that is wrong -/
def fldsE (sz : Int) : List Wd → List Fd → Int
  | _, [] => 0
  | seen, f :: r => if firstE [fldE sz f, orE (!decide (f.nm ∈ seen)) 8] = 0 then fldsE sz (seen ++ [f.nm]) r else firstE [fldE sz f, orE (!decide (f.nm ∈ seen)) 8]
def inB (lo hi n : Int) : Bool := decide (lo ≤ n) && decide (n ≤ hi)
def xorI (a b : Int) : Int := bits .xor .i64 a b
/-- the numbers of a device: each group -/
def gd1 (d : Dv) : Bool := inB 0 255 d.st && (inB 0 255 d.es && inB 0 255 d.mx)
def gd2 (d : Dv) : Bool := inB 1 32 d.sz
def gd3 (d : Dv) : Bool := inB 1 1000 d.po && (inB 1 1000 d.ti && inB 1 1000 d.ag)
def gd4 (d : Dv) : Bool := inB 0 10 d.re
def gd5 (n : Nat) : Bool := inB 1 16 (n : Int)
def gd6 (n : Nat) : Bool := inB 0 8 (n : Int)
def gdN (d : Dv) : Bool := gd1 d && (gd2 d && (gd3 d && (gd4 d && (gd5 d.rq.length && gd6 d.fs.length))))
def gdC (d : Dv) : Bool := !(decide (d.st = d.es) || (decide (d.st = xorI d.st d.mx) || decide (d.st = xorI d.es d.mx)))
def gdT (d : Dv) : Bool := decide (d.ti < d.po) && decide (d.po ≤ d.ag)
def isSum (s : ByteArray) : Bool := decide (whichN s < 9)
/-- a device's error -/
def ckE (d : Dv) : Int := firstE [orE (nameB d.nm && gdN d) 6, orE (isSum (txt d.sm)) 4, orE (gdC d) 10, orE (gdT d) 11, fldsE d.sz [] d.fs]

theorem orE_t (n : Int) : orE true n = 0 := rfl
theorem orE_f (n : Int) : orE false n = n := rfl
theorem first_0 (es : List Int) : firstE (0 :: es) = firstE es := by rw [firstE, if_pos rfl]
theorem first_no {e : Int} (h : ¬ e = 0) (es : List Int) : firstE (e :: es) = e := by rw [firstE, if_neg h]
theorem first_or (b : Bool) {n : Int} (h : ¬ n = 0) (es : List Int) : firstE (orE b n :: es) = if b = true then firstE es else n := by
  cases b
  · rw [orE_f, first_no h]; rfl
  · rw [orE_t, first_0]; rfl
theorem first_one (e : Int) : firstE [e] = e := by
  by_cases h : e = 0
  · rw [h]; rfl
  · rw [first_no h]
theorem fldE_form (sz : Int) (f : Fd) : fldE sz f = if gdK f = true then (if gdP sz f = true then (if gdR f = true then (if gdU f = true then 0 else 4) else 1) else 11) else 6 := by
  unfold fldE
  rw [first_or _ (by omega), first_or _ (by omega), first_or _ (by omega), first_one]
  rfl
theorem fldE_cases (sz : Int) (f : Fd) : fldE sz f = 0 ∨ fldE sz f = 6 ∨ fldE sz f = 11 ∨ fldE sz f = 1 ∨ fldE sz f = 4 := by
  rw [fldE_form]
  split <;> (try split) <;> (try split) <;> (try split) <;> simp
/-- both questions of a field -/
theorem two_form (e : Int) (b : Bool) : firstE [e, orE b 8] = if e = 0 then (if b = true then 0 else 8) else e := by
  rw [firstE, first_one]; rfl
theorem ckE_form (d : Dv) : ckE d = if nameB d.nm = true ∧ gdN d = true then (if isSum (txt d.sm) = true then (if gdC d = true then (if gdT d = true then fldsE d.sz [] d.fs else 11) else 10) else 4) else 6 := by
  unfold ckE
  rw [first_or _ (by omega), first_or _ (by omega), first_or _ (by omega), first_or _ (by omega), first_one]
  simp only [Bool.and_eq_true]
theorem ckE_zero {d : Dv} : ckE d = 0 ↔ (nameB d.nm = true ∧ gdN d = true) ∧ isSum (txt d.sm) = true ∧ gdC d = true ∧ gdT d = true ∧ fldsE d.sz [] d.fs = 0 := by
  rw [ckE_form]
  constructor
  · intro h
    split at h
    · split at h
      · split at h
        · split at h
          · exact ⟨by assumption, by assumption, by assumption, by assumption, h⟩
          · cases h
        · cases h
      · cases h
    · cases h
  · rintro ⟨h1, h2, h3, h4, h5⟩
    rw [if_pos h1, if_pos h2, if_pos h3, if_pos h4, h5]
theorem flds_cons (sz : Int) (seen : List Wd) (f : Fd) (r : List Fd) : fldsE sz seen (f :: r) = if fldE sz f = 0 then (if f.nm ∈ seen then 8 else fldsE sz (seen ++ [f.nm]) r) else fldE sz f := by
  rw [fldsE, two_form]
  by_cases h : fldE sz f = 0
  · rw [if_pos h, if_pos h]
    by_cases k : f.nm ∈ seen
    · rw [decide_eq_true k, if_pos k]; rfl
    · rw [decide_eq_false k, if_neg k]; rfl
  · rw [if_neg h, if_neg h, if_neg h]
/-- sound fields: each right, no two with one name, none with a name that was seen -/
theorem flds_zero (sz : Int) : ∀ (fs : List Fd) (seen : List Wd), fldsE sz seen fs = 0 ↔ (∀ f ∈ fs, fldE sz f = 0 ∧ f.nm ∉ seen) ∧ (fs.map (·.nm)).Nodup
  | [], seen => by simp [fldsE]
  | f :: r, seen => by
    rw [flds_cons]
    by_cases h : fldE sz f = 0
    · rw [if_pos h]
      by_cases k : f.nm ∈ seen
      · rw [if_pos k]
        constructor
        · intro c; cases c
        · intro c; exact absurd k ((c.1 f (List.mem_cons_self ..)).2)
      · rw [if_neg k, flds_zero sz r]
        simp only [List.mem_append, List.mem_singleton, not_or, List.forall_mem_cons, List.map_cons, List.nodup_cons, List.mem_map, not_exists, not_and]
        constructor
        · rintro ⟨h1, h2⟩
          exact ⟨⟨⟨h, k⟩, fun g hg => ⟨(h1 g hg).1, (h1 g hg).2.1⟩⟩, fun g hg e => (h1 g hg).2.2 e, h2⟩
        · rintro ⟨⟨_, h1⟩, h2, h3⟩
          exact ⟨fun g hg => ⟨(h1 g hg).1, (h1 g hg).2, fun e => h2 g hg e⟩, h3⟩
    · rw [if_neg h]
      constructor
      · intro c; exact absurd c h
      · intro c; exact absurd (c.1 f (List.mem_cons_self ..)).1 h
theorem flds_cases (sz : Int) : ∀ (fs : List Fd) (seen : List Wd), fldsE sz seen fs = 0 ∨ fldsE sz seen fs = 8 ∨ fldsE sz seen fs = 6 ∨ fldsE sz seen fs = 11 ∨ fldsE sz seen fs = 1 ∨ fldsE sz seen fs = 4
  | [], seen => .inl rfl
  | f :: r, seen => by
    rw [flds_cons]
    split
    · split
      · simp
      · exact flds_cases sz r _
    · rcases fldE_cases sz f with h | h | h | h | h <;> rw [h] <;> simp
/-- a name that was seen, behind fields that are sound -/
theorem flds_twice (sz : Int) : ∀ (fs : List Fd) (seen : List Wd) (f : Fd), fldsE sz seen fs = 0 → fldE sz f = 0 → (f.nm ∈ seen ∨ f.nm ∈ fs.map (·.nm)) → fldsE sz seen (fs ++ [f]) = 8
  | [], seen, f, _, h2, h3 => by
    rw [List.nil_append, flds_cons, if_pos h2, if_pos (by simpa using h3)]
  | g :: r, seen, f, h1, h2, h3 => by
    rw [flds_cons] at h1
    rw [List.cons_append, flds_cons]
    by_cases h : fldE sz g = 0
    · rw [if_pos h] at h1 ⊢
      by_cases k : g.nm ∈ seen
      · rw [if_pos k] at h1; cases h1
      · rw [if_neg k] at h1 ⊢
        refine flds_twice sz r _ f h1 h2 ?_
        simp only [List.map_cons, List.mem_cons, List.mem_append] at h3 ⊢
        rcases h3 with h3 | h3 | h3
        · exact .inl (.inl h3)
        · exact .inl (.inr (by simpa using h3))
        · exact .inr h3
    · rw [if_neg h] at h1; exact absurd h1 h
theorem in_le {lo hi n : Int} (h : inB lo hi n = true) : lo ≤ n ∧ n ≤ hi := by
  unfold inB at h; simpa using h
/-- with a field left out a sound device stays so -/
theorem ck_less {d : Dv} {pre post : List Fd} {f : Fd} (hf : d.fs = pre ++ f :: post) (h : ckE d = 0) : ckE { d with fs := pre ++ post } = 0 := by
  rw [ckE_zero] at h ⊢
  obtain ⟨⟨h1, h2⟩, h3, h4, h5, h6⟩ := h
  refine ⟨⟨h1, ?_⟩, h3, h4, h5, ?_⟩
  · unfold gdN at h2 ⊢
    simp only [Bool.and_eq_true] at h2 ⊢
    obtain ⟨a1, a2, a3, a4, a5, a6⟩ := h2
    refine ⟨a1, a2, a3, a4, a5, ?_⟩
    unfold gd6 inB at a6 ⊢
    rw [hf] at a6
    simp only [List.length_append, List.length_cons, Bool.and_eq_true, decide_eq_true_eq] at a6 ⊢
    omega
  · show fldsE d.sz [] (pre ++ post) = 0
    rw [hf] at h6
    rw [flds_zero] at h6 ⊢
    obtain ⟨k1, k2⟩ := h6
    refine ⟨fun g hg => k1 g ?_, ?_⟩
    · rcases List.mem_append.1 hg with hg | hg
      · exact List.mem_append_left _ hg
      · exact List.mem_append_right _ (List.mem_cons_of_mem _ hg)
    · rw [List.map_append, List.map_cons] at k2
      rw [List.map_append]
      exact (List.Sublist.append_left (List.sublist_cons_self _ _) _).nodup k2
/-- with a field twice it isn't -/
theorem ck_more {d : Dv} {f : Fd} (hf : f ∈ d.fs) (h : ckE d = 0) : ckE { d with fs := d.fs ++ [f] } = 8 ∨ d.fs.length = 8 ∧ ckE { d with fs := d.fs ++ [f] } = 6 := by
  have h0 := h
  rw [ckE_zero] at h
  obtain ⟨⟨h1, h2⟩, h3, h4, h5, h6⟩ := h
  have n2 := h2
  unfold gdN at h2
  simp only [Bool.and_eq_true] at h2
  obtain ⟨a1, a2, a3, a4, a5, a6⟩ := h2
  have l8 := (in_le a6).2
  by_cases h8 : d.fs.length = 8
  · refine .inr ⟨h8, ?_⟩
    rw [ckE_form, if_neg]
    rintro ⟨_, c⟩
    unfold gdN at c
    simp only [Bool.and_eq_true] at c
    have := (in_le c.2.2.2.2.2).2
    simp only [List.length_append, List.length_cons, List.length_nil] at this
    omega
  · refine .inl ?_
    rw [ckE_form, if_pos, if_pos h3, if_pos (show gdC { d with fs := d.fs ++ [f] } = true from h4), if_pos (show gdT { d with fs := d.fs ++ [f] } = true from h5)]
    · exact flds_twice d.sz d.fs [] f h6 (((flds_zero d.sz d.fs []).1 h6).1 f hf).1 (.inr (List.mem_map_of_mem hf))
    · refine ⟨h1, ?_⟩
      unfold gdN
      simp only [Bool.and_eq_true]
      refine ⟨a1, a2, a3, a4, a5, ?_⟩
      unfold gd6 inB
      simp only [List.length_append, List.length_cons, List.length_nil, Bool.and_eq_true, decide_eq_true_eq]
      omega
/-- exclusive or of bytes -/
theorem xorI_byte (a b : Nat) (ha : a < 256) (hb : b < 256) : xorI (a : Int) (b : Int) = ((a ^^^ b : Nat) : Int) := by
  have hx : a ^^^ b < 2 ^ 8 := Nat.xor_lt_two_pow (by omega) (by omega)
  have h1 : (BitVec.ofInt 64 (a : Int)).toNat = a := by
    rw [BitVec.ofInt_natCast, BitVec.toNat_ofNat]; exact Nat.mod_eq_of_lt (by omega)
  have h2 : (BitVec.ofInt 64 (b : Int)).toNat = b := by
    rw [BitVec.ofInt_natCast, BitVec.toNat_ofNat]; exact Nat.mod_eq_of_lt (by omega)
  show IntKind.i64.wrap ((BitVec.ofInt 64 (a : Int) ^^^ BitVec.ofInt 64 (b : Int)).toNat : Int) = _
  rw [BitVec.toNat_xor, h1, h2, IntKind.wrap_i64]
  omega
theorem xor_self_iff (a b : Nat) : a = a ^^^ b ↔ b = 0 := by
  constructor
  · intro h
    have k : a ^^^ a = a ^^^ (a ^^^ b) := congrArg (a ^^^ ·) h
    rw [Nat.xor_self, ← Nat.xor_assoc, Nat.xor_self, Nat.zero_xor] at k
    exact k.symm
  · intro h; rw [h, Nat.xor_zero]
/-- the document's own way of saying it -/
theorem gdC_doc {d : Dv} (h : gdN d = true) : gdC d = !(decide (d.st = d.es) || (decide (d.mx = 0) || decide (xorI d.es d.mx = d.st))) := by
  unfold gdN gd1 at h
  simp only [Bool.and_eq_true] at h
  obtain ⟨⟨a1, a2, a3⟩, _⟩ := h
  have a1 := in_le a1
  have a3 := in_le a3
  obtain ⟨s, hs⟩ : ∃ s : Nat, d.st = s := ⟨d.st.toNat, by omega⟩
  obtain ⟨m, hm⟩ : ∃ m : Nat, d.mx = m := ⟨d.mx.toNat, by omega⟩
  unfold gdC
  congr 1
  congr 1
  have e1 : decide (d.st = xorI d.st d.mx) = decide (d.mx = 0) := by
    rw [hs, hm, xorI_byte s m (by omega) (by omega), decide_eq_decide]
    have := xor_self_iff s m
    omega
  rw [e1]
  congr 1
  rw [decide_eq_decide]
  exact eq_comm
end Go.Proofs.Ytllkkgcfhphgmaa
/-
  What the document's own Of returns, kind by kind (layer 5). Conditions: the bytes lie in memory that was there before, at most 300.
-/
namespace Go.Proofs.Ytllkkgcfhphgmaa
open Go.RowKit
set_option linter.unusedVariables false

def RSumAtK (w : World) (K : Value) (v : Value) (V : Nat) : Prop :=
  ∀ x, Below w.heap.size w x → Calls Try.prog 16 #[K, v] x fun e w' => e = .returned (.int .u32 (V : Int)) ∧ Below x.heap.size x w'

set_option maxRecDepth 100000 in
set_option maxHeartbeats 4000000 in
theorem rof0_nil (w : World) :
    Calls Try.prog 8 #[.string e0, .slice none 0 0] w fun e w' => ∃ x, e = .returned (.tuple #[x, .bool true]) ∧ BytesAt w' x (endK 0 []) ∧ Below w.heap.size w w' := by
  go_enter Try.func8, Try.ntmps8
  go_wp2
  go_loop [6, 7, 8, 9, 10] (fun a b c d i => a = .int .i64 0 ∧ b = .int .i64 0 ∧ c = .int .i64 0 ∧ d = .int .i64 0 ∧ i = .int .i64 0) (fun _ _ _ _ _ => 0)
  case atStart => exact ⟨rfl, rfl, rfl, rfl, rfl⟩
  case round =>
    obtain ⟨rfl, rfl, rfl, rfl, rfl⟩ := hrel
    go_wp2
    go_ret2
    exact ⟨_, rfl, .inl ⟨rfl, rfl⟩, Below.refl _ _⟩

set_option maxRecDepth 100000 in
set_option maxHeartbeats 4000000 in
theorem rof0_row (w : World) (g o cap : Nat) (bs : List Nat) (hl : (bs.length : Int) ≤ 300) (hbs : AllBytes bs) (hb : BytesIn w g o bs) (hg : g < w.heap.size) :
    Calls Try.prog 8 #[.string e0, .slice (some ⟨g, o, none⟩) bs.length cap] w fun e w' => ∃ x, e = .returned (.tuple #[x, .bool true]) ∧ BytesAt w' x (endK 0 bs) ∧ Below w.heap.size w w' := by
  have hb' : Hid (BytesIn w g o bs ∧ g < w.heap.size ∧ AllBytes bs) := ⟨hb, hg, hbs⟩
  clear hb hg hbs
  go_enter Try.func8, Try.ntmps8
  go_wp2
  go_loop [6, 7, 8, 9, 10] (fun a b c d i => ∃ k S M C : Nat, (k : Int) ≤ (bs.length : Int) ∧ i = .int .i64 (k : Int) ∧ a = .int .i64 (S : Int) ∧ b = .int .i64 (M : Int) ∧ c = .int .i64 (C : Int) ∧ d = .int .i64 (S : Int) ∧ Hid (S = totN (bs.take k) ∧ M = mixB (bs.take k) ∧ C = (secN (bs.take k)).2)) (fun _ _ _ _ i => bs.length - (intOf i).toNat)
  case atStart => exact ⟨0, 0, 0, 0, by omega, rfl, rfl, rfl, rfl, rfl, rfl, rfl, rfl⟩
  case round =>
    obtain ⟨k, S, M, C, hk, rfl, rfl, rfl, rfl, rfl, hv⟩ := hrel
    obtain ⟨vS, vM, vC⟩ := hv.out
    have tb := take_bytes hb'.out.2.2 k
    have lS := tot_le tb
    have lM := mix_lt tb
    have lC := sec_le tb
    rw [← vS] at lS
    rw [← vM] at lM
    rw [← vC] at lC
    have lk : (bs.take k).length ≤ 300 := by rw [List.length_take]; omega
    have lS2 : (S : Int) ≤ 76500 := by omega
    have lC2 : (C : Int) ≤ 22950000 := by
      have h1 : 255 * (bs.take k).length * (bs.take k).length ≤ 255 * 300 * 300 := Nat.mul_le_mul (Nat.mul_le_mul_left _ lk) lk
      omega
    clear lS lC lk tb
    by_cases hlt : k < bs.length
    · have hki : (k : Int) < (bs.length : Int) := by omega
      have hcell := hb'.out.1 k hlt
      have hc : bs[k] < 256 := hb'.out.2.2 _ (List.getElem_mem hlt)
      have nx : Hid (S + bs[k] = totN (bs.take (k + 1)) ∧ M ^^^ bs[k] = mixB (bs.take (k + 1)) ∧ C + (S + bs[k]) = (secN (bs.take (k + 1))).2) := by
        refine ⟨?_, ?_, ?_⟩
        · rw [take_snoc bs hlt, totN_snoc, ← vS]
        · rw [take_snoc bs hlt, mixB_snoc, ← vM]
        · rw [take_snoc bs hlt, secN_snoc, secN_one, ← vC, ← vS]
      clear hv vS vM vC
      generalize bs[k] = c at *
      obtain ⟨M2, hM2⟩ : ∃ M2 : Nat, M ^^^ c = M2 := ⟨_, rfl⟩
      have xr : bits .xor .i64 (M : Int) (c : Int) = (M2 : Int) := by rw [i64_xor_small lM hc, hM2]
      rw [hM2] at nx
      replace nx : Hid (S + c = totN (bs.take (k + 1)) ∧ M2 = mixB (bs.take (k + 1)) ∧ C + (S + c) = (secN (bs.take (k + 1))).2) := nx
      clear hM2
      have hci : (0 : Int) ≤ (c : Int) ∧ (c : Int) < 256 := ⟨by omega, by omega⟩
      go_wp2
      exact ⟨⟨k + 1, S + c, M2, C + (S + c), by omega, by simp, by simp, by simp, by simp, by simp, nx⟩, by simp [intOf]; omega⟩
    · obtain rfl : k = bs.length := by omega
      rw [List.take_length] at vS vM vC
      clear hlt hk hv
      clear vS vM vC
      go_wp2
      go_ret2
      exact ⟨_, rfl, .inl ⟨rfl, rfl⟩, Below.refl _ _⟩

set_option maxRecDepth 100000 in
set_option maxHeartbeats 4000000 in
theorem rof1_nil (w : World) :
    Calls Try.prog 8 #[.string e1, .slice none 0 0] w fun e w' => ∃ x, e = .returned (.tuple #[x, .bool true]) ∧ BytesAt w' x (endK 1 []) ∧ Below w.heap.size w w' := by
  go_enter Try.func8, Try.ntmps8
  go_wp2
  go_loop [6, 7, 8, 9, 10] (fun a b c d i => a = .int .i64 0 ∧ b = .int .i64 0 ∧ c = .int .i64 0 ∧ d = .int .i64 0 ∧ i = .int .i64 0) (fun _ _ _ _ _ => 0)
  case atStart => exact ⟨rfl, rfl, rfl, rfl, rfl⟩
  case round =>
    obtain ⟨rfl, rfl, rfl, rfl, rfl⟩ := hrel
    have nb : Hid (BytesAt (w.alloc (.cells #[.int .u8 0] 5)) (.slice (some ⟨w.heap.size, 0, none⟩) 1 1) (endK 1 [])) := new_bytes w (endK 1 []) #[.int .u8 0] rfl
    have B : Hid (Below w.heap.size w (w.alloc (.cells #[.int .u8 0] 5))) := (Below.refl _ _).alloc (Nat.le_refl _) _
    go_wp2
    go_ret2
    exact ⟨_, rfl, nb.out, B.out⟩

set_option maxRecDepth 100000 in
set_option maxHeartbeats 4000000 in
theorem rof1_row (w : World) (g o cap : Nat) (bs : List Nat) (hl : (bs.length : Int) ≤ 300) (hbs : AllBytes bs) (hb : BytesIn w g o bs) (hg : g < w.heap.size) :
    Calls Try.prog 8 #[.string e1, .slice (some ⟨g, o, none⟩) bs.length cap] w fun e w' => ∃ x, e = .returned (.tuple #[x, .bool true]) ∧ BytesAt w' x (endK 1 bs) ∧ Below w.heap.size w w' := by
  have hb' : Hid (BytesIn w g o bs ∧ g < w.heap.size ∧ AllBytes bs) := ⟨hb, hg, hbs⟩
  clear hb hg hbs
  go_enter Try.func8, Try.ntmps8
  go_wp2
  go_loop [6, 7, 8, 9, 10] (fun a b c d i => ∃ k S M C : Nat, (k : Int) ≤ (bs.length : Int) ∧ i = .int .i64 (k : Int) ∧ a = .int .i64 (S : Int) ∧ b = .int .i64 (M : Int) ∧ c = .int .i64 (C : Int) ∧ d = .int .i64 (S : Int) ∧ Hid (S = totN (bs.take k) ∧ M = mixB (bs.take k) ∧ C = (secN (bs.take k)).2)) (fun _ _ _ _ i => bs.length - (intOf i).toNat)
  case atStart => exact ⟨0, 0, 0, 0, by omega, rfl, rfl, rfl, rfl, rfl, rfl, rfl, rfl⟩
  case round =>
    obtain ⟨k, S, M, C, hk, rfl, rfl, rfl, rfl, rfl, hv⟩ := hrel
    obtain ⟨vS, vM, vC⟩ := hv.out
    have tb := take_bytes hb'.out.2.2 k
    have lS := tot_le tb
    have lM := mix_lt tb
    have lC := sec_le tb
    rw [← vS] at lS
    rw [← vM] at lM
    rw [← vC] at lC
    have lk : (bs.take k).length ≤ 300 := by rw [List.length_take]; omega
    have lS2 : (S : Int) ≤ 76500 := by omega
    have lC2 : (C : Int) ≤ 22950000 := by
      have h1 : 255 * (bs.take k).length * (bs.take k).length ≤ 255 * 300 * 300 := Nat.mul_le_mul (Nat.mul_le_mul_left _ lk) lk
      omega
    clear lS lC lk tb
    by_cases hlt : k < bs.length
    · have hki : (k : Int) < (bs.length : Int) := by omega
      have hcell := hb'.out.1 k hlt
      have hc : bs[k] < 256 := hb'.out.2.2 _ (List.getElem_mem hlt)
      have nx : Hid (S + bs[k] = totN (bs.take (k + 1)) ∧ M ^^^ bs[k] = mixB (bs.take (k + 1)) ∧ C + (S + bs[k]) = (secN (bs.take (k + 1))).2) := by
        refine ⟨?_, ?_, ?_⟩
        · rw [take_snoc bs hlt, totN_snoc, ← vS]
        · rw [take_snoc bs hlt, mixB_snoc, ← vM]
        · rw [take_snoc bs hlt, secN_snoc, secN_one, ← vC, ← vS]
      clear hv vS vM vC
      generalize bs[k] = c at *
      obtain ⟨M2, hM2⟩ : ∃ M2 : Nat, M ^^^ c = M2 := ⟨_, rfl⟩
      have xr : bits .xor .i64 (M : Int) (c : Int) = (M2 : Int) := by rw [i64_xor_small lM hc, hM2]
      rw [hM2] at nx
      replace nx : Hid (S + c = totN (bs.take (k + 1)) ∧ M2 = mixB (bs.take (k + 1)) ∧ C + (S + c) = (secN (bs.take (k + 1))).2) := nx
      clear hM2
      have hci : (0 : Int) ≤ (c : Int) ∧ (c : Int) < 256 := ⟨by omega, by omega⟩
      go_wp2
      exact ⟨⟨k + 1, S + c, M2, C + (S + c), by omega, by simp, by simp, by simp, by simp, by simp, nx⟩, by simp [intOf]; omega⟩
    · obtain rfl : k = bs.length := by omega
      rw [List.take_length] at vS vM vC
      clear hlt hk hv
      obtain ⟨x, hx⟩ : ∃ x : Nat, x = S % 256 := ⟨_, rfl⟩
      have r1 : (S : Int) % 256 = (x : Int) := by omega
      have w1 : IntKind.u8.wrap (x : Int) = (x : Int) := by simp only [IntKind.wrap_u8']; omega
      have ee : endK 1 bs = [x] := by show [totN bs % 256] = _; rw [← vS, ← hx]
      have nb : Hid (BytesAt (w.alloc (.cells #[.int .u8 (x : Int)] 5)) (.slice (some ⟨w.heap.size, 0, none⟩) 1 1) (endK 1 bs)) := by unfold Hid; rw [ee]; exact new_bytes w [x] #[.int .u8 (x : Int)] rfl
      clear vS vM vC ee hx
      have B : Hid (Below w.heap.size w (w.alloc (.cells #[.int .u8 (x : Int)] 5))) := (Below.refl _ _).alloc (Nat.le_refl _) _
      go_wp2
      go_ret2
      exact ⟨_, rfl, nb.out, B.out⟩

set_option maxRecDepth 100000 in
set_option maxHeartbeats 4000000 in
theorem rof2_nil (w : World) :
    Calls Try.prog 8 #[.string e2, .slice none 0 0] w fun e w' => ∃ x, e = .returned (.tuple #[x, .bool true]) ∧ BytesAt w' x (endK 2 []) ∧ Below w.heap.size w w' := by
  go_enter Try.func8, Try.ntmps8
  go_wp2
  go_loop [6, 7, 8, 9, 10] (fun a b c d i => a = .int .i64 0 ∧ b = .int .i64 0 ∧ c = .int .i64 0 ∧ d = .int .i64 0 ∧ i = .int .i64 0) (fun _ _ _ _ _ => 0)
  case atStart => exact ⟨rfl, rfl, rfl, rfl, rfl⟩
  case round =>
    obtain ⟨rfl, rfl, rfl, rfl, rfl⟩ := hrel
    have nb : Hid (BytesAt (w.alloc (.cells #[.int .u8 0] 5)) (.slice (some ⟨w.heap.size, 0, none⟩) 1 1) (endK 2 [])) := new_bytes w (endK 2 []) #[.int .u8 0] rfl
    have B : Hid (Below w.heap.size w (w.alloc (.cells #[.int .u8 0] 5))) := (Below.refl _ _).alloc (Nat.le_refl _) _
    go_wp2
    go_ret2
    exact ⟨_, rfl, nb.out, B.out⟩

set_option maxRecDepth 100000 in
set_option maxHeartbeats 4000000 in
theorem rof2_row (w : World) (g o cap : Nat) (bs : List Nat) (hl : (bs.length : Int) ≤ 300) (hbs : AllBytes bs) (hb : BytesIn w g o bs) (hg : g < w.heap.size) :
    Calls Try.prog 8 #[.string e2, .slice (some ⟨g, o, none⟩) bs.length cap] w fun e w' => ∃ x, e = .returned (.tuple #[x, .bool true]) ∧ BytesAt w' x (endK 2 bs) ∧ Below w.heap.size w w' := by
  have hb' : Hid (BytesIn w g o bs ∧ g < w.heap.size ∧ AllBytes bs) := ⟨hb, hg, hbs⟩
  clear hb hg hbs
  go_enter Try.func8, Try.ntmps8
  go_wp2
  go_loop [6, 7, 8, 9, 10] (fun a b c d i => ∃ k S M C : Nat, (k : Int) ≤ (bs.length : Int) ∧ i = .int .i64 (k : Int) ∧ a = .int .i64 (S : Int) ∧ b = .int .i64 (M : Int) ∧ c = .int .i64 (C : Int) ∧ d = .int .i64 (S : Int) ∧ Hid (S = totN (bs.take k) ∧ M = mixB (bs.take k) ∧ C = (secN (bs.take k)).2)) (fun _ _ _ _ i => bs.length - (intOf i).toNat)
  case atStart => exact ⟨0, 0, 0, 0, by omega, rfl, rfl, rfl, rfl, rfl, rfl, rfl, rfl⟩
  case round =>
    obtain ⟨k, S, M, C, hk, rfl, rfl, rfl, rfl, rfl, hv⟩ := hrel
    obtain ⟨vS, vM, vC⟩ := hv.out
    have tb := take_bytes hb'.out.2.2 k
    have lS := tot_le tb
    have lM := mix_lt tb
    have lC := sec_le tb
    rw [← vS] at lS
    rw [← vM] at lM
    rw [← vC] at lC
    have lk : (bs.take k).length ≤ 300 := by rw [List.length_take]; omega
    have lS2 : (S : Int) ≤ 76500 := by omega
    have lC2 : (C : Int) ≤ 22950000 := by
      have h1 : 255 * (bs.take k).length * (bs.take k).length ≤ 255 * 300 * 300 := Nat.mul_le_mul (Nat.mul_le_mul_left _ lk) lk
      omega
    clear lS lC lk tb
    by_cases hlt : k < bs.length
    · have hki : (k : Int) < (bs.length : Int) := by omega
      have hcell := hb'.out.1 k hlt
      have hc : bs[k] < 256 := hb'.out.2.2 _ (List.getElem_mem hlt)
      have nx : Hid (S + bs[k] = totN (bs.take (k + 1)) ∧ M ^^^ bs[k] = mixB (bs.take (k + 1)) ∧ C + (S + bs[k]) = (secN (bs.take (k + 1))).2) := by
        refine ⟨?_, ?_, ?_⟩
        · rw [take_snoc bs hlt, totN_snoc, ← vS]
        · rw [take_snoc bs hlt, mixB_snoc, ← vM]
        · rw [take_snoc bs hlt, secN_snoc, secN_one, ← vC, ← vS]
      clear hv vS vM vC
      generalize bs[k] = c at *
      obtain ⟨M2, hM2⟩ : ∃ M2 : Nat, M ^^^ c = M2 := ⟨_, rfl⟩
      have xr : bits .xor .i64 (M : Int) (c : Int) = (M2 : Int) := by rw [i64_xor_small lM hc, hM2]
      rw [hM2] at nx
      replace nx : Hid (S + c = totN (bs.take (k + 1)) ∧ M2 = mixB (bs.take (k + 1)) ∧ C + (S + c) = (secN (bs.take (k + 1))).2) := nx
      clear hM2
      have hci : (0 : Int) ≤ (c : Int) ∧ (c : Int) < 256 := ⟨by omega, by omega⟩
      go_wp2
      exact ⟨⟨k + 1, S + c, M2, C + (S + c), by omega, by simp, by simp, by simp, by simp, by simp, nx⟩, by simp [intOf]; omega⟩
    · obtain rfl : k = bs.length := by omega
      rw [List.take_length] at vS vM vC
      clear hlt hk hv
      obtain ⟨y, hy⟩ : ∃ y : Nat, y = S % 256 := ⟨_, rfl⟩
      have r0 : (S : Int) % 256 = (y : Int) := by omega
      have ry : (0 : Int) ≤ (y : Int) ∧ (y : Int) < 256 := ⟨by omega, by omega⟩
      obtain ⟨x, hx⟩ : ∃ x : Nat, x = (256 - S % 256) % 256 := ⟨_, rfl⟩
      have r1 : (256 - (y : Int)) % 256 = (x : Int) := by omega
      have w1 : IntKind.u8.wrap (x : Int) = (x : Int) := by simp only [IntKind.wrap_u8']; omega
      have ee : endK 2 bs = [x] := by show [(256 - totN bs % 256) % 256] = _; rw [← vS, ← hx]
      have nb : Hid (BytesAt (w.alloc (.cells #[.int .u8 (x : Int)] 5)) (.slice (some ⟨w.heap.size, 0, none⟩) 1 1) (endK 2 bs)) := by unfold Hid; rw [ee]; exact new_bytes w [x] #[.int .u8 (x : Int)] rfl
      clear vS vM vC ee hx hy
      have B : Hid (Below w.heap.size w (w.alloc (.cells #[.int .u8 (x : Int)] 5))) := (Below.refl _ _).alloc (Nat.le_refl _) _
      go_wp2
      go_ret2
      exact ⟨_, rfl, nb.out, B.out⟩

set_option maxRecDepth 100000 in
set_option maxHeartbeats 4000000 in
theorem rof3_nil (w : World) :
    Calls Try.prog 8 #[.string e3, .slice none 0 0] w fun e w' => ∃ x, e = .returned (.tuple #[x, .bool true]) ∧ BytesAt w' x (endK 3 []) ∧ Below w.heap.size w w' := by
  go_enter Try.func8, Try.ntmps8
  go_wp2
  go_loop [6, 7, 8, 9, 10] (fun a b c d i => a = .int .i64 0 ∧ b = .int .i64 0 ∧ c = .int .i64 0 ∧ d = .int .i64 0 ∧ i = .int .i64 0) (fun _ _ _ _ _ => 0)
  case atStart => exact ⟨rfl, rfl, rfl, rfl, rfl⟩
  case round =>
    obtain ⟨rfl, rfl, rfl, rfl, rfl⟩ := hrel
    have nb : Hid (BytesAt (w.alloc (.cells #[.int .u8 0] 5)) (.slice (some ⟨w.heap.size, 0, none⟩) 1 1) (endK 3 [])) := new_bytes w (endK 3 []) #[.int .u8 0] rfl
    have B : Hid (Below w.heap.size w (w.alloc (.cells #[.int .u8 0] 5))) := (Below.refl _ _).alloc (Nat.le_refl _) _
    go_wp2
    go_ret2
    exact ⟨_, rfl, nb.out, B.out⟩

set_option maxRecDepth 100000 in
set_option maxHeartbeats 4000000 in
theorem rof3_row (w : World) (g o cap : Nat) (bs : List Nat) (hl : (bs.length : Int) ≤ 300) (hbs : AllBytes bs) (hb : BytesIn w g o bs) (hg : g < w.heap.size) :
    Calls Try.prog 8 #[.string e3, .slice (some ⟨g, o, none⟩) bs.length cap] w fun e w' => ∃ x, e = .returned (.tuple #[x, .bool true]) ∧ BytesAt w' x (endK 3 bs) ∧ Below w.heap.size w w' := by
  have hb' : Hid (BytesIn w g o bs ∧ g < w.heap.size ∧ AllBytes bs) := ⟨hb, hg, hbs⟩
  clear hb hg hbs
  go_enter Try.func8, Try.ntmps8
  go_wp2
  go_loop [6, 7, 8, 9, 10] (fun a b c d i => ∃ k S M C : Nat, (k : Int) ≤ (bs.length : Int) ∧ i = .int .i64 (k : Int) ∧ a = .int .i64 (S : Int) ∧ b = .int .i64 (M : Int) ∧ c = .int .i64 (C : Int) ∧ d = .int .i64 (S : Int) ∧ Hid (S = totN (bs.take k) ∧ M = mixB (bs.take k) ∧ C = (secN (bs.take k)).2)) (fun _ _ _ _ i => bs.length - (intOf i).toNat)
  case atStart => exact ⟨0, 0, 0, 0, by omega, rfl, rfl, rfl, rfl, rfl, rfl, rfl, rfl⟩
  case round =>
    obtain ⟨k, S, M, C, hk, rfl, rfl, rfl, rfl, rfl, hv⟩ := hrel
    obtain ⟨vS, vM, vC⟩ := hv.out
    have tb := take_bytes hb'.out.2.2 k
    have lS := tot_le tb
    have lM := mix_lt tb
    have lC := sec_le tb
    rw [← vS] at lS
    rw [← vM] at lM
    rw [← vC] at lC
    have lk : (bs.take k).length ≤ 300 := by rw [List.length_take]; omega
    have lS2 : (S : Int) ≤ 76500 := by omega
    have lC2 : (C : Int) ≤ 22950000 := by
      have h1 : 255 * (bs.take k).length * (bs.take k).length ≤ 255 * 300 * 300 := Nat.mul_le_mul (Nat.mul_le_mul_left _ lk) lk
      omega
    clear lS lC lk tb
    by_cases hlt : k < bs.length
    · have hki : (k : Int) < (bs.length : Int) := by omega
      have hcell := hb'.out.1 k hlt
      have hc : bs[k] < 256 := hb'.out.2.2 _ (List.getElem_mem hlt)
      have nx : Hid (S + bs[k] = totN (bs.take (k + 1)) ∧ M ^^^ bs[k] = mixB (bs.take (k + 1)) ∧ C + (S + bs[k]) = (secN (bs.take (k + 1))).2) := by
        refine ⟨?_, ?_, ?_⟩
        · rw [take_snoc bs hlt, totN_snoc, ← vS]
        · rw [take_snoc bs hlt, mixB_snoc, ← vM]
        · rw [take_snoc bs hlt, secN_snoc, secN_one, ← vC, ← vS]
      clear hv vS vM vC
      generalize bs[k] = c at *
      obtain ⟨M2, hM2⟩ : ∃ M2 : Nat, M ^^^ c = M2 := ⟨_, rfl⟩
      have xr : bits .xor .i64 (M : Int) (c : Int) = (M2 : Int) := by rw [i64_xor_small lM hc, hM2]
      rw [hM2] at nx
      replace nx : Hid (S + c = totN (bs.take (k + 1)) ∧ M2 = mixB (bs.take (k + 1)) ∧ C + (S + c) = (secN (bs.take (k + 1))).2) := nx
      clear hM2
      have hci : (0 : Int) ≤ (c : Int) ∧ (c : Int) < 256 := ⟨by omega, by omega⟩
      go_wp2
      exact ⟨⟨k + 1, S + c, M2, C + (S + c), by omega, by simp, by simp, by simp, by simp, by simp, nx⟩, by simp [intOf]; omega⟩
    · obtain rfl : k = bs.length := by omega
      rw [List.take_length] at vS vM vC
      clear hlt hk hv
      obtain ⟨x, hx⟩ : ∃ x : Nat, x = M := ⟨_, rfl⟩
      subst hx
      have w1 : IntKind.u8.wrap (x : Int) = (x : Int) := by simp only [IntKind.wrap_u8']; omega
      have ee : endK 3 bs = [x] := by show [mixB bs] = _; rw [← vM]
      have nb : Hid (BytesAt (w.alloc (.cells #[.int .u8 (x : Int)] 5)) (.slice (some ⟨w.heap.size, 0, none⟩) 1 1) (endK 3 bs)) := by unfold Hid; rw [ee]; exact new_bytes w [x] #[.int .u8 (x : Int)] rfl
      clear vS vM vC ee
      have B : Hid (Below w.heap.size w (w.alloc (.cells #[.int .u8 (x : Int)] 5))) := (Below.refl _ _).alloc (Nat.le_refl _) _
      go_wp2
      go_ret2
      exact ⟨_, rfl, nb.out, B.out⟩

set_option maxRecDepth 100000 in
set_option maxHeartbeats 4000000 in
theorem rof4_nil (w : World) :
    Calls Try.prog 8 #[.string e4, .slice none 0 0] w fun e w' => ∃ x, e = .returned (.tuple #[x, .bool true]) ∧ BytesAt w' x (endK 4 []) ∧ Below w.heap.size w w' := by
  go_enter Try.func8, Try.ntmps8
  go_wp2
  go_loop [6, 7, 8, 9, 10] (fun a b c d i => a = .int .i64 0 ∧ b = .int .i64 0 ∧ c = .int .i64 0 ∧ d = .int .i64 0 ∧ i = .int .i64 0) (fun _ _ _ _ _ => 0)
  case atStart => exact ⟨rfl, rfl, rfl, rfl, rfl⟩
  case round =>
    obtain ⟨rfl, rfl, rfl, rfl, rfl⟩ := hrel
    have nb : Hid (BytesAt (w.alloc (.cells #[.int .u8 0, .int .u8 0] 5)) (.slice (some ⟨w.heap.size, 0, none⟩) 2 2) (endK 4 [])) := new_bytes w (endK 4 []) #[.int .u8 0, .int .u8 0] rfl
    have B : Hid (Below w.heap.size w (w.alloc (.cells #[.int .u8 0, .int .u8 0] 5))) := (Below.refl _ _).alloc (Nat.le_refl _) _
    go_wp2
    go_ret2
    exact ⟨_, rfl, nb.out, B.out⟩

set_option maxRecDepth 100000 in
set_option maxHeartbeats 4000000 in
theorem rof4_row (w : World) (g o cap : Nat) (bs : List Nat) (hl : (bs.length : Int) ≤ 300) (hbs : AllBytes bs) (hb : BytesIn w g o bs) (hg : g < w.heap.size) :
    Calls Try.prog 8 #[.string e4, .slice (some ⟨g, o, none⟩) bs.length cap] w fun e w' => ∃ x, e = .returned (.tuple #[x, .bool true]) ∧ BytesAt w' x (endK 4 bs) ∧ Below w.heap.size w w' := by
  have hb' : Hid (BytesIn w g o bs ∧ g < w.heap.size ∧ AllBytes bs) := ⟨hb, hg, hbs⟩
  clear hb hg hbs
  go_enter Try.func8, Try.ntmps8
  go_wp2
  go_loop [6, 7, 8, 9, 10] (fun a b c d i => ∃ k S M C : Nat, (k : Int) ≤ (bs.length : Int) ∧ i = .int .i64 (k : Int) ∧ a = .int .i64 (S : Int) ∧ b = .int .i64 (M : Int) ∧ c = .int .i64 (C : Int) ∧ d = .int .i64 (S : Int) ∧ Hid (S = totN (bs.take k) ∧ M = mixB (bs.take k) ∧ C = (secN (bs.take k)).2)) (fun _ _ _ _ i => bs.length - (intOf i).toNat)
  case atStart => exact ⟨0, 0, 0, 0, by omega, rfl, rfl, rfl, rfl, rfl, rfl, rfl, rfl⟩
  case round =>
    obtain ⟨k, S, M, C, hk, rfl, rfl, rfl, rfl, rfl, hv⟩ := hrel
    obtain ⟨vS, vM, vC⟩ := hv.out
    have tb := take_bytes hb'.out.2.2 k
    have lS := tot_le tb
    have lM := mix_lt tb
    have lC := sec_le tb
    rw [← vS] at lS
    rw [← vM] at lM
    rw [← vC] at lC
    have lk : (bs.take k).length ≤ 300 := by rw [List.length_take]; omega
    have lS2 : (S : Int) ≤ 76500 := by omega
    have lC2 : (C : Int) ≤ 22950000 := by
      have h1 : 255 * (bs.take k).length * (bs.take k).length ≤ 255 * 300 * 300 := Nat.mul_le_mul (Nat.mul_le_mul_left _ lk) lk
      omega
    clear lS lC lk tb
    by_cases hlt : k < bs.length
    · have hki : (k : Int) < (bs.length : Int) := by omega
      have hcell := hb'.out.1 k hlt
      have hc : bs[k] < 256 := hb'.out.2.2 _ (List.getElem_mem hlt)
      have nx : Hid (S + bs[k] = totN (bs.take (k + 1)) ∧ M ^^^ bs[k] = mixB (bs.take (k + 1)) ∧ C + (S + bs[k]) = (secN (bs.take (k + 1))).2) := by
        refine ⟨?_, ?_, ?_⟩
        · rw [take_snoc bs hlt, totN_snoc, ← vS]
        · rw [take_snoc bs hlt, mixB_snoc, ← vM]
        · rw [take_snoc bs hlt, secN_snoc, secN_one, ← vC, ← vS]
      clear hv vS vM vC
      generalize bs[k] = c at *
      obtain ⟨M2, hM2⟩ : ∃ M2 : Nat, M ^^^ c = M2 := ⟨_, rfl⟩
      have xr : bits .xor .i64 (M : Int) (c : Int) = (M2 : Int) := by rw [i64_xor_small lM hc, hM2]
      rw [hM2] at nx
      replace nx : Hid (S + c = totN (bs.take (k + 1)) ∧ M2 = mixB (bs.take (k + 1)) ∧ C + (S + c) = (secN (bs.take (k + 1))).2) := nx
      clear hM2
      have hci : (0 : Int) ≤ (c : Int) ∧ (c : Int) < 256 := ⟨by omega, by omega⟩
      go_wp2
      exact ⟨⟨k + 1, S + c, M2, C + (S + c), by omega, by simp, by simp, by simp, by simp, by simp, nx⟩, by simp [intOf]; omega⟩
    · obtain rfl : k = bs.length := by omega
      rw [List.take_length] at vS vM vC
      clear hlt hk hv
      obtain ⟨y, hy⟩ : ∃ y : Nat, y = S % 255 := ⟨_, rfl⟩
      have r0 : (S : Int) % 255 = (y : Int) := by omega
      have w0 : IntKind.u8.wrap (y : Int) = (y : Int) := by simp only [IntKind.wrap_u8']; omega
      obtain ⟨x, hx⟩ : ∃ x : Nat, x = C % 255 := ⟨_, rfl⟩
      have r1 : (C : Int) % 255 = (x : Int) := by omega
      have w1 : IntKind.u8.wrap (x : Int) = (x : Int) := by simp only [IntKind.wrap_u8']; omega
      have ee : endK 4 bs = [x, y] := by show [(secN bs).2 % 255, totN bs % 255] = _; rw [← vS, ← vC, ← hx, ← hy]
      have nb : Hid (BytesAt (w.alloc (.cells #[.int .u8 (x : Int), .int .u8 (y : Int)] 5)) (.slice (some ⟨w.heap.size, 0, none⟩) 2 2) (endK 4 bs)) := by unfold Hid; rw [ee]; exact new_bytes w [x, y] #[.int .u8 (x : Int), .int .u8 (y : Int)] rfl
      clear vS vM vC ee hx hy
      have B : Hid (Below w.heap.size w (w.alloc (.cells #[.int .u8 (x : Int), .int .u8 (y : Int)] 5))) := (Below.refl _ _).alloc (Nat.le_refl _) _
      go_wp2
      go_ret2
      exact ⟨_, rfl, nb.out, B.out⟩

set_option maxRecDepth 100000 in
set_option maxHeartbeats 4000000 in
theorem rof5_nil (w : World) (V : Nat) (hV : V < 4294967296) (eV : Hid (sumV 8 7 0 false 0 [] = V)) (cT : RSumAtK w (.agg #[.int .i64 8, .int .u32 7, .int .u32 0, .bool false, .int .u32 0]) (.slice none 0 0) V) :
    Calls Try.prog 8 #[.string e5, .slice none 0 0] w fun e w' => ∃ x, e = .returned (.tuple #[x, .bool true]) ∧ BytesAt w' x (endK 5 []) ∧ Below w.heap.size w w' := by
  go_enter Try.func8, Try.ntmps8
  go_wp2
  go_loop [6, 7, 8, 9, 10] (fun a b c d i => a = .int .i64 0 ∧ b = .int .i64 0 ∧ c = .int .i64 0 ∧ d = .int .i64 0 ∧ i = .int .i64 0) (fun _ _ _ _ _ => 0)
  case atStart => exact ⟨rfl, rfl, rfl, rfl, rfl⟩
  case round =>
    obtain ⟨rfl, rfl, rfl, rfl, rfl⟩ := hrel
    go_wp2_with fail
    refine (cT _ (Below.refl _ _)).mono ?_
    rintro e w1 ⟨rfl, hb1⟩
    have B : Hid (Below w.heap.size w w1) := hb1
    clear hb1
    go_wp2_with fail
    refine (big_any V 1 w1 hV (by omega)).mono ?_
    rintro e w2 ⟨x, rfl, hr, hb2⟩
    have R : Hid (BytesAt w2 x (endK 5 [])) := by
      show BytesAt w2 x (bigL (sumV 8 7 0 false 0 []) 1)
      rw [eV.out]; exact hr.at
    replace B : Hid (Below w.heap.size w w2) := belowT B.out hb2
    clear hr hb2
    go_wp2
    go_ret2
    exact ⟨_, rfl, R.out, B.out⟩

set_option maxRecDepth 100000 in
set_option maxHeartbeats 4000000 in
theorem rof5_row (w : World) (g o cap : Nat) (bs : List Nat) (hl : (bs.length : Int) ≤ 300) (hbs : AllBytes bs) (hb : BytesIn w g o bs) (hg : g < w.heap.size) (V : Nat) (hV : V < 4294967296) (eV : Hid (sumV 8 7 0 false 0 bs = V)) (cT : RSumAtK w (.agg #[.int .i64 8, .int .u32 7, .int .u32 0, .bool false, .int .u32 0]) (.slice (some ⟨g, o, none⟩) bs.length cap) V) :
    Calls Try.prog 8 #[.string e5, .slice (some ⟨g, o, none⟩) bs.length cap] w fun e w' => ∃ x, e = .returned (.tuple #[x, .bool true]) ∧ BytesAt w' x (endK 5 bs) ∧ Below w.heap.size w w' := by
  have hb' : Hid (BytesIn w g o bs ∧ g < w.heap.size ∧ AllBytes bs) := ⟨hb, hg, hbs⟩
  clear hb hg hbs
  go_enter Try.func8, Try.ntmps8
  go_wp2
  go_loop [6, 7, 8, 9, 10] (fun a b c d i => ∃ k S M C : Nat, (k : Int) ≤ (bs.length : Int) ∧ i = .int .i64 (k : Int) ∧ a = .int .i64 (S : Int) ∧ b = .int .i64 (M : Int) ∧ c = .int .i64 (C : Int) ∧ d = .int .i64 (S : Int) ∧ Hid (S = totN (bs.take k) ∧ M = mixB (bs.take k) ∧ C = (secN (bs.take k)).2)) (fun _ _ _ _ i => bs.length - (intOf i).toNat)
  case atStart => exact ⟨0, 0, 0, 0, by omega, rfl, rfl, rfl, rfl, rfl, rfl, rfl, rfl⟩
  case round =>
    obtain ⟨k, S, M, C, hk, rfl, rfl, rfl, rfl, rfl, hv⟩ := hrel
    obtain ⟨vS, vM, vC⟩ := hv.out
    have tb := take_bytes hb'.out.2.2 k
    have lS := tot_le tb
    have lM := mix_lt tb
    have lC := sec_le tb
    rw [← vS] at lS
    rw [← vM] at lM
    rw [← vC] at lC
    have lk : (bs.take k).length ≤ 300 := by rw [List.length_take]; omega
    have lS2 : (S : Int) ≤ 76500 := by omega
    have lC2 : (C : Int) ≤ 22950000 := by
      have h1 : 255 * (bs.take k).length * (bs.take k).length ≤ 255 * 300 * 300 := Nat.mul_le_mul (Nat.mul_le_mul_left _ lk) lk
      omega
    clear lS lC lk tb
    by_cases hlt : k < bs.length
    · have hki : (k : Int) < (bs.length : Int) := by omega
      have hcell := hb'.out.1 k hlt
      have hc : bs[k] < 256 := hb'.out.2.2 _ (List.getElem_mem hlt)
      have nx : Hid (S + bs[k] = totN (bs.take (k + 1)) ∧ M ^^^ bs[k] = mixB (bs.take (k + 1)) ∧ C + (S + bs[k]) = (secN (bs.take (k + 1))).2) := by
        refine ⟨?_, ?_, ?_⟩
        · rw [take_snoc bs hlt, totN_snoc, ← vS]
        · rw [take_snoc bs hlt, mixB_snoc, ← vM]
        · rw [take_snoc bs hlt, secN_snoc, secN_one, ← vC, ← vS]
      clear hv vS vM vC
      generalize bs[k] = c at *
      obtain ⟨M2, hM2⟩ : ∃ M2 : Nat, M ^^^ c = M2 := ⟨_, rfl⟩
      have xr : bits .xor .i64 (M : Int) (c : Int) = (M2 : Int) := by rw [i64_xor_small lM hc, hM2]
      rw [hM2] at nx
      replace nx : Hid (S + c = totN (bs.take (k + 1)) ∧ M2 = mixB (bs.take (k + 1)) ∧ C + (S + c) = (secN (bs.take (k + 1))).2) := nx
      clear hM2
      have hci : (0 : Int) ≤ (c : Int) ∧ (c : Int) < 256 := ⟨by omega, by omega⟩
      go_wp2
      exact ⟨⟨k + 1, S + c, M2, C + (S + c), by omega, by simp, by simp, by simp, by simp, by simp, nx⟩, by simp [intOf]; omega⟩
    · obtain rfl : k = bs.length := by omega
      rw [List.take_length] at vS vM vC
      clear hlt hk hv
      clear vS vM vC
      go_wp2_with fail
      refine (cT _ (Below.refl _ _)).mono ?_
      rintro e w1 ⟨rfl, hb1⟩
      have B : Hid (Below w.heap.size w w1) := hb1
      clear hb1
      go_wp2_with fail
      refine (big_any V 1 w1 hV (by omega)).mono ?_
      rintro e w2 ⟨x, rfl, hr, hb2⟩
      have R : Hid (BytesAt w2 x (endK 5 bs)) := by
        show BytesAt w2 x (bigL (sumV 8 7 0 false 0 bs) 1)
        rw [eV.out]; exact hr.at
      replace B : Hid (Below w.heap.size w w2) := belowT B.out hb2
      clear hr hb2
      go_wp2
      go_ret2
      exact ⟨_, rfl, R.out, B.out⟩

set_option maxRecDepth 100000 in
set_option maxHeartbeats 4000000 in
theorem rof6_nil (w : World) (V : Nat) (hV : V < 4294967296) (eV : Hid (sumV 16 32773 0 true 0 [] = V)) (cT : RSumAtK w (.agg #[.int .i64 16, .int .u32 32773, .int .u32 0, .bool true, .int .u32 0]) (.slice none 0 0) V) :
    Calls Try.prog 8 #[.string e6, .slice none 0 0] w fun e w' => ∃ x, e = .returned (.tuple #[x, .bool true]) ∧ BytesAt w' x (endK 6 []) ∧ Below w.heap.size w w' := by
  go_enter Try.func8, Try.ntmps8
  go_wp2
  go_loop [6, 7, 8, 9, 10] (fun a b c d i => a = .int .i64 0 ∧ b = .int .i64 0 ∧ c = .int .i64 0 ∧ d = .int .i64 0 ∧ i = .int .i64 0) (fun _ _ _ _ _ => 0)
  case atStart => exact ⟨rfl, rfl, rfl, rfl, rfl⟩
  case round =>
    obtain ⟨rfl, rfl, rfl, rfl, rfl⟩ := hrel
    go_wp2_with fail
    refine (cT _ (Below.refl _ _)).mono ?_
    rintro e w1 ⟨rfl, hb1⟩
    have B : Hid (Below w.heap.size w w1) := hb1
    clear hb1
    go_wp2_with fail
    refine (big_any V 2 w1 hV (by omega)).mono ?_
    rintro e w2 ⟨x, rfl, hr, hb2⟩
    have R : Hid (BytesAt w2 x (endK 6 [])) := by
      show BytesAt w2 x (bigL (sumV 16 32773 0 true 0 []) 2)
      rw [eV.out]; exact hr.at
    replace B : Hid (Below w.heap.size w w2) := belowT B.out hb2
    clear hr hb2
    go_wp2
    go_ret2
    exact ⟨_, rfl, R.out, B.out⟩

set_option maxRecDepth 100000 in
set_option maxHeartbeats 4000000 in
theorem rof6_row (w : World) (g o cap : Nat) (bs : List Nat) (hl : (bs.length : Int) ≤ 300) (hbs : AllBytes bs) (hb : BytesIn w g o bs) (hg : g < w.heap.size) (V : Nat) (hV : V < 4294967296) (eV : Hid (sumV 16 32773 0 true 0 bs = V)) (cT : RSumAtK w (.agg #[.int .i64 16, .int .u32 32773, .int .u32 0, .bool true, .int .u32 0]) (.slice (some ⟨g, o, none⟩) bs.length cap) V) :
    Calls Try.prog 8 #[.string e6, .slice (some ⟨g, o, none⟩) bs.length cap] w fun e w' => ∃ x, e = .returned (.tuple #[x, .bool true]) ∧ BytesAt w' x (endK 6 bs) ∧ Below w.heap.size w w' := by
  have hb' : Hid (BytesIn w g o bs ∧ g < w.heap.size ∧ AllBytes bs) := ⟨hb, hg, hbs⟩
  clear hb hg hbs
  go_enter Try.func8, Try.ntmps8
  go_wp2
  go_loop [6, 7, 8, 9, 10] (fun a b c d i => ∃ k S M C : Nat, (k : Int) ≤ (bs.length : Int) ∧ i = .int .i64 (k : Int) ∧ a = .int .i64 (S : Int) ∧ b = .int .i64 (M : Int) ∧ c = .int .i64 (C : Int) ∧ d = .int .i64 (S : Int) ∧ Hid (S = totN (bs.take k) ∧ M = mixB (bs.take k) ∧ C = (secN (bs.take k)).2)) (fun _ _ _ _ i => bs.length - (intOf i).toNat)
  case atStart => exact ⟨0, 0, 0, 0, by omega, rfl, rfl, rfl, rfl, rfl, rfl, rfl, rfl⟩
  case round =>
    obtain ⟨k, S, M, C, hk, rfl, rfl, rfl, rfl, rfl, hv⟩ := hrel
    obtain ⟨vS, vM, vC⟩ := hv.out
    have tb := take_bytes hb'.out.2.2 k
    have lS := tot_le tb
    have lM := mix_lt tb
    have lC := sec_le tb
    rw [← vS] at lS
    rw [← vM] at lM
    rw [← vC] at lC
    have lk : (bs.take k).length ≤ 300 := by rw [List.length_take]; omega
    have lS2 : (S : Int) ≤ 76500 := by omega
    have lC2 : (C : Int) ≤ 22950000 := by
      have h1 : 255 * (bs.take k).length * (bs.take k).length ≤ 255 * 300 * 300 := Nat.mul_le_mul (Nat.mul_le_mul_left _ lk) lk
      omega
    clear lS lC lk tb
    by_cases hlt : k < bs.length
    · have hki : (k : Int) < (bs.length : Int) := by omega
      have hcell := hb'.out.1 k hlt
      have hc : bs[k] < 256 := hb'.out.2.2 _ (List.getElem_mem hlt)
      have nx : Hid (S + bs[k] = totN (bs.take (k + 1)) ∧ M ^^^ bs[k] = mixB (bs.take (k + 1)) ∧ C + (S + bs[k]) = (secN (bs.take (k + 1))).2) := by
        refine ⟨?_, ?_, ?_⟩
        · rw [take_snoc bs hlt, totN_snoc, ← vS]
        · rw [take_snoc bs hlt, mixB_snoc, ← vM]
        · rw [take_snoc bs hlt, secN_snoc, secN_one, ← vC, ← vS]
      clear hv vS vM vC
      generalize bs[k] = c at *
      obtain ⟨M2, hM2⟩ : ∃ M2 : Nat, M ^^^ c = M2 := ⟨_, rfl⟩
      have xr : bits .xor .i64 (M : Int) (c : Int) = (M2 : Int) := by rw [i64_xor_small lM hc, hM2]
      rw [hM2] at nx
      replace nx : Hid (S + c = totN (bs.take (k + 1)) ∧ M2 = mixB (bs.take (k + 1)) ∧ C + (S + c) = (secN (bs.take (k + 1))).2) := nx
      clear hM2
      have hci : (0 : Int) ≤ (c : Int) ∧ (c : Int) < 256 := ⟨by omega, by omega⟩
      go_wp2
      exact ⟨⟨k + 1, S + c, M2, C + (S + c), by omega, by simp, by simp, by simp, by simp, by simp, nx⟩, by simp [intOf]; omega⟩
    · obtain rfl : k = bs.length := by omega
      rw [List.take_length] at vS vM vC
      clear hlt hk hv
      clear vS vM vC
      go_wp2_with fail
      refine (cT _ (Below.refl _ _)).mono ?_
      rintro e w1 ⟨rfl, hb1⟩
      have B : Hid (Below w.heap.size w w1) := hb1
      clear hb1
      go_wp2_with fail
      refine (big_any V 2 w1 hV (by omega)).mono ?_
      rintro e w2 ⟨x, rfl, hr, hb2⟩
      have R : Hid (BytesAt w2 x (endK 6 bs)) := by
        show BytesAt w2 x (bigL (sumV 16 32773 0 true 0 bs) 2)
        rw [eV.out]; exact hr.at
      replace B : Hid (Below w.heap.size w w2) := belowT B.out hb2
      clear hr hb2
      go_wp2
      go_ret2
      exact ⟨_, rfl, R.out, B.out⟩

set_option maxRecDepth 100000 in
set_option maxHeartbeats 4000000 in
theorem rof7_nil (w : World) (V : Nat) (hV : V < 4294967296) (eV : Hid (sumV 16 4129 65535 false 0 [] = V)) (cT : RSumAtK w (.agg #[.int .i64 16, .int .u32 4129, .int .u32 65535, .bool false, .int .u32 0]) (.slice none 0 0) V) :
    Calls Try.prog 8 #[.string e7, .slice none 0 0] w fun e w' => ∃ x, e = .returned (.tuple #[x, .bool true]) ∧ BytesAt w' x (endK 7 []) ∧ Below w.heap.size w w' := by
  go_enter Try.func8, Try.ntmps8
  go_wp2
  go_loop [6, 7, 8, 9, 10] (fun a b c d i => a = .int .i64 0 ∧ b = .int .i64 0 ∧ c = .int .i64 0 ∧ d = .int .i64 0 ∧ i = .int .i64 0) (fun _ _ _ _ _ => 0)
  case atStart => exact ⟨rfl, rfl, rfl, rfl, rfl⟩
  case round =>
    obtain ⟨rfl, rfl, rfl, rfl, rfl⟩ := hrel
    go_wp2_with fail
    refine (cT _ (Below.refl _ _)).mono ?_
    rintro e w1 ⟨rfl, hb1⟩
    have B : Hid (Below w.heap.size w w1) := hb1
    clear hb1
    go_wp2_with fail
    refine (big_any V 2 w1 hV (by omega)).mono ?_
    rintro e w2 ⟨x, rfl, hr, hb2⟩
    have R : Hid (BytesAt w2 x (endK 7 [])) := by
      show BytesAt w2 x (bigL (sumV 16 4129 65535 false 0 []) 2)
      rw [eV.out]; exact hr.at
    replace B : Hid (Below w.heap.size w w2) := belowT B.out hb2
    clear hr hb2
    go_wp2
    go_ret2
    exact ⟨_, rfl, R.out, B.out⟩

set_option maxRecDepth 100000 in
set_option maxHeartbeats 4000000 in
theorem rof7_row (w : World) (g o cap : Nat) (bs : List Nat) (hl : (bs.length : Int) ≤ 300) (hbs : AllBytes bs) (hb : BytesIn w g o bs) (hg : g < w.heap.size) (V : Nat) (hV : V < 4294967296) (eV : Hid (sumV 16 4129 65535 false 0 bs = V)) (cT : RSumAtK w (.agg #[.int .i64 16, .int .u32 4129, .int .u32 65535, .bool false, .int .u32 0]) (.slice (some ⟨g, o, none⟩) bs.length cap) V) :
    Calls Try.prog 8 #[.string e7, .slice (some ⟨g, o, none⟩) bs.length cap] w fun e w' => ∃ x, e = .returned (.tuple #[x, .bool true]) ∧ BytesAt w' x (endK 7 bs) ∧ Below w.heap.size w w' := by
  have hb' : Hid (BytesIn w g o bs ∧ g < w.heap.size ∧ AllBytes bs) := ⟨hb, hg, hbs⟩
  clear hb hg hbs
  go_enter Try.func8, Try.ntmps8
  go_wp2
  go_loop [6, 7, 8, 9, 10] (fun a b c d i => ∃ k S M C : Nat, (k : Int) ≤ (bs.length : Int) ∧ i = .int .i64 (k : Int) ∧ a = .int .i64 (S : Int) ∧ b = .int .i64 (M : Int) ∧ c = .int .i64 (C : Int) ∧ d = .int .i64 (S : Int) ∧ Hid (S = totN (bs.take k) ∧ M = mixB (bs.take k) ∧ C = (secN (bs.take k)).2)) (fun _ _ _ _ i => bs.length - (intOf i).toNat)
  case atStart => exact ⟨0, 0, 0, 0, by omega, rfl, rfl, rfl, rfl, rfl, rfl, rfl, rfl⟩
  case round =>
    obtain ⟨k, S, M, C, hk, rfl, rfl, rfl, rfl, rfl, hv⟩ := hrel
    obtain ⟨vS, vM, vC⟩ := hv.out
    have tb := take_bytes hb'.out.2.2 k
    have lS := tot_le tb
    have lM := mix_lt tb
    have lC := sec_le tb
    rw [← vS] at lS
    rw [← vM] at lM
    rw [← vC] at lC
    have lk : (bs.take k).length ≤ 300 := by rw [List.length_take]; omega
    have lS2 : (S : Int) ≤ 76500 := by omega
    have lC2 : (C : Int) ≤ 22950000 := by
      have h1 : 255 * (bs.take k).length * (bs.take k).length ≤ 255 * 300 * 300 := Nat.mul_le_mul (Nat.mul_le_mul_left _ lk) lk
      omega
    clear lS lC lk tb
    by_cases hlt : k < bs.length
    · have hki : (k : Int) < (bs.length : Int) := by omega
      have hcell := hb'.out.1 k hlt
      have hc : bs[k] < 256 := hb'.out.2.2 _ (List.getElem_mem hlt)
      have nx : Hid (S + bs[k] = totN (bs.take (k + 1)) ∧ M ^^^ bs[k] = mixB (bs.take (k + 1)) ∧ C + (S + bs[k]) = (secN (bs.take (k + 1))).2) := by
        refine ⟨?_, ?_, ?_⟩
        · rw [take_snoc bs hlt, totN_snoc, ← vS]
        · rw [take_snoc bs hlt, mixB_snoc, ← vM]
        · rw [take_snoc bs hlt, secN_snoc, secN_one, ← vC, ← vS]
      clear hv vS vM vC
      generalize bs[k] = c at *
      obtain ⟨M2, hM2⟩ : ∃ M2 : Nat, M ^^^ c = M2 := ⟨_, rfl⟩
      have xr : bits .xor .i64 (M : Int) (c : Int) = (M2 : Int) := by rw [i64_xor_small lM hc, hM2]
      rw [hM2] at nx
      replace nx : Hid (S + c = totN (bs.take (k + 1)) ∧ M2 = mixB (bs.take (k + 1)) ∧ C + (S + c) = (secN (bs.take (k + 1))).2) := nx
      clear hM2
      have hci : (0 : Int) ≤ (c : Int) ∧ (c : Int) < 256 := ⟨by omega, by omega⟩
      go_wp2
      exact ⟨⟨k + 1, S + c, M2, C + (S + c), by omega, by simp, by simp, by simp, by simp, by simp, nx⟩, by simp [intOf]; omega⟩
    · obtain rfl : k = bs.length := by omega
      rw [List.take_length] at vS vM vC
      clear hlt hk hv
      clear vS vM vC
      go_wp2_with fail
      refine (cT _ (Below.refl _ _)).mono ?_
      rintro e w1 ⟨rfl, hb1⟩
      have B : Hid (Below w.heap.size w w1) := hb1
      clear hb1
      go_wp2_with fail
      refine (big_any V 2 w1 hV (by omega)).mono ?_
      rintro e w2 ⟨x, rfl, hr, hb2⟩
      have R : Hid (BytesAt w2 x (endK 7 bs)) := by
        show BytesAt w2 x (bigL (sumV 16 4129 65535 false 0 bs) 2)
        rw [eV.out]; exact hr.at
      replace B : Hid (Below w.heap.size w w2) := belowT B.out hb2
      clear hr hb2
      go_wp2
      go_ret2
      exact ⟨_, rfl, R.out, B.out⟩

set_option maxRecDepth 100000 in
set_option maxHeartbeats 4000000 in
theorem rof8_nil (w : World) (V : Nat) (hV : V < 4294967296) (eV : Hid (sumV 32 79764919 4294967295 true 4294967295 [] = V)) (cT : RSumAtK w (.agg #[.int .i64 32, .int .u32 79764919, .int .u32 4294967295, .bool true, .int .u32 4294967295]) (.slice none 0 0) V) :
    Calls Try.prog 8 #[.string e8, .slice none 0 0] w fun e w' => ∃ x, e = .returned (.tuple #[x, .bool true]) ∧ BytesAt w' x (endK 8 []) ∧ Below w.heap.size w w' := by
  go_enter Try.func8, Try.ntmps8
  go_wp2
  go_loop [6, 7, 8, 9, 10] (fun a b c d i => a = .int .i64 0 ∧ b = .int .i64 0 ∧ c = .int .i64 0 ∧ d = .int .i64 0 ∧ i = .int .i64 0) (fun _ _ _ _ _ => 0)
  case atStart => exact ⟨rfl, rfl, rfl, rfl, rfl⟩
  case round =>
    obtain ⟨rfl, rfl, rfl, rfl, rfl⟩ := hrel
    go_wp2_with fail
    refine (cT _ (Below.refl _ _)).mono ?_
    rintro e w1 ⟨rfl, hb1⟩
    have B : Hid (Below w.heap.size w w1) := hb1
    clear hb1
    go_wp2_with fail
    refine (big_any V 4 w1 hV (by omega)).mono ?_
    rintro e w2 ⟨x, rfl, hr, hb2⟩
    have R : Hid (BytesAt w2 x (endK 8 [])) := by
      show BytesAt w2 x (bigL (sumV 32 79764919 4294967295 true 4294967295 []) 4)
      rw [eV.out]; exact hr.at
    replace B : Hid (Below w.heap.size w w2) := belowT B.out hb2
    clear hr hb2
    go_wp2
    go_ret2
    exact ⟨_, rfl, R.out, B.out⟩

set_option maxRecDepth 100000 in
set_option maxHeartbeats 4000000 in
theorem rof8_row (w : World) (g o cap : Nat) (bs : List Nat) (hl : (bs.length : Int) ≤ 300) (hbs : AllBytes bs) (hb : BytesIn w g o bs) (hg : g < w.heap.size) (V : Nat) (hV : V < 4294967296) (eV : Hid (sumV 32 79764919 4294967295 true 4294967295 bs = V)) (cT : RSumAtK w (.agg #[.int .i64 32, .int .u32 79764919, .int .u32 4294967295, .bool true, .int .u32 4294967295]) (.slice (some ⟨g, o, none⟩) bs.length cap) V) :
    Calls Try.prog 8 #[.string e8, .slice (some ⟨g, o, none⟩) bs.length cap] w fun e w' => ∃ x, e = .returned (.tuple #[x, .bool true]) ∧ BytesAt w' x (endK 8 bs) ∧ Below w.heap.size w w' := by
  have hb' : Hid (BytesIn w g o bs ∧ g < w.heap.size ∧ AllBytes bs) := ⟨hb, hg, hbs⟩
  clear hb hg hbs
  go_enter Try.func8, Try.ntmps8
  go_wp2
  go_loop [6, 7, 8, 9, 10] (fun a b c d i => ∃ k S M C : Nat, (k : Int) ≤ (bs.length : Int) ∧ i = .int .i64 (k : Int) ∧ a = .int .i64 (S : Int) ∧ b = .int .i64 (M : Int) ∧ c = .int .i64 (C : Int) ∧ d = .int .i64 (S : Int) ∧ Hid (S = totN (bs.take k) ∧ M = mixB (bs.take k) ∧ C = (secN (bs.take k)).2)) (fun _ _ _ _ i => bs.length - (intOf i).toNat)
  case atStart => exact ⟨0, 0, 0, 0, by omega, rfl, rfl, rfl, rfl, rfl, rfl, rfl, rfl⟩
  case round =>
    obtain ⟨k, S, M, C, hk, rfl, rfl, rfl, rfl, rfl, hv⟩ := hrel
    obtain ⟨vS, vM, vC⟩ := hv.out
    have tb := take_bytes hb'.out.2.2 k
    have lS := tot_le tb
    have lM := mix_lt tb
    have lC := sec_le tb
    rw [← vS] at lS
    rw [← vM] at lM
    rw [← vC] at lC
    have lk : (bs.take k).length ≤ 300 := by rw [List.length_take]; omega
    have lS2 : (S : Int) ≤ 76500 := by omega
    have lC2 : (C : Int) ≤ 22950000 := by
      have h1 : 255 * (bs.take k).length * (bs.take k).length ≤ 255 * 300 * 300 := Nat.mul_le_mul (Nat.mul_le_mul_left _ lk) lk
      omega
    clear lS lC lk tb
    by_cases hlt : k < bs.length
    · have hki : (k : Int) < (bs.length : Int) := by omega
      have hcell := hb'.out.1 k hlt
      have hc : bs[k] < 256 := hb'.out.2.2 _ (List.getElem_mem hlt)
      have nx : Hid (S + bs[k] = totN (bs.take (k + 1)) ∧ M ^^^ bs[k] = mixB (bs.take (k + 1)) ∧ C + (S + bs[k]) = (secN (bs.take (k + 1))).2) := by
        refine ⟨?_, ?_, ?_⟩
        · rw [take_snoc bs hlt, totN_snoc, ← vS]
        · rw [take_snoc bs hlt, mixB_snoc, ← vM]
        · rw [take_snoc bs hlt, secN_snoc, secN_one, ← vC, ← vS]
      clear hv vS vM vC
      generalize bs[k] = c at *
      obtain ⟨M2, hM2⟩ : ∃ M2 : Nat, M ^^^ c = M2 := ⟨_, rfl⟩
      have xr : bits .xor .i64 (M : Int) (c : Int) = (M2 : Int) := by rw [i64_xor_small lM hc, hM2]
      rw [hM2] at nx
      replace nx : Hid (S + c = totN (bs.take (k + 1)) ∧ M2 = mixB (bs.take (k + 1)) ∧ C + (S + c) = (secN (bs.take (k + 1))).2) := nx
      clear hM2
      have hci : (0 : Int) ≤ (c : Int) ∧ (c : Int) < 256 := ⟨by omega, by omega⟩
      go_wp2
      exact ⟨⟨k + 1, S + c, M2, C + (S + c), by omega, by simp, by simp, by simp, by simp, by simp, nx⟩, by simp [intOf]; omega⟩
    · obtain rfl : k = bs.length := by omega
      rw [List.take_length] at vS vM vC
      clear hlt hk hv
      clear vS vM vC
      go_wp2_with fail
      refine (cT _ (Below.refl _ _)).mono ?_
      rintro e w1 ⟨rfl, hb1⟩
      have B : Hid (Below w.heap.size w w1) := hb1
      clear hb1
      go_wp2_with fail
      refine (big_any V 4 w1 hV (by omega)).mono ?_
      rintro e w2 ⟨x, rfl, hr, hb2⟩
      have R : Hid (BytesAt w2 x (endK 8 bs)) := by
        show BytesAt w2 x (bigL (sumV 32 79764919 4294967295 true 4294967295 bs) 4)
        rw [eV.out]; exact hr.at
      replace B : Hid (Below w.heap.size w w2) := belowT B.out hb2
      clear hr hb2
      go_wp2
      go_ret2
      exact ⟨_, rfl, R.out, B.out⟩

set_option maxRecDepth 100000 in
set_option maxHeartbeats 4000000 in
theorem rof9_nil (w : World) (s : ByteArray) (h0 : (s.toList == [110, 111, 110, 101]) = false) (h1 : (s.toList == [115, 117, 109]) = false) (h2 : (s.toList == [108, 114, 99]) = false) (h3 : (s.toList == [120, 111, 114]) = false) (h4 : (s.toList == [102, 108, 101, 116, 99, 104, 101, 114]) = false) (h5 : (s.toList == [99, 114, 99, 56]) = false) (h6 : (s.toList == [99, 114, 99, 49, 54]) = false) (h7 : (s.toList == [99, 99, 105, 116, 116]) = false) (h8 : (s.toList == [99, 114, 99, 51, 50]) = false) :
    Calls Try.prog 8 #[.string s, .slice none 0 0] w fun e w' => e = .returned (.tuple #[.slice none 0 0, .bool false]) ∧ Below w.heap.size w w' := by
  go_enter Try.func8, Try.ntmps8
  go_wp2
  go_loop [6, 7, 8, 9, 10] (fun a b c d i => a = .int .i64 0 ∧ b = .int .i64 0 ∧ c = .int .i64 0 ∧ d = .int .i64 0 ∧ i = .int .i64 0) (fun _ _ _ _ _ => 0)
  case atStart => exact ⟨rfl, rfl, rfl, rfl, rfl⟩
  case round =>
    obtain ⟨rfl, rfl, rfl, rfl, rfl⟩ := hrel
    go_wp2
    go_ret2
    exact ⟨rfl, Below.refl _ _⟩

set_option maxRecDepth 100000 in
set_option maxHeartbeats 4000000 in
theorem rof9_row (w : World) (s : ByteArray) (h0 : (s.toList == [110, 111, 110, 101]) = false) (h1 : (s.toList == [115, 117, 109]) = false) (h2 : (s.toList == [108, 114, 99]) = false) (h3 : (s.toList == [120, 111, 114]) = false) (h4 : (s.toList == [102, 108, 101, 116, 99, 104, 101, 114]) = false) (h5 : (s.toList == [99, 114, 99, 56]) = false) (h6 : (s.toList == [99, 114, 99, 49, 54]) = false) (h7 : (s.toList == [99, 99, 105, 116, 116]) = false) (h8 : (s.toList == [99, 114, 99, 51, 50]) = false) (g o cap : Nat) (bs : List Nat) (hl : (bs.length : Int) ≤ 300) (hbs : AllBytes bs) (hb : BytesIn w g o bs) (hg : g < w.heap.size) :
    Calls Try.prog 8 #[.string s, .slice (some ⟨g, o, none⟩) bs.length cap] w fun e w' => e = .returned (.tuple #[.slice none 0 0, .bool false]) ∧ Below w.heap.size w w' := by
  have hb' : Hid (BytesIn w g o bs ∧ g < w.heap.size ∧ AllBytes bs) := ⟨hb, hg, hbs⟩
  clear hb hg hbs
  go_enter Try.func8, Try.ntmps8
  go_wp2
  go_loop [6, 7, 8, 9, 10] (fun a b c d i => ∃ k S M C : Nat, (k : Int) ≤ (bs.length : Int) ∧ i = .int .i64 (k : Int) ∧ a = .int .i64 (S : Int) ∧ b = .int .i64 (M : Int) ∧ c = .int .i64 (C : Int) ∧ d = .int .i64 (S : Int) ∧ Hid (S = totN (bs.take k) ∧ M = mixB (bs.take k) ∧ C = (secN (bs.take k)).2)) (fun _ _ _ _ i => bs.length - (intOf i).toNat)
  case atStart => exact ⟨0, 0, 0, 0, by omega, rfl, rfl, rfl, rfl, rfl, rfl, rfl, rfl⟩
  case round =>
    obtain ⟨k, S, M, C, hk, rfl, rfl, rfl, rfl, rfl, hv⟩ := hrel
    obtain ⟨vS, vM, vC⟩ := hv.out
    have tb := take_bytes hb'.out.2.2 k
    have lS := tot_le tb
    have lM := mix_lt tb
    have lC := sec_le tb
    rw [← vS] at lS
    rw [← vM] at lM
    rw [← vC] at lC
    have lk : (bs.take k).length ≤ 300 := by rw [List.length_take]; omega
    have lS2 : (S : Int) ≤ 76500 := by omega
    have lC2 : (C : Int) ≤ 22950000 := by
      have h1 : 255 * (bs.take k).length * (bs.take k).length ≤ 255 * 300 * 300 := Nat.mul_le_mul (Nat.mul_le_mul_left _ lk) lk
      omega
    clear lS lC lk tb
    by_cases hlt : k < bs.length
    · have hki : (k : Int) < (bs.length : Int) := by omega
      have hcell := hb'.out.1 k hlt
      have hc : bs[k] < 256 := hb'.out.2.2 _ (List.getElem_mem hlt)
      have nx : Hid (S + bs[k] = totN (bs.take (k + 1)) ∧ M ^^^ bs[k] = mixB (bs.take (k + 1)) ∧ C + (S + bs[k]) = (secN (bs.take (k + 1))).2) := by
        refine ⟨?_, ?_, ?_⟩
        · rw [take_snoc bs hlt, totN_snoc, ← vS]
        · rw [take_snoc bs hlt, mixB_snoc, ← vM]
        · rw [take_snoc bs hlt, secN_snoc, secN_one, ← vC, ← vS]
      clear hv vS vM vC
      generalize bs[k] = c at *
      obtain ⟨M2, hM2⟩ : ∃ M2 : Nat, M ^^^ c = M2 := ⟨_, rfl⟩
      have xr : bits .xor .i64 (M : Int) (c : Int) = (M2 : Int) := by rw [i64_xor_small lM hc, hM2]
      rw [hM2] at nx
      replace nx : Hid (S + c = totN (bs.take (k + 1)) ∧ M2 = mixB (bs.take (k + 1)) ∧ C + (S + c) = (secN (bs.take (k + 1))).2) := nx
      clear hM2
      have hci : (0 : Int) ≤ (c : Int) ∧ (c : Int) < 256 := ⟨by omega, by omega⟩
      go_wp2
      exact ⟨⟨k + 1, S + c, M2, C + (S + c), by omega, by simp, by simp, by simp, by simp, by simp, nx⟩, by simp [intOf]; omega⟩
    · obtain rfl : k = bs.length := by omega
      rw [List.take_length] at vS vM vC
      clear hlt hk hv
      clear vS vM vC
      go_wp2
      go_ret2
      exact ⟨rfl, Below.refl _ _⟩
end Go.Proofs.Ytllkkgcfhphgmaa
/-
  What the document's own Of returns, of any name (layer 5). Conditions: the bytes lie in memory that was there before, at most 300.
-/
namespace Go.Proofs.Ytllkkgcfhphgmaa
open Go.RowKit
set_option linter.unusedVariables false

theorem kind_ok : kindB 8 7 0 0 = true ∧ kindB 16 32773 0 0 = true ∧ kindB 16 4129 65535 0 = true ∧ kindB 32 79764919 4294967295 4294967295 = true := ⟨by kernel_rfl, by kernel_rfl, by kernel_rfl, by kernel_rfl⟩
theorem sumV_below {W : Int} {p f : Nat} {t : Bool} {z : Nat} {bs : List Nat} (hk : kindB W p f z = true) : sumV W p f t z bs < 2 ^ W.toNat := by
  have hw := kind_width hk
  have hz : z < 2 ^ W.toNat := by
    unfold kindB at hk
    simp only [Bool.and_eq_true, decide_eq_true_eq] at hk
    exact hk.2.2.2
  rw [sumV_yes hk]
  exact sumL_lt (by omega) hz
theorem sumV_u32 {W : Int} {p f : Nat} {t : Bool} {z : Nat} {bs : List Nat} (hk : kindB W p f z = true) : sumV W p f t z bs < 4294967296 := by
  have hw := kind_width hk
  have h1 := sumV_below (t := t) (bs := bs) hk
  have h2 : 2 ^ W.toNat ≤ 2 ^ 32 := Nat.pow_le_pow_right (by omega) (by omega)
  omega
theorem rsumAtK {w : World} {W : Int} {p f : Nat} {t : Bool} {z : Nat} {v : Value} {bs : List Nat} (hp : p < 4294967296) (hf : f < 4294967296) (hz : z < 4294967296) (hv : BytesAt w v bs) (hl : (bs.length : Int) ≤ 300) (hb : AllBytes bs) (hk : kindB W p f z = true) : RSumAtK w (kv W p f t z) v (sumV W p f t z bs) := by
  intro x hx
  have hw := kind_width hk
  have e : ((W.toNat : Nat) : Int) = W := by omega
  have k := rsum_any W.toNat p f t z v bs x (by omega) hp hf hz hb (by omega) (hv.below hx)
  rw [e, ← sumV_yes hk] at k
  exact k
theorem rof_yes {k : Nat} (hk : k < 9) (v : Value) (bs : List Nat) (w : World) (hv : BytesAt w v bs) (hl : (bs.length : Int) ≤ 300) (hb : AllBytes bs) :
    Calls Try.prog 8 #[.string (nameN k), v] w fun e w' => ∃ x, e = .returned (.tuple #[x, .bool true]) ∧ BytesAt w' x (endK k bs) ∧ Below w.heap.size w w' := by
  have c8 := rsumAtK (W := 8) (p := 7) (f := 0) (t := false) (z := 0) (by omega) (by omega) (by omega) hv hl hb kind_ok.1
  have c16 := rsumAtK (W := 16) (p := 32773) (f := 0) (t := true) (z := 0) (by omega) (by omega) (by omega) hv hl hb kind_ok.2.1
  have cC := rsumAtK (W := 16) (p := 4129) (f := 65535) (t := false) (z := 0) (by omega) (by omega) (by omega) hv hl hb kind_ok.2.2.1
  have c32 := rsumAtK (W := 32) (p := 79764919) (f := 4294967295) (t := true) (z := 4294967295) (by omega) (by omega) (by omega) hv hl hb kind_ok.2.2.2
  have l8 := sumV_u32 (t := false) (bs := bs) kind_ok.1
  have l16 := sumV_u32 (t := true) (bs := bs) kind_ok.2.1
  have lC := sumV_u32 (t := false) (bs := bs) kind_ok.2.2.1
  have l32 := sumV_u32 (t := true) (bs := bs) kind_ok.2.2.2
  rcases hv with ⟨rfl, rfl⟩ | ⟨g, o, cap, rfl, h1, h2⟩
  · match k, hk with
    | 0, _ => exact rof0_nil w
    | 1, _ => exact rof1_nil w
    | 2, _ => exact rof2_nil w
    | 3, _ => exact rof3_nil w
    | 4, _ => exact rof4_nil w
    | 5, _ => exact rof5_nil w _ l8 rfl c8
    | 6, _ => exact rof6_nil w _ l16 rfl c16
    | 7, _ => exact rof7_nil w _ lC rfl cC
    | 8, _ => exact rof8_nil w _ l32 rfl c32
  · match k, hk with
    | 0, _ => exact rof0_row w g o cap bs hl hb h1 h2
    | 1, _ => exact rof1_row w g o cap bs hl hb h1 h2
    | 2, _ => exact rof2_row w g o cap bs hl hb h1 h2
    | 3, _ => exact rof3_row w g o cap bs hl hb h1 h2
    | 4, _ => exact rof4_row w g o cap bs hl hb h1 h2
    | 5, _ => exact rof5_row w g o cap bs hl hb h1 h2 _ l8 rfl c8
    | 6, _ => exact rof6_row w g o cap bs hl hb h1 h2 _ l16 rfl c16
    | 7, _ => exact rof7_row w g o cap bs hl hb h1 h2 _ lC rfl cC
    | 8, _ => exact rof8_row w g o cap bs hl hb h1 h2 _ l32 rfl c32
theorem rof_no (s : ByteArray) (v : Value) (bs : List Nat) (w : World) (hv : BytesAt w v bs) (hl : (bs.length : Int) ≤ 300) (hb : AllBytes bs) (n : ¬ s = e0 ∧ ¬ s = e1 ∧ ¬ s = e2 ∧ ¬ s = e3 ∧ ¬ s = e4 ∧ ¬ s = e5 ∧ ¬ s = e6 ∧ ¬ s = e7 ∧ ¬ s = e8) :
    Calls Try.prog 8 #[.string s, v] w fun e w' => e = .returned (.tuple #[.slice none 0 0, .bool false]) ∧ Below w.heap.size w w' := by
  obtain ⟨n0, n1, n2, n3, n4, n5, n6, n7, n8⟩ := n
  rcases hv with ⟨rfl, rfl⟩ | ⟨g, o, cap, rfl, h1, h2⟩
  · exact rof9_nil w s (not_e0 n0) (not_e1 n1) (not_e2 n2) (not_e3 n3) (not_e4 n4) (not_e5 n5) (not_e6 n6) (not_e7 n7) (not_e8 n8)
  · exact rof9_row w s (not_e0 n0) (not_e1 n1) (not_e2 n2) (not_e3 n3) (not_e4 n4) (not_e5 n5) (not_e6 n6) (not_e7 n7) (not_e8 n8) g o cap bs hl hb h1 h2

/-! what holds -/
theorem tot_from (bs : List Nat) : ∀ a, bs.foldl (fun a c => a + c) a = a + totN bs := by
  unfold totN
  induction bs with
  | nil => intro a; simp
  | cons c bs ih => intro a; simp only [List.foldl_cons]; rw [ih, ih (0 + c)]; omega
theorem tot_mid (pre post : List Nat) (c : Nat) : totN (pre ++ c :: post) = totN pre + c + totN post := by
  have h : totN (pre ++ c :: post) = (c :: post).foldl (fun a c => a + c) (totN pre) := by unfold totN; rw [List.foldl_append]
  rw [h, List.foldl_cons, tot_from]
theorem mix_from (bs : List Nat) : ∀ a, bs.foldl (fun a c => a ^^^ c) a = a ^^^ mixB bs := by
  unfold mixB
  induction bs with
  | nil => intro a; simp
  | cons c bs ih => intro a; simp only [List.foldl_cons]; rw [ih, ih (0 ^^^ c), Nat.zero_xor, Nat.xor_assoc]
theorem mix_mid (pre post : List Nat) (c : Nat) : mixB (pre ++ c :: post) = mixB pre ^^^ c ^^^ mixB post := by
  have h : mixB (pre ++ c :: post) = (c :: post).foldl (fun a c => a ^^^ c) (mixB pre) := by unfold mixB; rw [List.foldl_append]
  rw [h, List.foldl_cons, mix_from]
theorem sec_from (bs : List Nat) : ∀ a b, (bs.foldl (fun a c => (a.1 + c, a.2 + (a.1 + c))) (a, b) : Nat × Nat) = (a + totN bs, b + a * bs.length + (secN bs).2) := by
  induction bs with
  | nil => intro a b; simp [totN, secN]
  | cons c bs ih =>
    intro a b
    have h0 : secN (c :: bs) = bs.foldl (fun a c => (a.1 + c, a.2 + (a.1 + c))) (0 + c, 0 + (0 + c)) := rfl
    have ht : totN (c :: bs) = c + totN bs := by
      have : totN (c :: bs) = bs.foldl (fun a c => a + c) (0 + c) := rfl
      rw [this, tot_from]; omega
    simp only [List.foldl_cons]
    rw [ih, h0, ih, ht, List.length_cons]
    refine Prod.ext ?_ ?_
    · simp only; omega
    · simp only; grind
theorem sec_mid (pre post : List Nat) (c : Nat) : (secN (pre ++ c :: post)).2 = (secN pre).2 + totN pre + c + (totN pre + c) * post.length + (secN post).2 := by
  have h : secN (pre ++ c :: post) = (c :: post).foldl (fun a c => (a.1 + c, a.2 + (a.1 + c))) (secN pre) := by unfold secN; rw [List.foldl_append]
  have h1 := secN_one pre
  rw [h, List.foldl_cons, sec_from, h1]
  simp only
  omega
/-- the sum of bytes, and the lrc behind them -/
theorem end_zero (bs : List Nat) : endK 1 (bs ++ endK 2 bs) = [0] ∧ endK 3 (bs ++ endK 3 bs) = [0] := by
  refine ⟨?_, ?_⟩
  · show [totN (bs ++ [(256 - totN bs % 256) % 256]) % 256] = [0]
    rw [totN_snoc]
    congr 1
    omega
  · show [mixB (bs ++ [mixB bs])] = [0]
    rw [mixB_snoc, Nat.xor_self]
/-- when a changed byte makes no difference -/
def sameK (k c d : Nat) : Bool := decide (c = d ∨ k = 0 ∨ (k = 4 ∧ ((c = 0 ∧ d = 255) ∨ (c = 255 ∧ d = 0))))
theorem xor_swap {x a b y : Nat} (h : x ^^^ a ^^^ y = x ^^^ b ^^^ y) : a = b := by
  have h1 : x ^^^ a = x ^^^ b := xor_cancel h
  rw [Nat.xor_comm x a, Nat.xor_comm x b] at h1
  exact xor_cancel h1
theorem big_one {W : Int} {p f : Nat} {t : Bool} {z n : Nat} {pre post : List Nat} {c d : Nat} (hk : kindB W p f z = true) (hp : p % 2 = 1) (hn : 2 ^ W.toNat ≤ 256 ^ n) (hc : c < 256) (hd : d < 256) : (bigL (sumV W p f t z (pre ++ d :: post)) n = bigL (sumV W p f t z (pre ++ c :: post)) n) ↔ c = d := by
  refine ⟨fun e => ?_, fun e => by rw [e]⟩
  have h1 := sumV_below (t := t) (bs := pre ++ d :: post) hk
  have h2 := sumV_below (t := t) (bs := pre ++ c :: post) hk
  have e1 := bigL_inj n (by omega) (by omega) e
  rw [sumV_yes hk, sumV_yes hk] at e1
  have hw := kind_width hk
  exact (sum_one (by omega) hp hd hc e1).symm
theorem end_one {k : Nat} (hk : k < 9) (pre post : List Nat) (c d : Nat) (hc : c < 256) (hd : d < 256) : (endK k (pre ++ d :: post) = endK k (pre ++ c :: post)) ↔ sameK k c d = true := by
  have sm : sameK k c d = true ↔ (c = d ∨ k = 0 ∨ (k = 4 ∧ ((c = 0 ∧ d = 255) ∨ (c = 255 ∧ d = 0)))) := by unfold sameK; rw [decide_eq_true_iff]
  rw [sm]
  match k, hk with
  | 0, _ => exact ⟨fun _ => .inr (.inl rfl), fun _ => rfl⟩
  | 1, _ =>
    show [totN (pre ++ d :: post) % 256] = [totN (pre ++ c :: post) % 256] ↔ _
    rw [tot_mid, tot_mid]
    constructor
    · intro e
      have e' : (totN pre + d + totN post) % 256 = (totN pre + c + totN post) % 256 := by simpa using e
      omega
    · intro e
      have : c = d := by omega
      rw [this]
  | 2, _ =>
    show [(256 - totN (pre ++ d :: post) % 256) % 256] = [(256 - totN (pre ++ c :: post) % 256) % 256] ↔ _
    rw [tot_mid, tot_mid]
    constructor
    · intro e
      have e' : (256 - (totN pre + d + totN post) % 256) % 256 = (256 - (totN pre + c + totN post) % 256) % 256 := by simpa using e
      omega
    · intro e
      have : c = d := by omega
      rw [this]
  | 3, _ =>
    show [mixB (pre ++ d :: post)] = [mixB (pre ++ c :: post)] ↔ _
    rw [mix_mid, mix_mid]
    constructor
    · intro e
      have e' : mixB pre ^^^ d ^^^ mixB post = mixB pre ^^^ c ^^^ mixB post := by simpa using e
      exact .inl (xor_swap e').symm
    · intro e
      have : c = d := by omega
      rw [this]
  | 4, _ =>
    show [(secN (pre ++ d :: post)).2 % 255, totN (pre ++ d :: post) % 255] = [(secN (pre ++ c :: post)).2 % 255, totN (pre ++ c :: post) % 255] ↔ _
    rw [tot_mid, tot_mid, sec_mid, sec_mid]
    generalize (secN pre).2 = A
    generalize (secN post).2 = B
    generalize totN pre = P
    generalize totN post = Q
    generalize post.length = n
    constructor
    · intro e
      have e' : (P + d + Q) % 255 = (P + c + Q) % 255 := by
        have := (List.cons.inj e).2
        simpa using this
      omega
    · intro e
      have key : ∀ x y : Nat, (x = 0 ∧ y = 255) → (A + P + y + (P + y) * n + B) % 255 = (A + P + x + (P + x) * n + B) % 255 ∧ (P + y + Q) % 255 = (P + x + Q) % 255 := by
        rintro x y ⟨rfl, rfl⟩
        refine ⟨?_, by omega⟩
        have : A + P + 255 + (P + 255) * n + B = A + P + 0 + (P + 0) * n + B + 255 * (1 + n) := by grind
        rw [this, Nat.add_mul_mod_self_left]
      rcases e with e | e | ⟨_, e | e⟩
      · rw [e]
      · omega
      · obtain ⟨k1, k2⟩ := key c d e
        rw [k1, k2]
      · obtain ⟨k1, k2⟩ := key d c ⟨e.2, e.1⟩
        rw [k1, k2]
  | 5, _ => exact (big_one (n := 1) kind_ok.1 (by decide) (by decide) hc hd).trans ⟨fun h => .inl h, fun h => by omega⟩
  | 6, _ => exact (big_one (n := 2) kind_ok.2.1 (by decide) (by decide) hc hd).trans ⟨fun h => .inl h, fun h => by omega⟩
  | 7, _ => exact (big_one (n := 2) kind_ok.2.2.1 (by decide) (by decide) hc hd).trans ⟨fun h => .inl h, fun h => by omega⟩
  | 8, _ => exact (big_one (n := 4) kind_ok.2.2.2 (by decide) (by decide) hc hd).trans ⟨fun h => .inl h, fun h => by omega⟩
end Go.Proofs.Ytllkkgcfhphgmaa
/-
  What is asked of the program's own Size (layer 5), as contracts. The contracts themselves are proved elsewhere.
-/
namespace Go.Proofs.Ytllkkgcfhphgmaa
open Go.RowKit
set_option linter.unusedVariables false

/-- none of the names -/
def NoName (s : ByteArray) : Prop := ¬ s = e0 ∧ ¬ s = e1 ∧ ¬ s = e2 ∧ ¬ s = e3 ∧ ¬ s = e4 ∧ ¬ s = e5 ∧ ¬ s = e6 ∧ ¬ s = e7 ∧ ¬ s = e8
def SizeP : Prop := ∀ (k : Nat) (w : World), k < 9 → Calls Try.prog 31 #[.string (nameN k)] w fun e w' => e = .returned (.tuple #[.int .i64 ((sizeK k : Nat) : Int), .bool true]) ∧ Below w.heap.size w w'
def SizeN : Prop := ∀ (s : ByteArray) (w : World), NoName s → Calls Try.prog 31 #[.string s] w fun e w' => e = .returned (.tuple #[.int .i64 0, .bool false]) ∧ Below w.heap.size w w'
end Go.Proofs.Ytllkkgcfhphgmaa
/-
  What the program's own divided makes, and what its closures return (layer 5). Conditions: the closure's text lies where it was laid; the bytes lie in memory that was there before, at most 300.
-/
namespace Go.Proofs.Ytllkkgcfhphgmaa
open Go.RowKit
set_option linter.unusedVariables false

set_option maxHeartbeats 1000000 in
theorem divided_any (s : ByteArray) (w : World) : Calls Try.prog 65 #[.string s] w fun e w' => e = .returned (.func (.func 69) #[] #[.pointer (some ⟨w.heap.size, 0, none⟩)]) ∧ w' = w.alloc (.cells #[.string s] 9) := by
  have hmf : ∀ (fn : Fn) (first cap : Array Value) (w : World), (Instr.makeFunc fn first cap).run Try.prog w = .ok (.func fn first cap) w := fun _ _ _ _ => rfl
  go_enter Try.func65, Try.ntmps65
  go_wp2
  go_ret
  exact ⟨rfl, rfl⟩

/-- the sum, over every world behind w -/
def SumAtL (w : World) (W : Int) (p f : Nat) (t : Bool) (z : Nat) (v : Value) (V : Nat) (E : Int) : Prop := SumAt w W p f t z v V E
theorem SumAtL.out {w : World} {W : Int} {p f : Nat} {t : Bool} {z : Nat} {v : Value} {V : Nat} {E : Int} (h : SumAtL w W p f t z v V E) : SumAt w W p f t z v V E := h
theorem sumAtL {w : World} {W : Int} {p f : Nat} {t : Bool} {z : Nat} {v : Value} {bs : List Nat} (hp : p < 4294967296) (hf : f < 4294967296) (hz : z < 4294967296) (hv : BytesAt w v bs) (hl : (bs.length : Int) ≤ 9223372036854775807) (hb : AllBytes bs) : SumAtL w W p f t z v (sumV W p f t z bs) (sumE W p f z) :=
  fun x hx => sum_any W p f t z v bs x hp hf hz hb hl (hv.below hx)

set_option maxRecDepth 100000 in
set_option maxHeartbeats 2000000 in
theorem clo_5 (g : Nat) (v : Value) (bs : List Nat) (w : World) (hs : w.cell? ⟨g, 0, none⟩ = some (.string n8)) (hv : BytesAt w v bs) (hl : (bs.length : Int) ≤ 300) (hb : AllBytes bs) :
    Calls Try.prog 69 #[v, .pointer (some ⟨g, 0, none⟩)] w fun e w' => e = .returned (.int .u32 ((sumV 8 7 0 false 0 bs : Nat) : Int)) ∧ Below w.heap.size w w' := by
  have nm : Hid (∀ w, Calls Try.prog 70 #[.string n8] w fun e w' => e = .returned (.tuple #[kv 8 7 0 false 0, .bool true]) ∧ Below w.heap.size w w') := named_n8
  have sm : Hid (SumAtL w 8 7 0 false 0 v (sumV 8 7 0 false 0 bs) 0) := by
    have e : sumE 8 7 0 0 = 0 := sumE_yes kind_ok.1
    have k := sumAtL (W := 8) (p := 7) (f := 0) (t := false) (z := 0) (by omega) (by omega) (by omega) hv (by omega) hb
    rwa [e] at k
  clear hv hl hb
  generalize sumV 8 7 0 false 0 bs = V at *
  go_enter Try.func69, Try.ntmps69
  go_wp2_with fail
  refine (nm.out _).mono ?_
  rintro e w1 ⟨rfl, hb1⟩
  have B1 : Hid (Below w.heap.size w w1) := hb1
  have B2 : Hid (Below w.heap.size w (w1.alloc (.cells #[.int .i64 8, .int .u32 7, .int .u32 0, .bool false, .int .u32 0] 107))) := hb1.alloc hb1.size _
  clear hb1 nm hs
  go_wp2_with fail
  refine (sm.out _ B2.out).mono ?_
  rintro e w2 ⟨rfl, hb2⟩
  have B3 : Hid (Below w.heap.size w w2) := belowT B2.out hb2
  clear hb2 sm B1 B2
  go_wp2
  go_ret
  exact ⟨rfl, B3.out⟩

set_option maxRecDepth 100000 in
set_option maxHeartbeats 2000000 in
theorem clo_6 (g : Nat) (v : Value) (bs : List Nat) (w : World) (hs : w.cell? ⟨g, 0, none⟩ = some (.string n16)) (hv : BytesAt w v bs) (hl : (bs.length : Int) ≤ 300) (hb : AllBytes bs) :
    Calls Try.prog 69 #[v, .pointer (some ⟨g, 0, none⟩)] w fun e w' => e = .returned (.int .u32 ((sumV 16 32773 0 true 0 bs : Nat) : Int)) ∧ Below w.heap.size w w' := by
  have nm : Hid (∀ w, Calls Try.prog 70 #[.string n16] w fun e w' => e = .returned (.tuple #[kv 16 32773 0 true 0, .bool true]) ∧ Below w.heap.size w w') := named_n16
  have sm : Hid (SumAtL w 16 32773 0 true 0 v (sumV 16 32773 0 true 0 bs) 0) := by
    have e : sumE 16 32773 0 0 = 0 := sumE_yes kind_ok.2.1
    have k := sumAtL (W := 16) (p := 32773) (f := 0) (t := true) (z := 0) (by omega) (by omega) (by omega) hv (by omega) hb
    rwa [e] at k
  clear hv hl hb
  generalize sumV 16 32773 0 true 0 bs = V at *
  go_enter Try.func69, Try.ntmps69
  go_wp2_with fail
  refine (nm.out _).mono ?_
  rintro e w1 ⟨rfl, hb1⟩
  have B1 : Hid (Below w.heap.size w w1) := hb1
  have B2 : Hid (Below w.heap.size w (w1.alloc (.cells #[.int .i64 16, .int .u32 32773, .int .u32 0, .bool true, .int .u32 0] 107))) := hb1.alloc hb1.size _
  clear hb1 nm hs
  go_wp2_with fail
  refine (sm.out _ B2.out).mono ?_
  rintro e w2 ⟨rfl, hb2⟩
  have B3 : Hid (Below w.heap.size w w2) := belowT B2.out hb2
  clear hb2 sm B1 B2
  go_wp2
  go_ret
  exact ⟨rfl, B3.out⟩

set_option maxRecDepth 100000 in
set_option maxHeartbeats 2000000 in
theorem clo_7 (g : Nat) (v : Value) (bs : List Nat) (w : World) (hs : w.cell? ⟨g, 0, none⟩ = some (.string nC)) (hv : BytesAt w v bs) (hl : (bs.length : Int) ≤ 300) (hb : AllBytes bs) :
    Calls Try.prog 69 #[v, .pointer (some ⟨g, 0, none⟩)] w fun e w' => e = .returned (.int .u32 ((sumV 16 4129 65535 false 0 bs : Nat) : Int)) ∧ Below w.heap.size w w' := by
  have nm : Hid (∀ w, Calls Try.prog 70 #[.string nC] w fun e w' => e = .returned (.tuple #[kv 16 4129 65535 false 0, .bool true]) ∧ Below w.heap.size w w') := named_nC
  have sm : Hid (SumAtL w 16 4129 65535 false 0 v (sumV 16 4129 65535 false 0 bs) 0) := by
    have e : sumE 16 4129 65535 0 = 0 := sumE_yes kind_ok.2.2.1
    have k := sumAtL (W := 16) (p := 4129) (f := 65535) (t := false) (z := 0) (by omega) (by omega) (by omega) hv (by omega) hb
    rwa [e] at k
  clear hv hl hb
  generalize sumV 16 4129 65535 false 0 bs = V at *
  go_enter Try.func69, Try.ntmps69
  go_wp2_with fail
  refine (nm.out _).mono ?_
  rintro e w1 ⟨rfl, hb1⟩
  have B1 : Hid (Below w.heap.size w w1) := hb1
  have B2 : Hid (Below w.heap.size w (w1.alloc (.cells #[.int .i64 16, .int .u32 4129, .int .u32 65535, .bool false, .int .u32 0] 107))) := hb1.alloc hb1.size _
  clear hb1 nm hs
  go_wp2_with fail
  refine (sm.out _ B2.out).mono ?_
  rintro e w2 ⟨rfl, hb2⟩
  have B3 : Hid (Below w.heap.size w w2) := belowT B2.out hb2
  clear hb2 sm B1 B2
  go_wp2
  go_ret
  exact ⟨rfl, B3.out⟩

set_option maxRecDepth 100000 in
set_option maxHeartbeats 2000000 in
theorem clo_8 (g : Nat) (v : Value) (bs : List Nat) (w : World) (hs : w.cell? ⟨g, 0, none⟩ = some (.string n32)) (hv : BytesAt w v bs) (hl : (bs.length : Int) ≤ 300) (hb : AllBytes bs) :
    Calls Try.prog 69 #[v, .pointer (some ⟨g, 0, none⟩)] w fun e w' => e = .returned (.int .u32 ((sumV 32 79764919 4294967295 true 4294967295 bs : Nat) : Int)) ∧ Below w.heap.size w w' := by
  have nm : Hid (∀ w, Calls Try.prog 70 #[.string n32] w fun e w' => e = .returned (.tuple #[kv 32 79764919 4294967295 true 4294967295, .bool true]) ∧ Below w.heap.size w w') := named_n32
  have sm : Hid (SumAtL w 32 79764919 4294967295 true 4294967295 v (sumV 32 79764919 4294967295 true 4294967295 bs) 0) := by
    have e : sumE 32 79764919 4294967295 4294967295 = 0 := sumE_yes kind_ok.2.2.2
    have k := sumAtL (W := 32) (p := 79764919) (f := 4294967295) (t := true) (z := 4294967295) (by omega) (by omega) (by omega) hv (by omega) hb
    rwa [e] at k
  clear hv hl hb
  generalize sumV 32 79764919 4294967295 true 4294967295 bs = V at *
  go_enter Try.func69, Try.ntmps69
  go_wp2_with fail
  refine (nm.out _).mono ?_
  rintro e w1 ⟨rfl, hb1⟩
  have B1 : Hid (Below w.heap.size w w1) := hb1
  have B2 : Hid (Below w.heap.size w (w1.alloc (.cells #[.int .i64 32, .int .u32 79764919, .int .u32 4294967295, .bool true, .int .u32 4294967295] 107))) := hb1.alloc hb1.size _
  clear hb1 nm hs
  go_wp2_with fail
  refine (sm.out _ B2.out).mono ?_
  rintro e w2 ⟨rfl, hb2⟩
  have B3 : Hid (Below w.heap.size w w2) := belowT B2.out hb2
  clear hb2 sm B1 B2
  go_wp2
  go_ret
  exact ⟨rfl, B3.out⟩
end Go.Proofs.Ytllkkgcfhphgmaa
