/-
  What the program's own Sum and Named, and the law's own Of and awake, return (layer 4). Conditions: the numbers are of their kinds; the bytes lie in memory that was there before.
-/
import Derived.Test.YtoocppfdcalmfaaCrcPD
import Derived.Test.YtoocppfdcalmfaaCrcOpen
namespace Go.Proofs.Ytoocppfdcalmfaa
open Go.RowKit
set_option linter.unusedVariables false


theorem sum8_any (p f : Nat) (t : Bool) (z : Nat) (b : Value) (bs : List Nat) (w : World) (hp : p < 4294967296) (hf : f < 4294967296) (hz : z < 4294967296) (hbs : AllBytes bs) (hlen : (bs.length : Int) ≤ 9223372036854775807) (h : BytesAt w b bs) :
    Calls Try.prog 30 #[kv 8 p f t z, b] w fun e w' => e = .returned (.tuple #[.int .u32 ((sumV 8 p f t z bs : Nat) : Int), .int .i64 (sumE 8 p f z)]) ∧ Below w.heap.size w w' := by
  have no : kindB 8 p f z = false → sumV 8 p f t z bs = 0 ∧ sumE 8 p f z = 1 := fun h => by unfold sumV sumE; rw [h]; exact ⟨rfl, rfl⟩
  by_cases h1 : p < 256
  · by_cases h2 : f < 256
    · by_cases h3 : z < 256
      · have hk : kindB 8 p f z = true := by unfold kindB; simp; omega
        have e1 : sumV 8 p f t z bs = sumN 8 p f t z bs := by
          unfold sumV; rw [if_pos hk]; exact sum_same (w := 8) (by omega) h1 h2 hbs
        have e2 : sumE 8 p f z = 0 := by unfold sumE; rw [if_pos hk]
        rw [e1, e2]
        rcases h with ⟨rfl, rfl⟩ | ⟨g, o, cap, rfl, hb, hg⟩
        · cases t
          · exact sum80_false p f z w h1 h2 h3
          · exact sum80_true p f z w h1 h2 h3
        · cases t
          · exact sum8_false p f z bs g o cap w h1 h2 h3 hbs hlen hb hg
          · exact sum8_true p f z bs g o cap w h1 h2 h3 hbs hlen hb hg
      · obtain ⟨e1, e2⟩ := no (by unfold kindB; simp; omega)
        rw [e1, e2]
        exact sum8_no_z p f t z b w h1 h2 (by omega) hz
    · obtain ⟨e1, e2⟩ := no (by unfold kindB; simp; omega)
      rw [e1, e2]
      exact sum8_no_f p f t z b w h1 (by omega) hf
  · obtain ⟨e1, e2⟩ := no (by unfold kindB; simp; omega)
    rw [e1, e2]
    exact sum8_no_p p f t z b w (by omega) hp

theorem sum16_any (p f : Nat) (t : Bool) (z : Nat) (b : Value) (bs : List Nat) (w : World) (hp : p < 4294967296) (hf : f < 4294967296) (hz : z < 4294967296) (hbs : AllBytes bs) (hlen : (bs.length : Int) ≤ 9223372036854775807) (h : BytesAt w b bs) :
    Calls Try.prog 31 #[kv 16 p f t z, b] w fun e w' => e = .returned (.tuple #[.int .u32 ((sumV 16 p f t z bs : Nat) : Int), .int .i64 (sumE 16 p f z)]) ∧ Below w.heap.size w w' := by
  have no : kindB 16 p f z = false → sumV 16 p f t z bs = 0 ∧ sumE 16 p f z = 1 := fun h => by unfold sumV sumE; rw [h]; exact ⟨rfl, rfl⟩
  by_cases h1 : p < 65536
  · by_cases h2 : f < 65536
    · by_cases h3 : z < 65536
      · have hk : kindB 16 p f z = true := by unfold kindB; simp; omega
        have e1 : sumV 16 p f t z bs = sumN 16 p f t z bs := by
          unfold sumV; rw [if_pos hk]; exact sum_same (w := 16) (by omega) h1 h2 hbs
        have e2 : sumE 16 p f z = 0 := by unfold sumE; rw [if_pos hk]
        rw [e1, e2]
        rcases h with ⟨rfl, rfl⟩ | ⟨g, o, cap, rfl, hb, hg⟩
        · cases t
          · exact sum160_false p f z w h1 h2 h3
          · exact sum160_true p f z w h1 h2 h3
        · cases t
          · exact sum16_false p f z bs g o cap w h1 h2 h3 hbs hlen hb hg
          · exact sum16_true p f z bs g o cap w h1 h2 h3 hbs hlen hb hg
      · obtain ⟨e1, e2⟩ := no (by unfold kindB; simp; omega)
        rw [e1, e2]
        exact sum16_no_z p f t z b w h1 h2 (by omega) hz
    · obtain ⟨e1, e2⟩ := no (by unfold kindB; simp; omega)
      rw [e1, e2]
      exact sum16_no_f p f t z b w h1 (by omega) hf
  · obtain ⟨e1, e2⟩ := no (by unfold kindB; simp; omega)
    rw [e1, e2]
    exact sum16_no_p p f t z b w (by omega) hp

theorem sum32_any (p f : Nat) (t : Bool) (z : Nat) (b : Value) (bs : List Nat) (w : World) (hp : p < 4294967296) (hf : f < 4294967296) (hz : z < 4294967296) (hbs : AllBytes bs) (hlen : (bs.length : Int) ≤ 9223372036854775807) (h : BytesAt w b bs) :
    Calls Try.prog 32 #[kv 32 p f t z, b] w fun e w' => e = .returned (.tuple #[.int .u32 ((sumV 32 p f t z bs : Nat) : Int), .int .i64 (sumE 32 p f z)]) ∧ Below w.heap.size w w' := by
  have h1 : p < 4294967296 := hp
  have h2 : f < 4294967296 := hf
  have h3 : z < 4294967296 := hz
  · have hk : kindB 32 p f z = true := by unfold kindB; simp; omega
    have e1 : sumV 32 p f t z bs = sumN 32 p f t z bs := by
      unfold sumV; rw [if_pos hk]; exact sum_same (w := 32) (by omega) h1 h2 hbs
    have e2 : sumE 32 p f z = 0 := by unfold sumE; rw [if_pos hk]
    rw [e1, e2]
    rcases h with ⟨rfl, rfl⟩ | ⟨g, o, cap, rfl, hb, hg⟩
    · cases t
      · exact sum320_false p f z w h1 h2 h3
      · exact sum320_true p f z w h1 h2 h3
    · cases t
      · exact sum32_false p f z bs g o cap w h1 h2 h3 hbs hlen hb hg
      · exact sum32_true p f z bs g o cap w h1 h2 h3 hbs hlen hb hg

def NewK (w : World) (W : Int) (p f : Nat) (t : Bool) (z : Nat) : World := w.alloc (.cells #[.int .i64 W, .int .u32 (p : Int), .int .u32 (f : Int), .bool t, .int .u32 (z : Int)] 56)
theorem newK_below (w : World) (W : Int) (p f : Nat) (t : Bool) (z : Nat) : Below w.heap.size w (NewK w W p f t z) := (Below.refl _ _).alloc (Nat.le_refl _) _

set_option maxRecDepth 100000 in
set_option maxHeartbeats 2000000 in
theorem sumOf8 (p f : Nat) (t : Bool) (z : Nat) (b : Value) (bs : List Nat) (w : World) (hp : p < 4294967296) (hf : f < 4294967296) (hz : z < 4294967296) (hbs : AllBytes bs) (hlen : (bs.length : Int) ≤ 9223372036854775807) (h : BytesAt w b bs) :
    Calls Try.prog 29 #[kv 8 p f t z, b] w fun e w' => e = .returned (.tuple #[.int .u32 ((sumV 8 p f t z bs : Nat) : Int), .int .i64 (sumE 8 p f z)]) ∧ Below w.heap.size w w' := by
  have nb : Hid (Below w.heap.size w (NewK w 8 p f t z)) := newK_below w 8 p f t z
  have c : Hid (Calls Try.prog 30 #[kv 8 p f t z, b] (NewK w 8 p f t z) fun e w' => e = .returned (.tuple #[.int .u32 ((sumV 8 p f t z bs : Nat) : Int), .int .i64 (sumE 8 p f z)]) ∧ Below (NewK w 8 p f t z).heap.size (NewK w 8 p f t z) w') := sum8_any p f t z b bs _ hp hf hz hbs hlen (h.below nb.out)
  clear h
  generalize sumV 8 p f t z bs = V at *
  generalize sumE 8 p f z = E at *
  go_enter Try.func29, Try.ntmps29
  go_wp2_with fail
  refine c.out.mono ?_
  rintro e w1 ⟨rfl, hb1⟩
  have B : Hid (Below w.heap.size w w1) := belowT nb.out hb1
  clear hb1 c nb
  go_wp2
  go_ret2
  exact ⟨rfl, B.out⟩

set_option maxRecDepth 100000 in
set_option maxHeartbeats 2000000 in
theorem sumOf16 (p f : Nat) (t : Bool) (z : Nat) (b : Value) (bs : List Nat) (w : World) (hp : p < 4294967296) (hf : f < 4294967296) (hz : z < 4294967296) (hbs : AllBytes bs) (hlen : (bs.length : Int) ≤ 9223372036854775807) (h : BytesAt w b bs) :
    Calls Try.prog 29 #[kv 16 p f t z, b] w fun e w' => e = .returned (.tuple #[.int .u32 ((sumV 16 p f t z bs : Nat) : Int), .int .i64 (sumE 16 p f z)]) ∧ Below w.heap.size w w' := by
  have nb : Hid (Below w.heap.size w (NewK w 16 p f t z)) := newK_below w 16 p f t z
  have c : Hid (Calls Try.prog 31 #[kv 16 p f t z, b] (NewK w 16 p f t z) fun e w' => e = .returned (.tuple #[.int .u32 ((sumV 16 p f t z bs : Nat) : Int), .int .i64 (sumE 16 p f z)]) ∧ Below (NewK w 16 p f t z).heap.size (NewK w 16 p f t z) w') := sum16_any p f t z b bs _ hp hf hz hbs hlen (h.below nb.out)
  clear h
  generalize sumV 16 p f t z bs = V at *
  generalize sumE 16 p f z = E at *
  go_enter Try.func29, Try.ntmps29
  go_wp2_with fail
  refine c.out.mono ?_
  rintro e w1 ⟨rfl, hb1⟩
  have B : Hid (Below w.heap.size w w1) := belowT nb.out hb1
  clear hb1 c nb
  go_wp2
  go_ret2
  exact ⟨rfl, B.out⟩

set_option maxRecDepth 100000 in
set_option maxHeartbeats 2000000 in
theorem sumOf32 (p f : Nat) (t : Bool) (z : Nat) (b : Value) (bs : List Nat) (w : World) (hp : p < 4294967296) (hf : f < 4294967296) (hz : z < 4294967296) (hbs : AllBytes bs) (hlen : (bs.length : Int) ≤ 9223372036854775807) (h : BytesAt w b bs) :
    Calls Try.prog 29 #[kv 32 p f t z, b] w fun e w' => e = .returned (.tuple #[.int .u32 ((sumV 32 p f t z bs : Nat) : Int), .int .i64 (sumE 32 p f z)]) ∧ Below w.heap.size w w' := by
  have nb : Hid (Below w.heap.size w (NewK w 32 p f t z)) := newK_below w 32 p f t z
  have c : Hid (Calls Try.prog 32 #[kv 32 p f t z, b] (NewK w 32 p f t z) fun e w' => e = .returned (.tuple #[.int .u32 ((sumV 32 p f t z bs : Nat) : Int), .int .i64 (sumE 32 p f z)]) ∧ Below (NewK w 32 p f t z).heap.size (NewK w 32 p f t z) w') := sum32_any p f t z b bs _ hp hf hz hbs hlen (h.below nb.out)
  clear h
  generalize sumV 32 p f t z bs = V at *
  generalize sumE 32 p f z = E at *
  go_enter Try.func29, Try.ntmps29
  go_wp2_with fail
  refine c.out.mono ?_
  rintro e w1 ⟨rfl, hb1⟩
  have B : Hid (Below w.heap.size w w1) := belowT nb.out hb1
  clear hb1 c nb
  go_wp2
  go_ret2
  exact ⟨rfl, B.out⟩

set_option maxRecDepth 100000 in
set_option maxHeartbeats 2000000 in
theorem sumOf_no (W : Int) (p f : Nat) (t : Bool) (z : Nat) (b : Value) (w : World) (h8 : (W == 8) = false) (h16 : (W == 16) = false) (h32 : (W == 32) = false) :
    Calls Try.prog 29 #[kv W p f t z, b] w fun e w' => e = .returned (.tuple #[.int .u32 0, .int .i64 1]) ∧ Below w.heap.size w w' := by
  have nb : Hid (Below w.heap.size w (w.alloc (.cells #[.int .i64 W, .int .u32 (p : Int), .int .u32 (f : Int), .bool t, .int .u32 (z : Int)] 56))) := newK_below w W p f t z
  go_enter Try.func29, Try.ntmps29
  go_wp2
  go_ret2
  exact ⟨rfl, nb.out⟩

theorem sum_any (W : Int) (p f : Nat) (t : Bool) (z : Nat) (b : Value) (bs : List Nat) (w : World) (hp : p < 4294967296) (hf : f < 4294967296) (hz : z < 4294967296) (hbs : AllBytes bs) (hlen : (bs.length : Int) ≤ 9223372036854775807) (h : BytesAt w b bs) :
    Calls Try.prog 29 #[kv W p f t z, b] w fun e w' => e = .returned (.tuple #[.int .u32 ((sumV W p f t z bs : Nat) : Int), .int .i64 (sumE W p f z)]) ∧ Below w.heap.size w w' := by
  by_cases h8 : W = 8
  · subst h8; exact sumOf8 p f t z b bs w hp hf hz hbs hlen h
  by_cases h16 : W = 16
  · subst h16; exact sumOf16 p f t z b bs w hp hf hz hbs hlen h
  by_cases h32 : W = 32
  · subst h32; exact sumOf32 p f t z b bs w hp hf hz hbs hlen h
  have hk : kindB W p f z = false := by unfold kindB; simp [h8, h16, h32]
  have e1 : sumV W p f t z bs = 0 := by unfold sumV; rw [hk]; rfl
  have e2 : sumE W p f z = 1 := by unfold sumE; rw [hk]; rfl
  rw [e1, e2]
  exact sumOf_no W p f t z b w (by simp [h8]) (by simp [h16]) (by simp [h32])

/-! the names -/
theorem txt_eq (a b : ByteArray) : (a.toList == b.toList) = decide (a = b) := by
  rw [ByteArray.toList_eq, ByteArray.toList_eq]
  by_cases h : a = b
  · subst h; simp
  · rw [decide_eq_false h, beq_eq_false_iff_ne]
    exact fun e => h (ByteArray.ext (Array.toList_inj.mp e))
theorem txt_no {a b : ByteArray} (h : ¬ a = b) : (a.toList == b.toList) = false := by rw [txt_eq, decide_eq_false h]
abbrev n8 : ByteArray := ⟨#[99, 114, 99, 56]⟩
abbrev n16 : ByteArray := ⟨#[99, 114, 99, 49, 54]⟩
abbrev nC : ByteArray := ⟨#[99, 99, 105, 116, 116]⟩
abbrev n32 : ByteArray := ⟨#[99, 114, 99, 51, 50]⟩

theorem not_n8 {s : ByteArray} (h : ¬ s = n8) : (s.toList == [99, 114, 99, 56]) = false := by have := txt_no h; rwa [show n8.toList = [99, 114, 99, 56] by rw [ByteArray.toList_eq]] at this
theorem not_n16 {s : ByteArray} (h : ¬ s = n16) : (s.toList == [99, 114, 99, 49, 54]) = false := by have := txt_no h; rwa [show n16.toList = [99, 114, 99, 49, 54] by rw [ByteArray.toList_eq]] at this
theorem not_nC {s : ByteArray} (h : ¬ s = nC) : (s.toList == [99, 99, 105, 116, 116]) = false := by have := txt_no h; rwa [show nC.toList = [99, 99, 105, 116, 116] by rw [ByteArray.toList_eq]] at this
theorem not_n32 {s : ByteArray} (h : ¬ s = n32) : (s.toList == [99, 114, 99, 51, 50]) = false := by have := txt_no h; rwa [show n32.toList = [99, 114, 99, 51, 50] by rw [ByteArray.toList_eq]] at this

set_option maxRecDepth 100000 in
theorem named_n8 (w : World) : Calls Try.prog 28 #[.string n8] w fun e w' => e = .returned (.tuple #[kv 8 7 0 false 0, .bool true]) ∧ Below w.heap.size w w' := by
  go_enter Try.func28, Try.ntmps28
  go_wp2
  exact bodyPost_ret (v := .tuple #[kv 8 7 0 false 0, .bool true]) (by simp [results, Try.results28, go_sem]) rfl ⟨rfl, (Below.refl _ _).alloc (Nat.le_refl _) _⟩

set_option maxRecDepth 100000 in
theorem named_n16 (w : World) : Calls Try.prog 28 #[.string n16] w fun e w' => e = .returned (.tuple #[kv 16 32773 0 true 0, .bool true]) ∧ Below w.heap.size w w' := by
  go_enter Try.func28, Try.ntmps28
  go_wp2
  exact bodyPost_ret (v := .tuple #[kv 16 32773 0 true 0, .bool true]) (by simp [results, Try.results28, go_sem]) rfl ⟨rfl, (Below.refl _ _).alloc (Nat.le_refl _) _⟩

set_option maxRecDepth 100000 in
theorem named_nC (w : World) : Calls Try.prog 28 #[.string nC] w fun e w' => e = .returned (.tuple #[kv 16 4129 65535 false 0, .bool true]) ∧ Below w.heap.size w w' := by
  go_enter Try.func28, Try.ntmps28
  go_wp2
  exact bodyPost_ret (v := .tuple #[kv 16 4129 65535 false 0, .bool true]) (by simp [results, Try.results28, go_sem]) rfl ⟨rfl, (Below.refl _ _).alloc (Nat.le_refl _) _⟩

set_option maxRecDepth 100000 in
theorem named_n32 (w : World) : Calls Try.prog 28 #[.string n32] w fun e w' => e = .returned (.tuple #[kv 32 79764919 4294967295 true 4294967295, .bool true]) ∧ Below w.heap.size w w' := by
  go_enter Try.func28, Try.ntmps28
  go_wp2
  exact bodyPost_ret (v := .tuple #[kv 32 79764919 4294967295 true 4294967295, .bool true]) (by simp [results, Try.results28, go_sem]) rfl ⟨rfl, (Below.refl _ _).alloc (Nat.le_refl _) _⟩

set_option maxRecDepth 100000 in
theorem named_no (s : ByteArray) (w : World) (h1 : (s.toList == [99, 114, 99, 56]) = false) (h2 : (s.toList == [99, 114, 99, 49, 54]) = false) (h3 : (s.toList == [99, 99, 105, 116, 116]) = false) (h4 : (s.toList == [99, 114, 99, 51, 50]) = false) :
    Calls Try.prog 28 #[.string s] w fun e w' => e = .returned (.tuple #[kv 0 0 0 false 0, .bool false]) ∧ Below w.heap.size w w' := by
  go_enter Try.func28, Try.ntmps28
  go_wp2
  exact bodyPost_ret (v := .tuple #[kv 0 0 0 false 0, .bool false]) (by simp [results, Try.results28, go_sem]) rfl ⟨rfl, (Below.refl _ _).alloc (Nat.le_refl _) _⟩
end Go.Proofs.Ytoocppfdcalmfaa
