/-
  The names of endings, and the endings, kind by kind (layer 5). No conditions but those that each says.
-/
import Derived.Test.YtoocppfdcalmfaaSumRefA
import Derived.Test.YtoocppfdcalmfaaCrcSumAt
namespace Go.Proofs.Ytoocppfdcalmfaa
open Go.RowKit
set_option linter.unusedVariables false

abbrev e0 : ByteArray := ⟨#[110, 111, 110, 101]⟩
abbrev e1 : ByteArray := ⟨#[115, 117, 109]⟩
abbrev e2 : ByteArray := ⟨#[108, 114, 99]⟩
abbrev e3 : ByteArray := ⟨#[120, 111, 114]⟩
abbrev e4 : ByteArray := ⟨#[102, 108, 101, 116, 99, 104, 101, 114]⟩
abbrev e5 : ByteArray := ⟨#[99, 114, 99, 56]⟩
abbrev e6 : ByteArray := ⟨#[99, 114, 99, 49, 54]⟩
abbrev e7 : ByteArray := ⟨#[99, 99, 105, 116, 116]⟩
abbrev e8 : ByteArray := ⟨#[99, 114, 99, 51, 50]⟩
/-- the ending of kind k -/
def endK (k : Nat) (bs : List Nat) : List Nat :=
  match k with
  | 0 => []
  | 1 => [totN bs % 256]
  | 2 => [(256 - totN bs % 256) % 256]
  | 3 => [mixB bs]
  | 4 => [(secN bs).2 % 255, totN bs % 255]
  | 5 => bigL (sumV 8 7 0 false 0 bs) 1
  | 6 => bigL (sumV 16 32773 0 true 0 bs) 2
  | 7 => bigL (sumV 16 4129 65535 false 0 bs) 2
  | 8 => bigL (sumV 32 79764919 4294967295 true 4294967295 bs) 4
  | _ => []
/-- how long it is -/
def sizeK (k : Nat) : Nat :=
  match k with
  | 0 => 0
  | 1 => 1
  | 2 => 1
  | 3 => 1
  | 4 => 2
  | 5 => 1
  | 6 => 2
  | 7 => 2
  | 8 => 4
  | _ => 0
/-- which name it is; 9: none of them -/
def whichN (s : ByteArray) : Nat := if s = e0 then 0 else if s = e1 then 1 else if s = e2 then 2 else if s = e3 then 3 else if s = e4 then 4 else if s = e5 then 5 else if s = e6 then 6 else if s = e7 then 7 else if s = e8 then 8 else 9
def nameN (k : Nat) : ByteArray :=
  match k with
  | 0 => e0
  | 1 => e1
  | 2 => e2
  | 3 => e3
  | 4 => e4
  | 5 => e5
  | 6 => e6
  | 7 => e7
  | 8 => e8
  | _ => ⟨#[]⟩
theorem end_len {k : Nat} (h : k < 9) (bs : List Nat) : (endK k bs).length = sizeK k := by
  match k, h with
  | 0, _ => rfl
  | 1, _ => rfl
  | 2, _ => rfl
  | 3, _ => rfl
  | 4, _ => rfl
  | 5, _ => exact bigL_len _ _
  | 6, _ => exact bigL_len _ _
  | 7, _ => exact bigL_len _ _
  | 8, _ => exact bigL_len _ _
theorem end_bytes {k : Nat} (h : k < 9) {bs : List Nat} (hb : AllBytes bs) : AllBytes (endK k bs) := by
  have one : ∀ x : Nat, x < 256 → AllBytes [x] := fun x hx c hc => by rw [List.mem_singleton] at hc; omega
  match k, h with
  | 0, _ => exact fun c hc => by cases hc
  | 1, _ => exact one _ (by omega)
  | 2, _ => exact one _ (by omega)
  | 3, _ => exact one _ (mix_lt hb)
  | 4, _ =>
    intro c hc
    have hc' : c = (secN bs).2 % 255 ∨ c = totN bs % 255 := by simpa [endK] using hc
    omega
  | 5, _ => exact bigL_bytes _ _
  | 6, _ => exact bigL_bytes _ _
  | 7, _ => exact bigL_bytes _ _
  | 8, _ => exact bigL_bytes _ _
theorem not_e0 {s : ByteArray} (h : ¬ s = e0) : (s.toList == [110, 111, 110, 101]) = false := by have := txt_no h; rwa [show e0.toList = [110, 111, 110, 101] by rw [ByteArray.toList_eq]] at this
theorem not_e1 {s : ByteArray} (h : ¬ s = e1) : (s.toList == [115, 117, 109]) = false := by have := txt_no h; rwa [show e1.toList = [115, 117, 109] by rw [ByteArray.toList_eq]] at this
theorem not_e2 {s : ByteArray} (h : ¬ s = e2) : (s.toList == [108, 114, 99]) = false := by have := txt_no h; rwa [show e2.toList = [108, 114, 99] by rw [ByteArray.toList_eq]] at this
theorem not_e3 {s : ByteArray} (h : ¬ s = e3) : (s.toList == [120, 111, 114]) = false := by have := txt_no h; rwa [show e3.toList = [120, 111, 114] by rw [ByteArray.toList_eq]] at this
theorem not_e4 {s : ByteArray} (h : ¬ s = e4) : (s.toList == [102, 108, 101, 116, 99, 104, 101, 114]) = false := by have := txt_no h; rwa [show e4.toList = [102, 108, 101, 116, 99, 104, 101, 114] by rw [ByteArray.toList_eq]] at this
theorem not_e5 {s : ByteArray} (h : ¬ s = e5) : (s.toList == [99, 114, 99, 56]) = false := by have := txt_no h; rwa [show e5.toList = [99, 114, 99, 56] by rw [ByteArray.toList_eq]] at this
theorem not_e6 {s : ByteArray} (h : ¬ s = e6) : (s.toList == [99, 114, 99, 49, 54]) = false := by have := txt_no h; rwa [show e6.toList = [99, 114, 99, 49, 54] by rw [ByteArray.toList_eq]] at this
theorem not_e7 {s : ByteArray} (h : ¬ s = e7) : (s.toList == [99, 99, 105, 116, 116]) = false := by have := txt_no h; rwa [show e7.toList = [99, 99, 105, 116, 116] by rw [ByteArray.toList_eq]] at this
theorem not_e8 {s : ByteArray} (h : ¬ s = e8) : (s.toList == [99, 114, 99, 51, 50]) = false := by have := txt_no h; rwa [show e8.toList = [99, 114, 99, 51, 50] by rw [ByteArray.toList_eq]] at this
theorem which_name {k : Nat} (h : k < 9) : whichN (nameN k) = k := by
  match k, h with
  | 0, _ => exact of_decide_eq_true (by kernel_rfl)
  | 1, _ => exact of_decide_eq_true (by kernel_rfl)
  | 2, _ => exact of_decide_eq_true (by kernel_rfl)
  | 3, _ => exact of_decide_eq_true (by kernel_rfl)
  | 4, _ => exact of_decide_eq_true (by kernel_rfl)
  | 5, _ => exact of_decide_eq_true (by kernel_rfl)
  | 6, _ => exact of_decide_eq_true (by kernel_rfl)
  | 7, _ => exact of_decide_eq_true (by kernel_rfl)
  | 8, _ => exact of_decide_eq_true (by kernel_rfl)
theorem which_cases (s : ByteArray) : (∃ k, k < 9 ∧ s = nameN k ∧ whichN s = k) ∨ (whichN s = 9 ∧ ¬ s = e0 ∧ ¬ s = e1 ∧ ¬ s = e2 ∧ ¬ s = e3 ∧ ¬ s = e4 ∧ ¬ s = e5 ∧ ¬ s = e6 ∧ ¬ s = e7 ∧ ¬ s = e8) := by
  by_cases h0 : s = e0
  · exact .inl ⟨0, by omega, h0, by rw [h0]; exact which_name (k := 0) (by omega)⟩
  by_cases h1 : s = e1
  · exact .inl ⟨1, by omega, h1, by rw [h1]; exact which_name (k := 1) (by omega)⟩
  by_cases h2 : s = e2
  · exact .inl ⟨2, by omega, h2, by rw [h2]; exact which_name (k := 2) (by omega)⟩
  by_cases h3 : s = e3
  · exact .inl ⟨3, by omega, h3, by rw [h3]; exact which_name (k := 3) (by omega)⟩
  by_cases h4 : s = e4
  · exact .inl ⟨4, by omega, h4, by rw [h4]; exact which_name (k := 4) (by omega)⟩
  by_cases h5 : s = e5
  · exact .inl ⟨5, by omega, h5, by rw [h5]; exact which_name (k := 5) (by omega)⟩
  by_cases h6 : s = e6
  · exact .inl ⟨6, by omega, h6, by rw [h6]; exact which_name (k := 6) (by omega)⟩
  by_cases h7 : s = e7
  · exact .inl ⟨7, by omega, h7, by rw [h7]; exact which_name (k := 7) (by omega)⟩
  by_cases h8 : s = e8
  · exact .inl ⟨8, by omega, h8, by rw [h8]; exact which_name (k := 8) (by omega)⟩
  refine .inr ⟨?_, h0, h1, h2, h3, h4, h5, h6, h7, h8⟩
  unfold whichN
  rw [if_neg h0, if_neg h1, if_neg h2, if_neg h3, if_neg h4, if_neg h5, if_neg h6, if_neg h7, if_neg h8]
theorem i64_xor_small {a b : Nat} (ha : a < 256) (hb : b < 256) : bits .xor .i64 (a : Int) (b : Int) = ((a ^^^ b : Nat) : Int) := by
  have hx : a ^^^ b < 2 ^ 8 := Nat.xor_lt_two_pow (by omega) (by omega)
  show IntKind.i64.wrap ((BitVec.ofInt 64 (a : Int) ^^^ BitVec.ofInt 64 (b : Int)).toNat : Int) = _
  rw [BitVec.toNat_xor, ofInt_u64 a (by omega), ofInt_u64 b (by omega), IntKind.wrap_i64]
  omega
/-- bytes in a new block -/
theorem new_bytes (w : World) (l : List Nat) (c : Array Value) (hc : c.toList = u8v l) : BytesAt (w.alloc (.cells c 5)) (.slice (some ⟨w.heap.size, 0, none⟩) l.length l.length) l := by
  refine .inr ⟨w.heap.size, 0, l.length, rfl, fun j hj => ?_, by simp⟩
  have hb : (w.alloc (.cells c 5)).heap[w.heap.size]? = some (.cells c 5) := World.alloc_heap_new w _
  simp only [World.cell?, hb, Nat.zero_add]
  rw [← Array.getElem?_toList, hc, List.getElem?_map, List.getElem?_eq_getElem hj]
  rfl
end Go.Proofs.Ytoocppfdcalmfaa
