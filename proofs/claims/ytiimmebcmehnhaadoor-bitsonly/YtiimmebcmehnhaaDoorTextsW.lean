/-
  What whole.Text returns, called with any number of 64 bits: its decimal text; the memory that was there stays. Condition: the argument is a number of 64 bits.
-/
import Derived.Test.YtiimmebcmehnhaaDoorSizeW
import Derived.Test.YtiimmebcmehnhaaDoorDigs
import Derived.Laws.IdiomStrings
namespace Go.Proofs.YtiimmebcmehnhaaDoor
open Go.RowKit
set_option linter.unusedVariables false

def byteV (b : UInt8) : Value := Value.int .u8 (b.toNat : Int)
def bufC (j k n : Nat) : Array Value := ((List.replicate j (0 : UInt8) ++ low k n).map byteV).toArray
def bufM (j k n : Nat) : Array Value := ((List.replicate j (0 : UInt8) ++ 45 :: low k n).map byteV).toArray

theorem buf0 (n : Nat) : bufC 20 0 n = #[Value.int IntKind.u8 0, Value.int IntKind.u8 0, Value.int IntKind.u8 0, Value.int IntKind.u8 0, Value.int IntKind.u8 0, Value.int IntKind.u8 0, Value.int IntKind.u8 0, Value.int IntKind.u8 0, Value.int IntKind.u8 0, Value.int IntKind.u8 0, Value.int IntKind.u8 0, Value.int IntKind.u8 0, Value.int IntKind.u8 0, Value.int IntKind.u8 0, Value.int IntKind.u8 0, Value.int IntKind.u8 0, Value.int IntKind.u8 0, Value.int IntKind.u8 0, Value.int IntKind.u8 0, Value.int IntKind.u8 0] := by
  simp [bufC, low, List.replicate, byteV]

theorem set_last (j : Nat) (l : List UInt8) (c : UInt8) : (List.replicate (j + 1) (0 : UInt8) ++ l).set j c = List.replicate j 0 ++ c :: l := by
  rw [List.replicate_succ', List.append_assoc, List.set_append_right _ _ (by simp)]
  simp

theorem buf_set (j k n m : Nat) (hm : m = n / 10 ^ k) : (bufC (j + 1) k n).setIfInBounds j (Value.int .u8 (48 + (m : Int) % 10)) = bufC j (k + 1) n := by
  have e : Value.int .u8 (48 + (m : Int) % 10) = byteV (dig (n / 10 ^ k)) := by
    unfold byteV; rw [dig_toNat, ← hm]; congr 1
  unfold bufC
  rw [e, List.setIfInBounds_toArray, ← List.map_set, set_last]; rfl
theorem bufM_set (j k n : Nat) : (bufC (j + 1) k n).setIfInBounds j (Value.int .u8 45) = bufM j k n := by
  have e : Value.int .u8 45 = byteV 45 := rfl
  unfold bufC bufM
  rw [e, List.setIfInBounds_toArray, ← List.map_set, set_last]
theorem buf_at (j k n : Nat) : (bufC (j + 1) k n)[j]? = some (Value.int .u8 0) := by
  unfold bufC
  simp [List.getElem?_append_left, byteV]
theorem row_tail (j : Nat) (l : List UInt8) (i : Nat) (hi : i < l.length) : ((List.replicate j (0 : UInt8) ++ l).map byteV).toArray[j + i]? = some (Value.int .u8 ((l[i]).toNat : Int)) := by
  simp [List.getElem?_append_right, byteV, List.getElem?_eq_getElem hi]
theorem bufC_tail (j k n i : Nat) (hi : i < (low k n).length) : (bufC j k n)[j + i]? = some (Value.int .u8 (((low k n)[i]).toNat : Int)) := row_tail j _ i hi
theorem bufM_tail (j k n i : Nat) (hi : i < (45 :: low k n).length) : (bufM j k n)[j + i]? = some (Value.int .u8 (((45 :: low k n)[i]).toNat : Int)) := row_tail j _ i hi

theorem alen : Tryd.prog.arrayLen 62 = 20 := by kernel_rfl
theorem aund : Tryd.prog.underlying 62 = some (.array (Tryd.prog.arrayLen 62) (Tryd.prog.elem 62)) := by kernel_rfl
theorem asz (w : World) : (Go.sizeOf (Tryd.prog.elem 62)).run Tryd.prog w = .ok 1 w := by kernel_rfl

theorem slice_tail (b i : Nat) (hi : i < 20) (w : World) : (Instr.sliceAt 62 (.pointer (some ⟨b, 0, none⟩)) (some (.int .i64 (i : Int))) none none).run Tryd.prog w = .ok (.slice (some ⟨b, i, none⟩) (20 - i) (20 - i)) w := by
  rw [run_sliceAt_array_l w 62 _ aund .i64 (i : Int) (by omega) (by rw [alen]; omega), asz, alen]
  simp only [Result.andThen, slicedAt, Int.toNat_natCast]
  rw [if_neg (by omega)]
  simp [Addr.add]
  intro h; omega

theorem taddr_add (b j i : Nat) : Addr.add ⟨b, j, none⟩ i = ⟨b, j + i, none⟩ := by
  unfold Addr.add
  by_cases h : i = 0
  · subst h; simp
  · simp [h]
/-- 'string(b[j:])': the cells behind j -/
theorem conv_C (w : World) (j k n : Nat) (h : j + k = 20) :
    (convert 22 9 (.slice (some ⟨w.heap.size, j, none⟩) (20 - j) (20 - j))).run Tryd.prog (w.alloc (.cells (bufC j k n) 62)) = .ok (.string ⟨(low k n).toArray⟩) (w.alloc (.cells (bufC j k n) 62)) := by
  have := run_convert_bytes_back (P := Tryd.prog) (w.alloc (.cells (bufC j k n) 62)) 22 9 5 ⟨w.heap.size, j, none⟩ (20 - j) (low k n) Tryd.underlying22 Tryd.underlying5 Tryd.underlying9 (fun i hi => by
    rw [taddr_add]
    simp [bufC_tail j k n i hi])
  rw [low_length, show k = 20 - j by omega] at this
  rw [show k = 20 - j by omega]
  exact this
theorem conv_M (w : World) (j k n : Nat) (h : j + k = 19) :
    (convert 22 9 (.slice (some ⟨w.heap.size, j, none⟩) (20 - j) (20 - j))).run Tryd.prog (w.alloc (.cells (bufM j k n) 62)) = .ok (.string ⟨(45 :: low k n).toArray⟩) (w.alloc (.cells (bufM j k n) 62)) := by
  have := run_convert_bytes_back (P := Tryd.prog) (w.alloc (.cells (bufM j k n) 62)) 22 9 5 ⟨w.heap.size, j, none⟩ (20 - j) (45 :: low k n) Tryd.underlying22 Tryd.underlying5 Tryd.underlying9 (fun i hi => by
    rw [taddr_add]
    have := bufM_tail j k n i hi
    simp [this])
  rw [List.length_cons, low_length, show k + 1 = 20 - j by omega] at this
  exact this

theorem pow19 {q : Nat} (hn : (q : Int) ≤ 9223372036854775808) : q / 10 ^ 19 = 0 := by
  apply Nat.div_eq_of_lt
  have : (10 : Nat) ^ 19 = 10000000000000000000 := by decide
  rw [this]; omega

theorem text_end {a : Int} {q k : Nat} (hq : a.natAbs = q) (h1 : q / 10 ^ (k + 1) = 0) (h3 : k = 0 ∨ q / 10 ^ k ≠ 0) (hk : k ≤ 18) :
    (a < 0 → textL a = 45 :: low (k + 1) q) ∧ (0 ≤ a → textL a = low (k + 1) q) := by
  have := low_dec k q 18 h1 h3 hk
  rw [this, ← hq]
  exact ⟨textL_neg, textL_pos⟩

theorem ret_s {l m : List UInt8} (h : m = l) : Ending.returned (.string ⟨l.toArray⟩) = .returned (.string ⟨m.toArray⟩) := by rw [h]

set_option maxHeartbeats 1000000 in
theorem text_any (a : Int) (w : World) (ha : -9223372036854775808 ≤ a ∧ a ≤ 9223372036854775807) :
    Calls Tryd.prog 25 #[.int .i64 a] w fun e w' => e = .returned (.string ⟨(textL a).toArray⟩) ∧ Grown w w' := by
  have hn : (a.natAbs : Int) ≤ 9223372036854775808 := by omega
  go_enter Tryd.func25, Tryd.ntmps25
  go_wp2_with fail
  refine (size_any a _ ha).mono ?_
  rintro e w' ⟨rfl, rfl⟩
  generalize hq : a.natAbs = q at *
  have hq' : Hid _ := hq
  clear hq
  go_wp2
  go_loopw [4, 5, 8] (fun u v i wx => ∃ j k m : Nat, u = .int .i64 ((j : Int) + 1) ∧ v = .int .u64 (m : Int) ∧ i = .int .i64 (k : Int) ∧ j + k ≤ 19 ∧ 19 ≤ j + k ∧ m ≤ q ∧ Hid (m = q / 10 ^ k) ∧ Hid (k = 0 ∨ q / 10 ^ k ≠ 0) ∧ wx = w.alloc (.cells (bufC (j + 1) k q) 62)) (fun _ _ i _ => 19 - (intOf i).toNat)
  case atStart => exact ⟨19, 0, q, rfl, rfl, rfl, by omega, by omega, by omega, by show _ = _; simp, .inl rfl, by rw [buf0]⟩
  case round =>
    obtain ⟨j, k, m, rfl, rfl, rfl, h1, h2, hmq, hm, h3, rfl⟩ := hrel
    by_cases h0 : (k : Int) < 19
    · have hcell : (w.alloc (.cells (bufC (j + 1) k q) 62)).cell? ⟨w.heap.size, j, none⟩ = some (.int .u8 0) := by
        simp [buf_at]
      have hset := buf_set j k q m hm.out
      have hdm : Hid (m / 10 = q / 10 ^ (k + 1)) := by show _ = _; rw [hm.out, Nat.div_div_eq_div_mul, Nat.pow_succ]
      obtain ⟨i, rfl⟩ : ∃ i, j = i + 1 := ⟨j - 1, by omega⟩
      have hat : (w.alloc (.cells (bufC (i + 1) (k + 1) q) 62)).cell? ⟨w.heap.size, i, none⟩ = some (.int .u8 0) := by
        simp [buf_at]
      have hset2 := bufM_set i (k + 1) q
      by_cases hz : (m : Int) / 10 = 0
      · have hend := text_end hq'.out (show q / 10 ^ (k + 1) = 0 by rw [← hdm.out]; omega) h3.out (by omega)
        have HE : Hid _ := hend
        clear hend
        by_cases hs : a < 0
        · have hsl := fun wx => slice_tail w.heap.size i (by omega) wx
          have hcv := conv_M w i (k + 1) q (by omega)
          go_wp2
          go_ret
          exact ⟨ret_s (HE.out.1 hs), (Grown.refl _).alloc _ _⟩
        · have hs : 0 ≤ a := by omega
          have hsl := fun wx => slice_tail w.heap.size (i + 1) (by omega) wx
          simp only [Int.natCast_add, Int.natCast_one] at hsl
          have hcv := conv_C w (i + 1) (k + 1) q (by omega)
          rw [show 20 - (i + 1) = 19 - i by omega] at hcv
          go_wp2
          go_ret
          exact ⟨ret_s (HE.out.2 hs), (Grown.refl _).alloc _ _⟩
      · go_wp2
        go_roundw
        case rel => exact ⟨i, k + 1, m / 10, by go_num, by go_num, by go_num, by omega, by omega, by omega, hdm, .inr (by rw [← hdm.out]; omega), rfl⟩
        case measure => simp [intOf]; omega
    · exfalso
      have hk : k = 19 := by omega
      subst hk
      rcases h3.out with h | h
      · omega
      · exact h (pow19 hn)
end Go.Proofs.YtiimmebcmehnhaaDoor
