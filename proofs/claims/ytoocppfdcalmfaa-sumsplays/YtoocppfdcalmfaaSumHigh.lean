/-
  What the program's own highestFirst returns (layer 5). Conditions: the number is of its kind, at most four bytes are asked.
-/
import Derived.Laws.MakeOwn
import Derived.Test.YtoocppfdcalmfaaSumCon
namespace Go.Proofs.Ytoocppfdcalmfaa
open Go.RowKit
set_option linter.unusedVariables false

/-- what the row holds behind k rounds -/
def highL (v n k : Nat) : List Nat := List.replicate (n - k) 0 ++ bigL v k
theorem highL_len (v : Nat) {n k : Nat} (h : k ≤ n) : (highL v n k).length = n := by
  unfold highL; rw [List.length_append, List.length_replicate, bigL_len]; omega
theorem highL_next (v : Nat) {n k j : Nat} (h : k < n) (hj : j = n - 1 - k) : (highL v n k).set j (v / 256 ^ k % 256) = highL v n (k + 1) := by
  subst hj
  obtain ⟨q, rfl⟩ : ∃ q, n = q + 1 + k := ⟨n - 1 - k, by omega⟩
  have e1 : q + 1 + k - k = q + 1 := by omega
  have e2 : q + 1 + k - 1 - k = q := by omega
  have e3 : q + 1 + k - (k + 1) = q := by omega
  unfold highL
  rw [e1, e2, e3, bigL_cons, List.replicate_succ', List.append_assoc, List.set_append_right _ _ (by simp), List.length_replicate, Nat.sub_self]
  rfl
theorem made1 : (madeCells (Value.cells (.int .u8 0)) (1 * 1)).toList.take 1 = u8v (List.replicate 1 0) := by kernel_rfl
theorem made2 : (madeCells (Value.cells (.int .u8 0)) (2 * 1)).toList.take 2 = u8v (List.replicate 2 0) := by kernel_rfl
theorem made3 : (madeCells (Value.cells (.int .u8 0)) (3 * 1)).toList.take 3 = u8v (List.replicate 3 0) := by kernel_rfl
theorem made4 : (madeCells (Value.cells (.int .u8 0)) (4 * 1)).toList.take 4 = u8v (List.replicate 4 0) := by kernel_rfl
theorem made_u8 (n : Nat) (h : n ≤ 4) : (madeCells (Value.cells (.int .u8 0)) (n * 1)).toList.take n = u8v (List.replicate n 0) := by
  match n, h with
  | 0, _ => rfl
  | 1, _ => exact made1
  | 2, _ => exact made2
  | 3, _ => exact made3
  | 4, _ => exact made4
theorem made_row (w : World) (n : Nat) (h : n ≤ 4) : RowU (w.alloc (.cells (madeCells (Value.cells (.int .u8 0)) (n * 1)) 5)) w.heap.size n (List.replicate n 0) :=
  ⟨by simp, by unfold maxLen; omega, _, World.alloc_heap_new w _, by rw [size_madeCells]; omega, by rw [List.length_replicate]; exact made_u8 n h⟩
theorem run_mk (w : World) (n : Nat) (h : n ≤ 4) : (Instr.makeSlice 22 (.int .i64 (n : Int)) (.int .i64 (n : Int))).run Try.prog w = .ok (.slice (some ⟨w.heap.size, 0, none⟩) n n) (w.alloc (.cells (madeCells (Value.cells (.int .u8 0)) (n * 1)) 5)) := by
  obtain ⟨i0, hi, hz0, hz1, hz2⟩ := info_parts info_u8
  have k := run_make (P := Try.prog) w 22 5 i0 (.int .u8 0) Try.underlying22 hi hz0 .i64 .i64 (n : Int) (n : Int) (by omega) (Int.le_refl _) (by rw [hz2]; omega) (by omega)
  rw [hz1] at k
  simpa only [Int.toNat_natCast] using k

set_option maxHeartbeats 4000000 in
theorem high_any (v n : Nat) (w : World) (hv : v < 4294967296) (hn : n ≤ 4) :
    Calls Try.prog 14 #[.int .u32 (v : Int), .int .i64 (n : Int)] w fun e w' => ∃ x, e = .returned x ∧ BytesAt w' x (bigL v n) ∧ Below w.heap.size w w' := by
  have mk := fun w => run_mk w n hn
  have hni : (n : Int) ≤ 4 := by omega
  have R0 : Hid (RowU (w.alloc (.cells (madeCells (Value.cells (.int .u8 0)) (n * 1)) 5)) w.heap.size n (highL v n 0)) := by
    have k := made_row w n hn
    unfold Hid highL
    simpa [bigL] using k
  have B0 : Hid (Below w.heap.size w (w.alloc (.cells (madeCells (Value.cells (.int .u8 0)) (n * 1)) 5))) := (Below.refl _ _).alloc (Nat.le_refl _) _
  generalize madeCells (Value.cells (.int .u8 0)) (n * 1) = MC at *
  go_enter Try.func14, Try.ntmps14
  go_wp2
  go_loopw [0, 10] (fun a i wr => ∃ k m : Nat, k ≤ n ∧ i = .int .i64 (k : Int) ∧ a = .int .u32 (m : Int) ∧ Hid (m = v / 256 ^ k) ∧ Hid (RowU wr w.heap.size n (highL v n k)) ∧ Hid (Below w.heap.size w wr)) (fun _ i _ => n - (intOf i).toNat)
  case atStart => exact ⟨0, v, by omega, rfl, rfl, by show _ = _; simp, R0, B0⟩
  case round =>
    obtain ⟨k, m, hk, rfl, rfl, hm, hrow, hB⟩ := hrel
    clear R0 B0 mk
    have hmb : (0 : Int) ≤ (m : Int) ∧ (m : Int) < 4294967296 := by
      have : v / 256 ^ k ≤ v := Nat.div_le_self _ _
      have := hm.out
      exact ⟨by omega, by omega⟩
    by_cases hlt : k < n
    · have hki : (k : Int) < (n : Int) := by omega
      obtain ⟨b, hb⟩ : ∃ b : Nat, b = m % 256 := ⟨_, rfl⟩
      obtain ⟨j, hj⟩ : ∃ j : Nat, j = n - 1 - k := ⟨_, rfl⟩
      have hdiv : Hid (m / 256 = v / 256 ^ (k + 1)) := by
        show _ = _
        rw [hm.out, Nat.div_div_eq_div_mul, Nat.pow_succ]
      have hset : Hid ((highL v n k).set j b = highL v n (k + 1)) := by
        unfold Hid
        rw [hb, hm.out]; exact highL_next v hlt hj
      have hlen : (highL v n k).length = n := highL_len v hk
      obtain ⟨cj, fj⟩ := hrow.out.cell j (by omega)
      have hb1 : IntKind.u8.wrap (m : Int) = (b : Int) := by simp only [IntKind.wrap_u8']; omega
      have hj1 : (n : Int) - 1 - (k : Int) = (j : Int) := by omega
      have hj2 : (j : Int) < (n : Int) := by omega
      have R1 : Hid (RowU (wr.setCell ⟨w.heap.size, j, none⟩ (.int .u8 (b : Int))) w.heap.size n (highL v n (k + 1))) := by
        unfold Hid
        have k := hrow.out.set j b
        rwa [hset.out] at k
      have B1 : Hid (Below w.heap.size w (wr.setCell ⟨w.heap.size, j, none⟩ (.int .u8 (b : Int)))) := hB.out.setCell (p := ⟨w.heap.size, j, none⟩) (Nat.le_refl _) _
      generalize (highL v n k)[j]'(by omega) = old at *
      clear hm hb hj hset hrow hB hlen
      go_wp2
      exact ⟨⟨k + 1, m / 256, by omega, by simp, by simp, hdiv, R1, B1⟩, by simp [intOf]; omega⟩
    · obtain rfl : k = n := by omega
      have X : Hid (BytesAt wr (.slice (some ⟨w.heap.size, 0, none⟩) k k) (bigL v k)) := by
        have h := hrow.out.at
        unfold highL at h
        unfold Hid
        simpa [bigL_len] using h
      clear hrow hm
      go_wp2
      go_ret
      exact ⟨_, rfl, X.out, hB.out⟩
end Go.Proofs.Ytoocppfdcalmfaa
