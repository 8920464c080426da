/-
  The law's own awake returns true (layer 4): the document's example. No conditions.
-/
import Derived.Test.YtjbgjiodmhpbbaaCrcLaw
namespace Go.Proofs.Ytjbgjiodmhpbbaa
open Go.RowKit
set_option linter.unusedVariables false

abbrev digA : Array Value := #[.int .u8 49, .int .u8 50, .int .u8 51, .int .u8 52, .int .u8 53, .int .u8 54, .int .u8 55, .int .u8 56, .int .u8 57]
theorem dig_at (w : World) : BytesAt (w.alloc (.cells digA 5 (9, 10))) (.slice (some ⟨w.heap.size, 0, none⟩) 9 9) digs := by
  refine .inr ⟨w.heap.size, 0, 9, rfl, ?_, by simp⟩
  have hb : (w.alloc (.cells digA 5 (9, 10))).heap[w.heap.size]? = some (.cells digA 5 (9, 10)) := World.alloc_heap_new w _
  have key : ∀ j (hj : j < digs.length), digA[j]? = some (.int .u8 ((digs[j] : Nat) : Int)) := by
    unfold digs
    intro j hj
    match j, hj with
    | 0, _ => rfl
    | 1, _ => rfl
    | 2, _ => rfl
    | 3, _ => rfl
    | 4, _ => rfl
    | 5, _ => rfl
    | 6, _ => rfl
    | 7, _ => rfl
    | 8, _ => rfl
  intro j hj
  simp only [World.cell?, hb, Nat.zero_add]
  exact key j hj
theorem conv_digs (w : World) (o : Obj) : (convert 25 25 (.slice (some ⟨w.heap.size + 1, 0, none⟩) 9 9)).run Try.prog ((w.alloc o).alloc (.cells digA 5)) = .ok (.slice (some ⟨w.heap.size + 1, 0, none⟩) 9 9) ((w.alloc o).alloc (.cells digA 5 (9, 10))) := by
  have k := Lib.run_convert_bytes_const (P := Try.prog) (w.alloc o) 25 5 digA 9 9 Try.underlying25 Try.underlying5
  rw [World.size_alloc] at k
  exact k
theorem dig_at2 (w : World) (o : Obj) : BytesAt ((w.alloc o).alloc (.cells digA 5 (9, 10))) (.slice (some ⟨w.heap.size + 1, 0, none⟩) 9 9) digs := by
  have k := dig_at (w.alloc o)
  rw [World.size_alloc] at k
  exact k
def AwSum : Prop := ∀ (w : World) (b : Value), BytesAt w b digs → Calls Try.prog 9 #[.agg #[.int .i64 16, .int .u32 32773, .int .u32 0, .bool true, .int .u32 0], b] w fun e w' => e = .returned (.tuple #[.int .u32 47933, .int .i64 0]) ∧ Below w.heap.size w w'
theorem awSum : AwSum := fun w b h => by
  have k := sum_any 16 32773 0 true 0 b digs w (by omega) (by omega) (by omega) dig_bytes (by unfold digs; simp) h
  rw [dig_sum, dig_err] at k
  exact k

set_option maxRecDepth 100000 in
set_option maxHeartbeats 2000000 in
theorem awake_any (w : World) : Calls Try.prog 8 #[] w fun e w' => e = .returned (.bool true) ∧ Below w.heap.size w w' := by
  have kc := conv_digs
  go_enter Try.func8, Try.ntmps8
  go_wp2_with fail
  refine (named_n16 _).mono ?_
  rintro e w1 ⟨rfl, hb1⟩
  have B : Hid (Below w.heap.size w w1) := hb1
  clear hb1
  go_wp2_with fail
  refine (awSum _ _ (dig_at2 _ _)).mono ?_
  rintro e w2 ⟨rfl, hb2⟩
  have B2 : Hid (Below w.heap.size w w2) := belowT B.out (belowT (((Below.refl _ _).alloc (Nat.le_refl _) _).alloc (by simp) _) hb2)
  clear hb2 B
  go_wp2
  go_ret
  exact ⟨rfl, B2.out⟩
end Go.Proofs.Ytjbgjiodmhpbbaa
