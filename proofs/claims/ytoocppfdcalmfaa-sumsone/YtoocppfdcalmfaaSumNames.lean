/-
  What the program's own Names returns (layer 5). Conditions: none.
-/
import Derived.Test.YtoocppfdcalmfaaSumNamesK
import Derived.Test.YtoocppfdcalmfaaSumOf
namespace Go.Proofs.Ytoocppfdcalmfaa
open Go.RowKit
set_option linter.unusedVariables false

def x_measure (w x : World) (s : Array Nat) (j : Nat) : Prop := x.iterSeen (w.heap.size + 6) = s ∧ (leftOf (kindsA w.heap.size) (s.push j)).size < (leftOf (kindsA w.heap.size) s).size
set_option maxRecDepth 100000 in
set_option maxHeartbeats 8000000 in
theorem names_all : NamesP := fun w => by
  have mk := makeC
  have r1 := run_len9 w
  have r2 := run_mk9 w
  have r3 := run_rg9 w (madeCells (Value.cells (.string ⟨#[]⟩)) (9 * 1))
  have S0 : Hid (NmRun w (NW w) #[] #[]) := nw_st w
  have eN : ((KW w).alloc (.cells (madeCells (Value.cells (.string ⟨#[]⟩)) (9 * 1)) 9)).alloc (.mapIter (some w.heap.size) 9 #[] 9) = NW w := rfl
  generalize madeCells (Value.cells (.string ⟨#[]⟩)) (9 * 1) = MC at *
  generalize ((KW w).alloc (.cells MC 9)).alloc (.mapIter (some w.heap.size) 9 #[] 9) = NN at *
  subst eN
  go_enter Try.func12, Try.ntmps12
  go_wp2_with fail
  refine (mk _).mono ?_
  rintro e w1 ⟨rfl, rfl⟩
  clear mk
  go_wp2
  go_loopw [] (fun wr => ∃ s, Hid (NmRun w wr s s)) (fun wr => (leftOf (kindsA w.heap.size) (wr.iterSeen (w.heap.size + 6))).size)
  case atStart => exact ⟨_, S0⟩
  case round =>
    obtain ⟨s, st⟩ := hrel
    clear S0 r1 r2 r3
    rcases st.out.next with ⟨h0, nx⟩ | ⟨j, hj, sh, y, nx, en, st2⟩
    · have N : Hid (NamesIn wr (w.heap.size + 5) ∧ w.heap.size + 5 < wr.heap.size ∧ Below w.heap.size w wr) := ⟨st.out.done h0, st.out.lt, st.out.b⟩
      unfold NxF at nx
      clear st h0
      go_wp2
      go_ret
      exact ⟨_, _, rfl, N.out.1, N.out.2.1, N.out.2.2⟩
    · have M : Hid (x_measure w wr s j) := ⟨st.out.seen, sh⟩
      have ST2 : Hid (NmRun w y (s.push j) s) := st2
      clear st st2 sh
      have hj9 : j = 0 ∨ j = 1 ∨ j = 2 ∨ j = 3 ∨ j = 4 ∨ j = 5 ∨ j = 6 ∨ j = 7 ∨ j = 8 := by omega
      clear hj
      rcases hj9 with rfl | rfl | rfl | rfl | rfl | rfl | rfl | rfl | rfl
      · replace nx : ∀ ty, (Instr.next (.pointer (some ⟨w.heap.size + 6, 0, none⟩)) false ty).run Try.prog wr = .ok (.tuple #[.bool true, .string ⟨#[110, 111, 110, 101]⟩, .agg #[.int .i64 0, .int .i64 0, .func (.func 18) #[] #[]]]) y := nx
        replace en : (Instr.entry (.pointer (some ⟨w.heap.size + 6, 0, none⟩))).run Try.prog y = .ok (.tuple #[.string ⟨#[110, 111, 110, 101]⟩, .agg #[.int .i64 0, .int .i64 0, .func (.func 18) #[] #[]]]) y := en
        have P : Hid (NmRun w ((y.alloc (.cells #[.int .i64 0, .int .i64 0, .func (.func 18) #[] #[]] 40)).setCell ⟨w.heap.size + 5, 0, none⟩ (.string ⟨#[110, 111, 110, 101]⟩)) (s.push 0) (s.push 0)) := ST2.out.put #[.int .i64 0, .int .i64 0, .func (.func 18) #[] #[]] 40 (j := 0) (by omega)
        obtain ⟨old, cj, fj⟩ := (ST2.out.alloc (.cells #[.int .i64 0, .int .i64 0, .func (.func 18) #[] #[]] 40)).cell (j := 0) (by omega)
        clear ST2
        go_wp2
        exact ⟨⟨_, P⟩, by rw [P.out.seen, M.out.1]; exact M.out.2⟩
      · replace nx : ∀ ty, (Instr.next (.pointer (some ⟨w.heap.size + 6, 0, none⟩)) false ty).run Try.prog wr = .ok (.tuple #[.bool true, .string ⟨#[115, 117, 109]⟩, .agg #[.int .i64 1, .int .i64 1, .func (.func 19) #[] #[]]]) y := nx
        replace en : (Instr.entry (.pointer (some ⟨w.heap.size + 6, 0, none⟩))).run Try.prog y = .ok (.tuple #[.string ⟨#[115, 117, 109]⟩, .agg #[.int .i64 1, .int .i64 1, .func (.func 19) #[] #[]]]) y := en
        have P : Hid (NmRun w ((y.alloc (.cells #[.int .i64 1, .int .i64 1, .func (.func 19) #[] #[]] 40)).setCell ⟨w.heap.size + 5, 1, none⟩ (.string ⟨#[115, 117, 109]⟩)) (s.push 1) (s.push 1)) := ST2.out.put #[.int .i64 1, .int .i64 1, .func (.func 19) #[] #[]] 40 (j := 1) (by omega)
        obtain ⟨old, cj, fj⟩ := (ST2.out.alloc (.cells #[.int .i64 1, .int .i64 1, .func (.func 19) #[] #[]] 40)).cell (j := 1) (by omega)
        clear ST2
        go_wp2
        exact ⟨⟨_, P⟩, by rw [P.out.seen, M.out.1]; exact M.out.2⟩
      · replace nx : ∀ ty, (Instr.next (.pointer (some ⟨w.heap.size + 6, 0, none⟩)) false ty).run Try.prog wr = .ok (.tuple #[.bool true, .string ⟨#[108, 114, 99]⟩, .agg #[.int .i64 2, .int .i64 1, .func (.func 20) #[] #[]]]) y := nx
        replace en : (Instr.entry (.pointer (some ⟨w.heap.size + 6, 0, none⟩))).run Try.prog y = .ok (.tuple #[.string ⟨#[108, 114, 99]⟩, .agg #[.int .i64 2, .int .i64 1, .func (.func 20) #[] #[]]]) y := en
        have P : Hid (NmRun w ((y.alloc (.cells #[.int .i64 2, .int .i64 1, .func (.func 20) #[] #[]] 40)).setCell ⟨w.heap.size + 5, 2, none⟩ (.string ⟨#[108, 114, 99]⟩)) (s.push 2) (s.push 2)) := ST2.out.put #[.int .i64 2, .int .i64 1, .func (.func 20) #[] #[]] 40 (j := 2) (by omega)
        obtain ⟨old, cj, fj⟩ := (ST2.out.alloc (.cells #[.int .i64 2, .int .i64 1, .func (.func 20) #[] #[]] 40)).cell (j := 2) (by omega)
        clear ST2
        go_wp2
        exact ⟨⟨_, P⟩, by rw [P.out.seen, M.out.1]; exact M.out.2⟩
      · replace nx : ∀ ty, (Instr.next (.pointer (some ⟨w.heap.size + 6, 0, none⟩)) false ty).run Try.prog wr = .ok (.tuple #[.bool true, .string ⟨#[120, 111, 114]⟩, .agg #[.int .i64 3, .int .i64 1, .func (.func 21) #[] #[]]]) y := nx
        replace en : (Instr.entry (.pointer (some ⟨w.heap.size + 6, 0, none⟩))).run Try.prog y = .ok (.tuple #[.string ⟨#[120, 111, 114]⟩, .agg #[.int .i64 3, .int .i64 1, .func (.func 21) #[] #[]]]) y := en
        have P : Hid (NmRun w ((y.alloc (.cells #[.int .i64 3, .int .i64 1, .func (.func 21) #[] #[]] 40)).setCell ⟨w.heap.size + 5, 3, none⟩ (.string ⟨#[120, 111, 114]⟩)) (s.push 3) (s.push 3)) := ST2.out.put #[.int .i64 3, .int .i64 1, .func (.func 21) #[] #[]] 40 (j := 3) (by omega)
        obtain ⟨old, cj, fj⟩ := (ST2.out.alloc (.cells #[.int .i64 3, .int .i64 1, .func (.func 21) #[] #[]] 40)).cell (j := 3) (by omega)
        clear ST2
        go_wp2
        exact ⟨⟨_, P⟩, by rw [P.out.seen, M.out.1]; exact M.out.2⟩
      · replace nx : ∀ ty, (Instr.next (.pointer (some ⟨w.heap.size + 6, 0, none⟩)) false ty).run Try.prog wr = .ok (.tuple #[.bool true, .string ⟨#[102, 108, 101, 116, 99, 104, 101, 114]⟩, .agg #[.int .i64 4, .int .i64 2, .func (.func 22) #[] #[]]]) y := nx
        replace en : (Instr.entry (.pointer (some ⟨w.heap.size + 6, 0, none⟩))).run Try.prog y = .ok (.tuple #[.string ⟨#[102, 108, 101, 116, 99, 104, 101, 114]⟩, .agg #[.int .i64 4, .int .i64 2, .func (.func 22) #[] #[]]]) y := en
        have P : Hid (NmRun w ((y.alloc (.cells #[.int .i64 4, .int .i64 2, .func (.func 22) #[] #[]] 40)).setCell ⟨w.heap.size + 5, 4, none⟩ (.string ⟨#[102, 108, 101, 116, 99, 104, 101, 114]⟩)) (s.push 4) (s.push 4)) := ST2.out.put #[.int .i64 4, .int .i64 2, .func (.func 22) #[] #[]] 40 (j := 4) (by omega)
        obtain ⟨old, cj, fj⟩ := (ST2.out.alloc (.cells #[.int .i64 4, .int .i64 2, .func (.func 22) #[] #[]] 40)).cell (j := 4) (by omega)
        clear ST2
        go_wp2
        exact ⟨⟨_, P⟩, by rw [P.out.seen, M.out.1]; exact M.out.2⟩
      · replace nx : ∀ ty, (Instr.next (.pointer (some ⟨w.heap.size + 6, 0, none⟩)) false ty).run Try.prog wr = .ok (.tuple #[.bool true, .string ⟨#[99, 114, 99, 56]⟩, .agg #[.int .i64 5, .int .i64 1, .func (.func 27) #[] #[.pointer (some ⟨w.heap.size + 1, 0, none⟩)]]]) y := nx
        replace en : (Instr.entry (.pointer (some ⟨w.heap.size + 6, 0, none⟩))).run Try.prog y = .ok (.tuple #[.string ⟨#[99, 114, 99, 56]⟩, .agg #[.int .i64 5, .int .i64 1, .func (.func 27) #[] #[.pointer (some ⟨w.heap.size + 1, 0, none⟩)]]]) y := en
        have P : Hid (NmRun w ((y.alloc (.cells #[.int .i64 5, .int .i64 1, .func (.func 27) #[] #[.pointer (some ⟨w.heap.size + 1, 0, none⟩)]] 40)).setCell ⟨w.heap.size + 5, 5, none⟩ (.string ⟨#[99, 114, 99, 56]⟩)) (s.push 5) (s.push 5)) := ST2.out.put #[.int .i64 5, .int .i64 1, .func (.func 27) #[] #[.pointer (some ⟨w.heap.size + 1, 0, none⟩)]] 40 (j := 5) (by omega)
        obtain ⟨old, cj, fj⟩ := (ST2.out.alloc (.cells #[.int .i64 5, .int .i64 1, .func (.func 27) #[] #[.pointer (some ⟨w.heap.size + 1, 0, none⟩)]] 40)).cell (j := 5) (by omega)
        clear ST2
        go_wp2
        exact ⟨⟨_, P⟩, by rw [P.out.seen, M.out.1]; exact M.out.2⟩
      · replace nx : ∀ ty, (Instr.next (.pointer (some ⟨w.heap.size + 6, 0, none⟩)) false ty).run Try.prog wr = .ok (.tuple #[.bool true, .string ⟨#[99, 114, 99, 49, 54]⟩, .agg #[.int .i64 6, .int .i64 2, .func (.func 27) #[] #[.pointer (some ⟨w.heap.size + 2, 0, none⟩)]]]) y := nx
        replace en : (Instr.entry (.pointer (some ⟨w.heap.size + 6, 0, none⟩))).run Try.prog y = .ok (.tuple #[.string ⟨#[99, 114, 99, 49, 54]⟩, .agg #[.int .i64 6, .int .i64 2, .func (.func 27) #[] #[.pointer (some ⟨w.heap.size + 2, 0, none⟩)]]]) y := en
        have P : Hid (NmRun w ((y.alloc (.cells #[.int .i64 6, .int .i64 2, .func (.func 27) #[] #[.pointer (some ⟨w.heap.size + 2, 0, none⟩)]] 40)).setCell ⟨w.heap.size + 5, 6, none⟩ (.string ⟨#[99, 114, 99, 49, 54]⟩)) (s.push 6) (s.push 6)) := ST2.out.put #[.int .i64 6, .int .i64 2, .func (.func 27) #[] #[.pointer (some ⟨w.heap.size + 2, 0, none⟩)]] 40 (j := 6) (by omega)
        obtain ⟨old, cj, fj⟩ := (ST2.out.alloc (.cells #[.int .i64 6, .int .i64 2, .func (.func 27) #[] #[.pointer (some ⟨w.heap.size + 2, 0, none⟩)]] 40)).cell (j := 6) (by omega)
        clear ST2
        go_wp2
        exact ⟨⟨_, P⟩, by rw [P.out.seen, M.out.1]; exact M.out.2⟩
      · replace nx : ∀ ty, (Instr.next (.pointer (some ⟨w.heap.size + 6, 0, none⟩)) false ty).run Try.prog wr = .ok (.tuple #[.bool true, .string ⟨#[99, 99, 105, 116, 116]⟩, .agg #[.int .i64 7, .int .i64 2, .func (.func 27) #[] #[.pointer (some ⟨w.heap.size + 3, 0, none⟩)]]]) y := nx
        replace en : (Instr.entry (.pointer (some ⟨w.heap.size + 6, 0, none⟩))).run Try.prog y = .ok (.tuple #[.string ⟨#[99, 99, 105, 116, 116]⟩, .agg #[.int .i64 7, .int .i64 2, .func (.func 27) #[] #[.pointer (some ⟨w.heap.size + 3, 0, none⟩)]]]) y := en
        have P : Hid (NmRun w ((y.alloc (.cells #[.int .i64 7, .int .i64 2, .func (.func 27) #[] #[.pointer (some ⟨w.heap.size + 3, 0, none⟩)]] 40)).setCell ⟨w.heap.size + 5, 7, none⟩ (.string ⟨#[99, 99, 105, 116, 116]⟩)) (s.push 7) (s.push 7)) := ST2.out.put #[.int .i64 7, .int .i64 2, .func (.func 27) #[] #[.pointer (some ⟨w.heap.size + 3, 0, none⟩)]] 40 (j := 7) (by omega)
        obtain ⟨old, cj, fj⟩ := (ST2.out.alloc (.cells #[.int .i64 7, .int .i64 2, .func (.func 27) #[] #[.pointer (some ⟨w.heap.size + 3, 0, none⟩)]] 40)).cell (j := 7) (by omega)
        clear ST2
        go_wp2
        exact ⟨⟨_, P⟩, by rw [P.out.seen, M.out.1]; exact M.out.2⟩
      · replace nx : ∀ ty, (Instr.next (.pointer (some ⟨w.heap.size + 6, 0, none⟩)) false ty).run Try.prog wr = .ok (.tuple #[.bool true, .string ⟨#[99, 114, 99, 51, 50]⟩, .agg #[.int .i64 8, .int .i64 4, .func (.func 27) #[] #[.pointer (some ⟨w.heap.size + 4, 0, none⟩)]]]) y := nx
        replace en : (Instr.entry (.pointer (some ⟨w.heap.size + 6, 0, none⟩))).run Try.prog y = .ok (.tuple #[.string ⟨#[99, 114, 99, 51, 50]⟩, .agg #[.int .i64 8, .int .i64 4, .func (.func 27) #[] #[.pointer (some ⟨w.heap.size + 4, 0, none⟩)]]]) y := en
        have P : Hid (NmRun w ((y.alloc (.cells #[.int .i64 8, .int .i64 4, .func (.func 27) #[] #[.pointer (some ⟨w.heap.size + 4, 0, none⟩)]] 40)).setCell ⟨w.heap.size + 5, 8, none⟩ (.string ⟨#[99, 114, 99, 51, 50]⟩)) (s.push 8) (s.push 8)) := ST2.out.put #[.int .i64 8, .int .i64 4, .func (.func 27) #[] #[.pointer (some ⟨w.heap.size + 4, 0, none⟩)]] 40 (j := 8) (by omega)
        obtain ⟨old, cj, fj⟩ := (ST2.out.alloc (.cells #[.int .i64 8, .int .i64 4, .func (.func 27) #[] #[.pointer (some ⟨w.heap.size + 4, 0, none⟩)]] 40)).cell (j := 8) (by omega)
        clear ST2
        go_wp2
        exact ⟨⟨_, P⟩, by rw [P.out.seen, M.out.1]; exact M.out.2⟩
end Go.Proofs.Ytoocppfdcalmfaa
