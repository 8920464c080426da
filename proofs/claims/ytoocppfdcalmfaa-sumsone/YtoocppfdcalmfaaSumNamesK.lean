/-
  What Names keeps while it goes through the table: the iterator, the table, the row of names (layer 5). No conditions but those that each says.
-/
import Derived.Maps.RangeRun
import Derived.Laws.MakeOwn
import Derived.Test.YtoocppfdcalmfaaSumTab
namespace Go.Proofs.Ytoocppfdcalmfaa
open Go.RowKit Go.ChangeMaps
set_option linter.unusedVariables false

def entN (n j : Nat) : MapEntry := { key := .string (nameN j), val := kindV n j, born := j }
theorem ent_cases {n : Nat} {e : MapEntry} (h : e ∈ (kindsA n).toList) : ∃ j, j < 9 ∧ e = entN n j := by
  have h1 : (kindsA n).toList = [entN n 0, entN n 1, entN n 2, entN n 3, entN n 4, entN n 5, entN n 6, entN n 7, entN n 8] := rfl
  rw [h1] at h
  simp only [List.mem_cons, List.not_mem_nil, or_false] at h
  rcases h with rfl | rfl | rfl | rfl | rfl | rfl | rfl | rfl | rfl
  · exact ⟨0, by omega, rfl⟩
  · exact ⟨1, by omega, rfl⟩
  · exact ⟨2, by omega, rfl⟩
  · exact ⟨3, by omega, rfl⟩
  · exact ⟨4, by omega, rfl⟩
  · exact ⟨5, by omega, rfl⟩
  · exact ⟨6, by omega, rfl⟩
  · exact ⟨7, by omega, rfl⟩
  · exact ⟨8, by omega, rfl⟩
theorem ent_mem (n : Nat) {j : Nat} (hj : j < 9) : entN n j ∈ (kindsA n).toList := by
  match j, hj with
  | 0, _ => exact List.mem_of_getElem? (i := 0) rfl
  | 1, _ => exact List.mem_of_getElem? (i := 1) rfl
  | 2, _ => exact List.mem_of_getElem? (i := 2) rfl
  | 3, _ => exact List.mem_of_getElem? (i := 3) rfl
  | 4, _ => exact List.mem_of_getElem? (i := 4) rfl
  | 5, _ => exact List.mem_of_getElem? (i := 5) rfl
  | 6, _ => exact List.mem_of_getElem? (i := 6) rfl
  | 7, _ => exact List.mem_of_getElem? (i := 7) rfl
  | 8, _ => exact List.mem_of_getElem? (i := 8) rfl
theorem born_nodup (n : Nat) : ((kindsA n).toList.map (·.born)).Nodup := by
  have h : (kindsA n).toList.map (·.born) = [0, 1, 2, 3, 4, 5, 6, 7, 8] := rfl
  rw [h]; decide
theorem born_lt (n : Nat) : ∀ x ∈ (kindsA n).toList, x.born < 9 := fun x hx => by
  obtain ⟨j, hj, rfl⟩ := ent_cases hx
  exact hj
theorem heap_set_ne (w : World) (r i : Nat) (o : Obj) (h : i ≠ r) : (setBlock w r o).heap[i]? = w.heap[i]? := by
  simp [setBlock, Ne.symm h]
theorem heap_set_eq (w : World) (r : Nat) (o : Obj) (h : r < w.heap.size) : (setBlock w r o).heap[r]? = some o := by
  simp [setBlock, h]
/-- what is kept; si: what the iterator has handed out, sr: what stands in the row -/
structure NmRun (w x : World) (si sr : Array Nat) : Prop where
  it : x.heap[w.heap.size + 6]? = some (.mapIter (some w.heap.size) 9 si 9)
  mp : x.heap[w.heap.size]? = some (.map (kindsA w.heap.size) 9)
  row : ∃ cur : Array Value, x.heap[w.heap.size + 5]? = some (.cells cur 9 (0, 0)) ∧ cur.size = 9 ∧ ∀ j, j < 9 → sr.contains j = true → cur[j]? = some (.string (nameN j))
  b : Below w.heap.size w x
theorem NmRun.cell {w x : World} {si sr : Array Nat} (h : NmRun w x si sr) {j : Nat} (hj : j < 9) : ∃ old, x.cell? ⟨w.heap.size + 5, j, none⟩ = some old ∧ x.frozen? ⟨w.heap.size + 5, j, none⟩ = false := by
  obtain ⟨cur, h1, h2, _⟩ := h.row
  exact ⟨cur[j]'(by omega), by simp [World.cell?, h1, Array.getElem?_eq_getElem (show j < cur.size by omega)], by simp [World.frozen?, h1]⟩
theorem NmRun.alloc {w x : World} {si sr : Array Nat} (h : NmRun w x si sr) (o : Obj) : NmRun w (x.alloc o) si sr := by
  obtain ⟨cur, h1, h2⟩ := h.row
  exact ⟨map_under x _ _ _ h.it, map_under x _ _ _ h.mp, ⟨cur, map_under x _ _ _ h1, h2⟩, h.b.alloc h.b.size _⟩
theorem NmRun.put {w x : World} {si sr : Array Nat} (h : NmRun w x si sr) (C : Array Value) (t : TypeId) {j : Nat} (hj : j < 9) : NmRun w ((x.alloc (.cells C t)).setCell ⟨w.heap.size + 5, j, none⟩ (.string (nameN j))) si (sr.push j) := by
  obtain ⟨cur, h1, h2, h3⟩ := h.row
  have a1 := map_under x _ (.cells C t) _ h1
  refine ⟨?_, ?_, ⟨cur.setIfInBounds j (.string (nameN j)), ?_, by simp [h2], ?_⟩, ?_⟩
  · rw [Below.heap_setCell _ _ _ _ (by simp)]; exact map_under x _ _ _ h.it
  · rw [Below.heap_setCell _ _ _ _ (by simp)]; exact map_under x _ _ _ h.mp
  · rw [setCell_eq_setRow _ _ j cur _ (0, 0) _ a1]; exact setRow_heap _ _ cur _ _ (0, 0) a1
  · intro i hi hc
    rw [contains_push] at hc
    by_cases e : j = i
    · subst e; rw [Array.getElem?_setIfInBounds, if_pos rfl, if_pos (by omega)]
    · rw [Array.getElem?_setIfInBounds, if_neg e]
      refine h3 i hi ?_
      have : (i == j) = false := by simp; omega
      rwa [this, Bool.or_false] at hc
  · exact (h.b.alloc h.b.size _).setCell (p := ⟨w.heap.size + 5, j, none⟩) (by simp) _
theorem NmRun.done {w x : World} {s : Array Nat} (h : NmRun w x s s) (h0 : (leftOf (kindsA w.heap.size) s).size = 0) : NamesIn x (w.heap.size + 5) := by
  obtain ⟨cur, h1, h2, h3⟩ := h.row
  intro j hj
  have := h3 j hj (all_seen _ _ h0 _ (ent_mem _ hj))
  simp [World.cell?, h1, this]
theorem NmRun.seen {w x : World} {si sr : Array Nat} (h : NmRun w x si sr) : x.iterSeen (w.heap.size + 6) = si := by
  unfold World.iterSeen; rw [h.it]
theorem NmRun.lt {w x : World} {si sr : Array Nat} (h : NmRun w x si sr) : w.heap.size + 5 < x.heap.size := by
  obtain ⟨cur, h1, _⟩ := h.row
  exact (Array.getElem?_eq_some_iff.1 h1).1
def NxF (w x : World) : Prop := ∀ ty, (Instr.next (.pointer (some ⟨w.heap.size + 6, 0, none⟩)) false ty).run Try.prog x = .ok (.tuple #[.bool false]) x
def NxT (w x y : World) (j : Nat) : Prop := ∀ ty, (Instr.next (.pointer (some ⟨w.heap.size + 6, 0, none⟩)) false ty).run Try.prog x = .ok (.tuple #[.bool true, .string (nameN j), kindV w.heap.size j]) y
def EnT (w y : World) (j : Nat) : Prop := (Instr.entry (.pointer (some ⟨w.heap.size + 6, 0, none⟩))).run Try.prog y = .ok (.tuple #[.string (nameN j), kindV w.heap.size j]) y
theorem NmRun.next {w x : World} {s : Array Nat} (h : NmRun w x s s) : ((leftOf (kindsA w.heap.size) s).size = 0 ∧ NxF w x) ∨
    ∃ j, j < 9 ∧ (leftOf (kindsA w.heap.size) (s.push j)).size < (leftOf (kindsA w.heap.size) s).size ∧ ∃ y, NxT w x y j ∧ EnT w y j ∧ NmRun w y (s.push j) s := by
  rcases run_next_at (P := Try.prog) x 0 (w.heap.size + 6) w.heap.size 9 9 s (kindsA w.heap.size) 9 h.it h.mp (born_lt _) (Nat.le_refl _) with ⟨h0, hr⟩ | ⟨e, he, w1, hw1, hr⟩
  · exact .inl ⟨h0, fun _ => hr⟩
  · obtain ⟨j, hj, rfl⟩ := ent_cases (mem_left he).1
    have sh := left_shrinks _ _ _ he
    have hd : w1.heap = x.heap := by rcases hw1 with rfl | rfl <;> rfl
    have hB : Below w.heap.size w w1 := by
      rcases hw1 with rfl | rfl
      · exact h.b
      · exact h.b.drew
    have hl : w.heap.size + 6 < w1.heap.size := by rw [hd]; exact (Array.getElem?_eq_some_iff.1 h.it).1
    refine .inr ⟨j, hj, sh, _, fun _ => hr, ?_, ?_⟩
    · refine run_entry_at (P := Try.prog) _ (w.heap.size + 6) w.heap.size 9 s (kindsA w.heap.size) 9 (entN _ j) (heap_set_eq _ _ _ hl) ?_ (ent_mem _ hj) (born_nodup _)
      rw [heap_set_ne _ _ _ _ (by omega), hd]; exact h.mp
    · refine ⟨heap_set_eq _ _ _ hl, ?_, ?_, ?_⟩
      · rw [heap_set_ne _ _ _ _ (by omega), hd]; exact h.mp
      · obtain ⟨cur, h1, h2⟩ := h.row
        exact ⟨cur, by rw [heap_set_ne _ _ _ _ (by omega), hd]; exact h1, h2⟩
      · exact ⟨hB.os, hB.tape, hB.output, by simp only [setBlock, Array.size_setIfInBounds]; exact hB.size, fun k hk => by rw [heap_set_ne _ _ _ _ (by omega)]; exact hB.block k hk⟩
theorem info_str : (Try.prog.info? 9).map (fun i => (i.zero, i.size, i.bytes)) = some (some (.string ⟨#[]⟩), 1, 16) := by kernel_rfl
/-- memory at the loop's start -/
def NW (w : World) : World := ((KW w).alloc (.cells (madeCells (Value.cells (.string ⟨#[]⟩)) (9 * 1)) 9)).alloc (.mapIter (some w.heap.size) 9 #[] 9)
theorem nw_st (w : World) : NmRun w (NW w) #[] #[] := by
  have e1 := World.alloc_heap_new (KW w) (.cells (madeCells (Value.cells (.string ⟨#[]⟩)) (9 * 1)) 9)
  have e2 := World.alloc_heap_new ((KW w).alloc (.cells (madeCells (Value.cells (.string ⟨#[]⟩)) (9 * 1)) 9)) (.mapIter (some w.heap.size) 9 #[] 9)
  rw [kw_size] at e1
  rw [World.size_alloc, kw_size] at e2
  refine ⟨e2, map_under _ _ _ _ (map_under _ _ _ _ (kw_map w)), ⟨_, map_under _ _ _ _ e1, size_madeCells _ _, fun j _ h => by simp at h⟩, ?_⟩
  exact ((kw_below w).alloc (by rw [kw_size]; omega) _).alloc (by rw [World.size_alloc, kw_size]; omega) _
theorem run_mk9 (w : World) : (Instr.makeSlice 33 (.int .i64 9) (.int .i64 9)).run Try.prog (KW w) = .ok (.slice (some ⟨w.heap.size + 5, 0, none⟩) 9 9) ((KW w).alloc (.cells (madeCells (Value.cells (.string ⟨#[]⟩)) (9 * 1)) 9)) := by
  obtain ⟨i0, hi, hz0, hz1, hz2⟩ := info_parts info_str
  have k := run_make (P := Try.prog) (KW w) 33 9 i0 (.string ⟨#[]⟩) Try.underlying33 hi hz0 .i64 .i64 9 9 (by omega) (Int.le_refl _) (by rw [hz2]; omega) (by omega)
  rw [hz1, kw_size] at k
  exact k
theorem run_len9 (w : World) (ty : TypeId) : (Builtin.len_ #[42] ty #[.map (some w.heap.size)]).run Try.prog (KW w) = .ok (.int .i64 9) (KW w) :=
  run_len_map (KW w) 42 ty w.heap.size (kindsA w.heap.size) 9 (show Try.prog.underlying 42 = _ by kernel_rfl) (kw_map w)
theorem run_rg9 (w : World) (C : Array Value) : (Instr.range 42 (.map (some w.heap.size))).run Try.prog ((KW w).alloc (.cells C 9)) = .ok (.pointer (some ⟨w.heap.size + 6, 0, none⟩)) (((KW w).alloc (.cells C 9)).alloc (.mapIter (some w.heap.size) 9 #[] 9)) := by
  have k := run_range_map (P := Try.prog) ((KW w).alloc (.cells C 9)) 42 9 40 w.heap.size (kindsA w.heap.size) 9 Try.underlying42 (map_under _ _ _ _ (kw_map w))
  rw [World.size_alloc, kw_size] at k
  exact k
end Go.Proofs.Ytoocppfdcalmfaa
