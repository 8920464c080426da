/-
  Texts that belong together, one behind the other: SumTab. Conditions: as each says.
-/
import Derived.Laws.EntriesVeiled
import Derived.Laws.StructEq
import Derived.Test.YtllkkgcfhphgmaaJs11
import Derived.Test.YtllkkgcfhphgmaaJs9
/-
  The program's own table of endings (layer 5): a map by names that kinds lays. Conditions: none.
-/
namespace Go.Proofs.Ytllkkgcfhphgmaa
open Go.RowKit
set_option linter.unusedVariables false

section
variable {P : Program}
/-- an entry more, in whatever block -/
theorem insert_at (T K E : TypeId) (ht : P.underlying T = some (.map K E)) (hk : P.underlying K = some .string) (es : Array MapEntry) (c : Nat) (s : ByteArray) (v : Value) (hf : Instr.findNow .string (.string s) es.toList 0 = some none) (w : World) (g : Nat) (hb : w.heap[g]? = some (.map es c)) :
    (Instr.mapUpdate T (.map (some g)) (.string s) v).run P w = .ok () { w with heap := w.heap.setIfInBounds g (.map (es.push { key := .string s, val := v, born := c }) (c + 1)) } := by
  have hs := set_map (P := P) w g es c hb (o := .map (es.push { key := .string s, val := v, born := c }) (c + 1))
  unfold Instr.mapUpdate
  simp [run_underlying ht, obj_map _ _ _ _ hb, key_str _ _ _ hk, find_str _ _ hk _ _ _ hf, hs, Result.andThen]
end
theorem push_under (h : Array Obj) (i : Nat) (o x : Obj) (hi : i < h.size) : (h.push x).setIfInBounds i o = (h.setIfInBounds i o).push x := by
  apply Array.ext_getElem?
  intro j
  by_cases e : i = j
  · subst e
    rw [Array.getElem?_setIfInBounds, if_pos rfl, Array.size_push, if_pos (by omega), Array.getElem?_push, Array.size_setIfInBounds, if_neg (by omega), Array.getElem?_setIfInBounds, if_pos rfl, if_pos hi]
  · rw [Array.getElem?_setIfInBounds, if_neg e, Array.getElem?_push, Array.getElem?_push, Array.size_setIfInBounds, Array.getElem?_setIfInBounds, if_neg e]
theorem set_under (w : World) (g : Nat) (o b : Obj) (hg : g < w.heap.size) : ({ w.alloc b with heap := (w.alloc b).heap.setIfInBounds g o } : World) = ({ w with heap := w.heap.setIfInBounds g o } : World).alloc b := by
  show ({ w with heap := (w.heap.push b).setIfInBounds g o } : World) = { w with heap := (w.heap.setIfInBounds g o).push b }
  rw [push_under _ _ _ _ hg]
theorem set_2 (w : World) (o o' a : Obj) : ({ (w.alloc o).alloc a with heap := ((w.alloc o).alloc a).heap.setIfInBounds w.heap.size o' } : World) = (w.alloc o').alloc a := by
  rw [set_under _ _ _ _ (by rw [World.size_alloc]; omega), mset_last]
theorem set_3 (w : World) (o o' a b : Obj) : ({ ((w.alloc o).alloc a).alloc b with heap := (((w.alloc o).alloc a).alloc b).heap.setIfInBounds w.heap.size o' } : World) = ((w.alloc o').alloc a).alloc b := by
  rw [set_under _ _ _ _ (by rw [World.size_alloc, World.size_alloc]; omega), set_2]
theorem set_4 (w : World) (o o' a b c : Obj) : ({ (((w.alloc o).alloc a).alloc b).alloc c with heap := ((((w.alloc o).alloc a).alloc b).alloc c).heap.setIfInBounds w.heap.size o' } : World) = (((w.alloc o').alloc a).alloc b).alloc c := by
  rw [set_under _ _ _ _ (by rw [World.size_alloc, World.size_alloc, World.size_alloc]; omega), set_3]
theorem set_5 (w : World) (o o' a b c d : Obj) : ({ ((((w.alloc o).alloc a).alloc b).alloc c).alloc d with heap := (((((w.alloc o).alloc a).alloc b).alloc c).alloc d).heap.setIfInBounds w.heap.size o' } : World) = ((((w.alloc o').alloc a).alloc b).alloc c).alloc d := by
  rw [set_under _ _ _ _ (by rw [World.size_alloc, World.size_alloc, World.size_alloc, World.size_alloc]; omega), set_4]
theorem map_under (w : World) (o : Obj) (b : Obj) (g : Nat) (h : w.heap[g]? = some o) : (w.alloc b).heap[g]? = some o := by
  have hg : g < w.heap.size := (Array.getElem?_eq_some_iff.1 h).1
  rw [show (w.alloc b).heap = w.heap.push b from rfl, Array.getElem?_push_lt hg, ← Array.getElem?_eq_getElem hg]; exact h

def kindsA (n : Nat) : Array MapEntry := #[{ key := .string ⟨#[110, 111, 110, 101]⟩, val := .agg #[.int .i64 0, .int .i64 0, .func (.func 60) #[] #[]], born := 0 }, { key := .string ⟨#[115, 117, 109]⟩, val := .agg #[.int .i64 1, .int .i64 1, .func (.func 61) #[] #[]], born := 1 }, { key := .string ⟨#[108, 114, 99]⟩, val := .agg #[.int .i64 2, .int .i64 1, .func (.func 62) #[] #[]], born := 2 }, { key := .string ⟨#[120, 111, 114]⟩, val := .agg #[.int .i64 3, .int .i64 1, .func (.func 63) #[] #[]], born := 3 }, { key := .string ⟨#[102, 108, 101, 116, 99, 104, 101, 114]⟩, val := .agg #[.int .i64 4, .int .i64 2, .func (.func 64) #[] #[]], born := 4 }, { key := .string ⟨#[99, 114, 99, 56]⟩, val := .agg #[.int .i64 5, .int .i64 1, .func (.func 69) #[] #[.pointer (some ⟨n + 1, 0, none⟩)]], born := 5 }, { key := .string ⟨#[99, 114, 99, 49, 54]⟩, val := .agg #[.int .i64 6, .int .i64 2, .func (.func 69) #[] #[.pointer (some ⟨n + 2, 0, none⟩)]], born := 6 }, { key := .string ⟨#[99, 99, 105, 116, 116]⟩, val := .agg #[.int .i64 7, .int .i64 2, .func (.func 69) #[] #[.pointer (some ⟨n + 3, 0, none⟩)]], born := 7 }, { key := .string ⟨#[99, 114, 99, 51, 50]⟩, val := .agg #[.int .i64 8, .int .i64 4, .func (.func 69) #[] #[.pointer (some ⟨n + 4, 0, none⟩)]], born := 8 }]
/-- memory behind kinds -/
def KW (w : World) : World := ((((w.alloc (.map (kindsA w.heap.size) 9)).alloc (.cells #[.string e5] 9)).alloc (.cells #[.string e6] 9)).alloc (.cells #[.string e7] 9)).alloc (.cells #[.string e8] 9)
theorem ins_5 (w : World) : (Instr.mapUpdate 85 (.map (some w.heap.size)) (.string ⟨#[99, 114, 99, 56]⟩) (.agg #[.int .i64 5, .int .i64 1, .func (.func 69) #[] #[.pointer (some ⟨w.heap.size + 1, 0, none⟩)]])).run Try.prog ((w.alloc (.map #[{ key := .string ⟨#[110, 111, 110, 101]⟩, val := .agg #[.int .i64 0, .int .i64 0, .func (.func 60) #[] #[]], born := 0 }, { key := .string ⟨#[115, 117, 109]⟩, val := .agg #[.int .i64 1, .int .i64 1, .func (.func 61) #[] #[]], born := 1 }, { key := .string ⟨#[108, 114, 99]⟩, val := .agg #[.int .i64 2, .int .i64 1, .func (.func 62) #[] #[]], born := 2 }, { key := .string ⟨#[120, 111, 114]⟩, val := .agg #[.int .i64 3, .int .i64 1, .func (.func 63) #[] #[]], born := 3 }, { key := .string ⟨#[102, 108, 101, 116, 99, 104, 101, 114]⟩, val := .agg #[.int .i64 4, .int .i64 2, .func (.func 64) #[] #[]], born := 4 }] 5)).alloc (.cells #[.string e5] 9)) = .ok () ((w.alloc (.map #[{ key := .string ⟨#[110, 111, 110, 101]⟩, val := .agg #[.int .i64 0, .int .i64 0, .func (.func 60) #[] #[]], born := 0 }, { key := .string ⟨#[115, 117, 109]⟩, val := .agg #[.int .i64 1, .int .i64 1, .func (.func 61) #[] #[]], born := 1 }, { key := .string ⟨#[108, 114, 99]⟩, val := .agg #[.int .i64 2, .int .i64 1, .func (.func 62) #[] #[]], born := 2 }, { key := .string ⟨#[120, 111, 114]⟩, val := .agg #[.int .i64 3, .int .i64 1, .func (.func 63) #[] #[]], born := 3 }, { key := .string ⟨#[102, 108, 101, 116, 99, 104, 101, 114]⟩, val := .agg #[.int .i64 4, .int .i64 2, .func (.func 64) #[] #[]], born := 4 }, { key := .string ⟨#[99, 114, 99, 56]⟩, val := .agg #[.int .i64 5, .int .i64 1, .func (.func 69) #[] #[.pointer (some ⟨w.heap.size + 1, 0, none⟩)]], born := 5 }] 6)).alloc (.cells #[.string e5] 9)) := by
  have h0 : (w.alloc (.map #[{ key := .string ⟨#[110, 111, 110, 101]⟩, val := .agg #[.int .i64 0, .int .i64 0, .func (.func 60) #[] #[]], born := 0 }, { key := .string ⟨#[115, 117, 109]⟩, val := .agg #[.int .i64 1, .int .i64 1, .func (.func 61) #[] #[]], born := 1 }, { key := .string ⟨#[108, 114, 99]⟩, val := .agg #[.int .i64 2, .int .i64 1, .func (.func 62) #[] #[]], born := 2 }, { key := .string ⟨#[120, 111, 114]⟩, val := .agg #[.int .i64 3, .int .i64 1, .func (.func 63) #[] #[]], born := 3 }, { key := .string ⟨#[102, 108, 101, 116, 99, 104, 101, 114]⟩, val := .agg #[.int .i64 4, .int .i64 2, .func (.func 64) #[] #[]], born := 4 }] 5)).heap[w.heap.size]? = some (.map #[{ key := .string ⟨#[110, 111, 110, 101]⟩, val := .agg #[.int .i64 0, .int .i64 0, .func (.func 60) #[] #[]], born := 0 }, { key := .string ⟨#[115, 117, 109]⟩, val := .agg #[.int .i64 1, .int .i64 1, .func (.func 61) #[] #[]], born := 1 }, { key := .string ⟨#[108, 114, 99]⟩, val := .agg #[.int .i64 2, .int .i64 1, .func (.func 62) #[] #[]], born := 2 }, { key := .string ⟨#[120, 111, 114]⟩, val := .agg #[.int .i64 3, .int .i64 1, .func (.func 63) #[] #[]], born := 3 }, { key := .string ⟨#[102, 108, 101, 116, 99, 104, 101, 114]⟩, val := .agg #[.int .i64 4, .int .i64 2, .func (.func 64) #[] #[]], born := 4 }] 5) := World.alloc_heap_new w _
  have h1 := map_under _ _ (.cells #[.string e5] 9) _ h0
  rw [insert_at 85 9 83 Try.underlying85 Try.underlying9 _ 5 _ _ (by kernel_rfl) _ _ h1]
  exact congrArg (Result.ok ()) (set_2 w _ _ _)
theorem div_5 (w : World) (o : Obj) : Calls Try.prog 65 #[.string ⟨#[99, 114, 99, 56]⟩] (w.alloc o) fun e w' => e = .returned (.func (.func 69) #[] #[.pointer (some ⟨w.heap.size + 1, 0, none⟩)]) ∧ w' = (w.alloc o).alloc (.cells #[.string e5] 9) := by
  refine (divided_any _ _).mono ?_
  rintro e w1 ⟨rfl, rfl⟩
  exact ⟨by simp [World.size_alloc], rfl⟩
theorem ins_6 (w : World) : (Instr.mapUpdate 85 (.map (some w.heap.size)) (.string ⟨#[99, 114, 99, 49, 54]⟩) (.agg #[.int .i64 6, .int .i64 2, .func (.func 69) #[] #[.pointer (some ⟨w.heap.size + 2, 0, none⟩)]])).run Try.prog (((w.alloc (.map #[{ key := .string ⟨#[110, 111, 110, 101]⟩, val := .agg #[.int .i64 0, .int .i64 0, .func (.func 60) #[] #[]], born := 0 }, { key := .string ⟨#[115, 117, 109]⟩, val := .agg #[.int .i64 1, .int .i64 1, .func (.func 61) #[] #[]], born := 1 }, { key := .string ⟨#[108, 114, 99]⟩, val := .agg #[.int .i64 2, .int .i64 1, .func (.func 62) #[] #[]], born := 2 }, { key := .string ⟨#[120, 111, 114]⟩, val := .agg #[.int .i64 3, .int .i64 1, .func (.func 63) #[] #[]], born := 3 }, { key := .string ⟨#[102, 108, 101, 116, 99, 104, 101, 114]⟩, val := .agg #[.int .i64 4, .int .i64 2, .func (.func 64) #[] #[]], born := 4 }, { key := .string ⟨#[99, 114, 99, 56]⟩, val := .agg #[.int .i64 5, .int .i64 1, .func (.func 69) #[] #[.pointer (some ⟨w.heap.size + 1, 0, none⟩)]], born := 5 }] 6)).alloc (.cells #[.string e5] 9)).alloc (.cells #[.string e6] 9)) = .ok () (((w.alloc (.map #[{ key := .string ⟨#[110, 111, 110, 101]⟩, val := .agg #[.int .i64 0, .int .i64 0, .func (.func 60) #[] #[]], born := 0 }, { key := .string ⟨#[115, 117, 109]⟩, val := .agg #[.int .i64 1, .int .i64 1, .func (.func 61) #[] #[]], born := 1 }, { key := .string ⟨#[108, 114, 99]⟩, val := .agg #[.int .i64 2, .int .i64 1, .func (.func 62) #[] #[]], born := 2 }, { key := .string ⟨#[120, 111, 114]⟩, val := .agg #[.int .i64 3, .int .i64 1, .func (.func 63) #[] #[]], born := 3 }, { key := .string ⟨#[102, 108, 101, 116, 99, 104, 101, 114]⟩, val := .agg #[.int .i64 4, .int .i64 2, .func (.func 64) #[] #[]], born := 4 }, { key := .string ⟨#[99, 114, 99, 56]⟩, val := .agg #[.int .i64 5, .int .i64 1, .func (.func 69) #[] #[.pointer (some ⟨w.heap.size + 1, 0, none⟩)]], born := 5 }, { key := .string ⟨#[99, 114, 99, 49, 54]⟩, val := .agg #[.int .i64 6, .int .i64 2, .func (.func 69) #[] #[.pointer (some ⟨w.heap.size + 2, 0, none⟩)]], born := 6 }] 7)).alloc (.cells #[.string e5] 9)).alloc (.cells #[.string e6] 9)) := by
  have h0 : (w.alloc (.map #[{ key := .string ⟨#[110, 111, 110, 101]⟩, val := .agg #[.int .i64 0, .int .i64 0, .func (.func 60) #[] #[]], born := 0 }, { key := .string ⟨#[115, 117, 109]⟩, val := .agg #[.int .i64 1, .int .i64 1, .func (.func 61) #[] #[]], born := 1 }, { key := .string ⟨#[108, 114, 99]⟩, val := .agg #[.int .i64 2, .int .i64 1, .func (.func 62) #[] #[]], born := 2 }, { key := .string ⟨#[120, 111, 114]⟩, val := .agg #[.int .i64 3, .int .i64 1, .func (.func 63) #[] #[]], born := 3 }, { key := .string ⟨#[102, 108, 101, 116, 99, 104, 101, 114]⟩, val := .agg #[.int .i64 4, .int .i64 2, .func (.func 64) #[] #[]], born := 4 }, { key := .string ⟨#[99, 114, 99, 56]⟩, val := .agg #[.int .i64 5, .int .i64 1, .func (.func 69) #[] #[.pointer (some ⟨w.heap.size + 1, 0, none⟩)]], born := 5 }] 6)).heap[w.heap.size]? = some (.map #[{ key := .string ⟨#[110, 111, 110, 101]⟩, val := .agg #[.int .i64 0, .int .i64 0, .func (.func 60) #[] #[]], born := 0 }, { key := .string ⟨#[115, 117, 109]⟩, val := .agg #[.int .i64 1, .int .i64 1, .func (.func 61) #[] #[]], born := 1 }, { key := .string ⟨#[108, 114, 99]⟩, val := .agg #[.int .i64 2, .int .i64 1, .func (.func 62) #[] #[]], born := 2 }, { key := .string ⟨#[120, 111, 114]⟩, val := .agg #[.int .i64 3, .int .i64 1, .func (.func 63) #[] #[]], born := 3 }, { key := .string ⟨#[102, 108, 101, 116, 99, 104, 101, 114]⟩, val := .agg #[.int .i64 4, .int .i64 2, .func (.func 64) #[] #[]], born := 4 }, { key := .string ⟨#[99, 114, 99, 56]⟩, val := .agg #[.int .i64 5, .int .i64 1, .func (.func 69) #[] #[.pointer (some ⟨w.heap.size + 1, 0, none⟩)]], born := 5 }] 6) := World.alloc_heap_new w _
  have h1 := map_under _ _ (.cells #[.string e5] 9) _ h0
  have h2 := map_under _ _ (.cells #[.string e6] 9) _ h1
  rw [insert_at 85 9 83 Try.underlying85 Try.underlying9 _ 6 _ _ (by kernel_rfl) _ _ h2]
  exact congrArg (Result.ok ()) (set_3 w _ _ _ _)
theorem div_6 (w : World) (o : Obj) (a : Obj) : Calls Try.prog 65 #[.string ⟨#[99, 114, 99, 49, 54]⟩] ((w.alloc o).alloc a) fun e w' => e = .returned (.func (.func 69) #[] #[.pointer (some ⟨w.heap.size + 2, 0, none⟩)]) ∧ w' = ((w.alloc o).alloc a).alloc (.cells #[.string e6] 9) := by
  refine (divided_any _ _).mono ?_
  rintro e w1 ⟨rfl, rfl⟩
  exact ⟨by simp [World.size_alloc], rfl⟩
theorem ins_7 (w : World) : (Instr.mapUpdate 85 (.map (some w.heap.size)) (.string ⟨#[99, 99, 105, 116, 116]⟩) (.agg #[.int .i64 7, .int .i64 2, .func (.func 69) #[] #[.pointer (some ⟨w.heap.size + 3, 0, none⟩)]])).run Try.prog ((((w.alloc (.map #[{ key := .string ⟨#[110, 111, 110, 101]⟩, val := .agg #[.int .i64 0, .int .i64 0, .func (.func 60) #[] #[]], born := 0 }, { key := .string ⟨#[115, 117, 109]⟩, val := .agg #[.int .i64 1, .int .i64 1, .func (.func 61) #[] #[]], born := 1 }, { key := .string ⟨#[108, 114, 99]⟩, val := .agg #[.int .i64 2, .int .i64 1, .func (.func 62) #[] #[]], born := 2 }, { key := .string ⟨#[120, 111, 114]⟩, val := .agg #[.int .i64 3, .int .i64 1, .func (.func 63) #[] #[]], born := 3 }, { key := .string ⟨#[102, 108, 101, 116, 99, 104, 101, 114]⟩, val := .agg #[.int .i64 4, .int .i64 2, .func (.func 64) #[] #[]], born := 4 }, { key := .string ⟨#[99, 114, 99, 56]⟩, val := .agg #[.int .i64 5, .int .i64 1, .func (.func 69) #[] #[.pointer (some ⟨w.heap.size + 1, 0, none⟩)]], born := 5 }, { key := .string ⟨#[99, 114, 99, 49, 54]⟩, val := .agg #[.int .i64 6, .int .i64 2, .func (.func 69) #[] #[.pointer (some ⟨w.heap.size + 2, 0, none⟩)]], born := 6 }] 7)).alloc (.cells #[.string e5] 9)).alloc (.cells #[.string e6] 9)).alloc (.cells #[.string e7] 9)) = .ok () ((((w.alloc (.map #[{ key := .string ⟨#[110, 111, 110, 101]⟩, val := .agg #[.int .i64 0, .int .i64 0, .func (.func 60) #[] #[]], born := 0 }, { key := .string ⟨#[115, 117, 109]⟩, val := .agg #[.int .i64 1, .int .i64 1, .func (.func 61) #[] #[]], born := 1 }, { key := .string ⟨#[108, 114, 99]⟩, val := .agg #[.int .i64 2, .int .i64 1, .func (.func 62) #[] #[]], born := 2 }, { key := .string ⟨#[120, 111, 114]⟩, val := .agg #[.int .i64 3, .int .i64 1, .func (.func 63) #[] #[]], born := 3 }, { key := .string ⟨#[102, 108, 101, 116, 99, 104, 101, 114]⟩, val := .agg #[.int .i64 4, .int .i64 2, .func (.func 64) #[] #[]], born := 4 }, { key := .string ⟨#[99, 114, 99, 56]⟩, val := .agg #[.int .i64 5, .int .i64 1, .func (.func 69) #[] #[.pointer (some ⟨w.heap.size + 1, 0, none⟩)]], born := 5 }, { key := .string ⟨#[99, 114, 99, 49, 54]⟩, val := .agg #[.int .i64 6, .int .i64 2, .func (.func 69) #[] #[.pointer (some ⟨w.heap.size + 2, 0, none⟩)]], born := 6 }, { key := .string ⟨#[99, 99, 105, 116, 116]⟩, val := .agg #[.int .i64 7, .int .i64 2, .func (.func 69) #[] #[.pointer (some ⟨w.heap.size + 3, 0, none⟩)]], born := 7 }] 8)).alloc (.cells #[.string e5] 9)).alloc (.cells #[.string e6] 9)).alloc (.cells #[.string e7] 9)) := by
  have h0 : (w.alloc (.map #[{ key := .string ⟨#[110, 111, 110, 101]⟩, val := .agg #[.int .i64 0, .int .i64 0, .func (.func 60) #[] #[]], born := 0 }, { key := .string ⟨#[115, 117, 109]⟩, val := .agg #[.int .i64 1, .int .i64 1, .func (.func 61) #[] #[]], born := 1 }, { key := .string ⟨#[108, 114, 99]⟩, val := .agg #[.int .i64 2, .int .i64 1, .func (.func 62) #[] #[]], born := 2 }, { key := .string ⟨#[120, 111, 114]⟩, val := .agg #[.int .i64 3, .int .i64 1, .func (.func 63) #[] #[]], born := 3 }, { key := .string ⟨#[102, 108, 101, 116, 99, 104, 101, 114]⟩, val := .agg #[.int .i64 4, .int .i64 2, .func (.func 64) #[] #[]], born := 4 }, { key := .string ⟨#[99, 114, 99, 56]⟩, val := .agg #[.int .i64 5, .int .i64 1, .func (.func 69) #[] #[.pointer (some ⟨w.heap.size + 1, 0, none⟩)]], born := 5 }, { key := .string ⟨#[99, 114, 99, 49, 54]⟩, val := .agg #[.int .i64 6, .int .i64 2, .func (.func 69) #[] #[.pointer (some ⟨w.heap.size + 2, 0, none⟩)]], born := 6 }] 7)).heap[w.heap.size]? = some (.map #[{ key := .string ⟨#[110, 111, 110, 101]⟩, val := .agg #[.int .i64 0, .int .i64 0, .func (.func 60) #[] #[]], born := 0 }, { key := .string ⟨#[115, 117, 109]⟩, val := .agg #[.int .i64 1, .int .i64 1, .func (.func 61) #[] #[]], born := 1 }, { key := .string ⟨#[108, 114, 99]⟩, val := .agg #[.int .i64 2, .int .i64 1, .func (.func 62) #[] #[]], born := 2 }, { key := .string ⟨#[120, 111, 114]⟩, val := .agg #[.int .i64 3, .int .i64 1, .func (.func 63) #[] #[]], born := 3 }, { key := .string ⟨#[102, 108, 101, 116, 99, 104, 101, 114]⟩, val := .agg #[.int .i64 4, .int .i64 2, .func (.func 64) #[] #[]], born := 4 }, { key := .string ⟨#[99, 114, 99, 56]⟩, val := .agg #[.int .i64 5, .int .i64 1, .func (.func 69) #[] #[.pointer (some ⟨w.heap.size + 1, 0, none⟩)]], born := 5 }, { key := .string ⟨#[99, 114, 99, 49, 54]⟩, val := .agg #[.int .i64 6, .int .i64 2, .func (.func 69) #[] #[.pointer (some ⟨w.heap.size + 2, 0, none⟩)]], born := 6 }] 7) := World.alloc_heap_new w _
  have h1 := map_under _ _ (.cells #[.string e5] 9) _ h0
  have h2 := map_under _ _ (.cells #[.string e6] 9) _ h1
  have h3 := map_under _ _ (.cells #[.string e7] 9) _ h2
  rw [insert_at 85 9 83 Try.underlying85 Try.underlying9 _ 7 _ _ (by kernel_rfl) _ _ h3]
  exact congrArg (Result.ok ()) (set_4 w _ _ _ _ _)
theorem div_7 (w : World) (o : Obj) (a : Obj) (b : Obj) : Calls Try.prog 65 #[.string ⟨#[99, 99, 105, 116, 116]⟩] (((w.alloc o).alloc a).alloc b) fun e w' => e = .returned (.func (.func 69) #[] #[.pointer (some ⟨w.heap.size + 3, 0, none⟩)]) ∧ w' = (((w.alloc o).alloc a).alloc b).alloc (.cells #[.string e7] 9) := by
  refine (divided_any _ _).mono ?_
  rintro e w1 ⟨rfl, rfl⟩
  exact ⟨by simp [World.size_alloc], rfl⟩
theorem ins_8 (w : World) : (Instr.mapUpdate 85 (.map (some w.heap.size)) (.string ⟨#[99, 114, 99, 51, 50]⟩) (.agg #[.int .i64 8, .int .i64 4, .func (.func 69) #[] #[.pointer (some ⟨w.heap.size + 4, 0, none⟩)]])).run Try.prog (((((w.alloc (.map #[{ key := .string ⟨#[110, 111, 110, 101]⟩, val := .agg #[.int .i64 0, .int .i64 0, .func (.func 60) #[] #[]], born := 0 }, { key := .string ⟨#[115, 117, 109]⟩, val := .agg #[.int .i64 1, .int .i64 1, .func (.func 61) #[] #[]], born := 1 }, { key := .string ⟨#[108, 114, 99]⟩, val := .agg #[.int .i64 2, .int .i64 1, .func (.func 62) #[] #[]], born := 2 }, { key := .string ⟨#[120, 111, 114]⟩, val := .agg #[.int .i64 3, .int .i64 1, .func (.func 63) #[] #[]], born := 3 }, { key := .string ⟨#[102, 108, 101, 116, 99, 104, 101, 114]⟩, val := .agg #[.int .i64 4, .int .i64 2, .func (.func 64) #[] #[]], born := 4 }, { key := .string ⟨#[99, 114, 99, 56]⟩, val := .agg #[.int .i64 5, .int .i64 1, .func (.func 69) #[] #[.pointer (some ⟨w.heap.size + 1, 0, none⟩)]], born := 5 }, { key := .string ⟨#[99, 114, 99, 49, 54]⟩, val := .agg #[.int .i64 6, .int .i64 2, .func (.func 69) #[] #[.pointer (some ⟨w.heap.size + 2, 0, none⟩)]], born := 6 }, { key := .string ⟨#[99, 99, 105, 116, 116]⟩, val := .agg #[.int .i64 7, .int .i64 2, .func (.func 69) #[] #[.pointer (some ⟨w.heap.size + 3, 0, none⟩)]], born := 7 }] 8)).alloc (.cells #[.string e5] 9)).alloc (.cells #[.string e6] 9)).alloc (.cells #[.string e7] 9)).alloc (.cells #[.string e8] 9)) = .ok () (((((w.alloc (.map #[{ key := .string ⟨#[110, 111, 110, 101]⟩, val := .agg #[.int .i64 0, .int .i64 0, .func (.func 60) #[] #[]], born := 0 }, { key := .string ⟨#[115, 117, 109]⟩, val := .agg #[.int .i64 1, .int .i64 1, .func (.func 61) #[] #[]], born := 1 }, { key := .string ⟨#[108, 114, 99]⟩, val := .agg #[.int .i64 2, .int .i64 1, .func (.func 62) #[] #[]], born := 2 }, { key := .string ⟨#[120, 111, 114]⟩, val := .agg #[.int .i64 3, .int .i64 1, .func (.func 63) #[] #[]], born := 3 }, { key := .string ⟨#[102, 108, 101, 116, 99, 104, 101, 114]⟩, val := .agg #[.int .i64 4, .int .i64 2, .func (.func 64) #[] #[]], born := 4 }, { key := .string ⟨#[99, 114, 99, 56]⟩, val := .agg #[.int .i64 5, .int .i64 1, .func (.func 69) #[] #[.pointer (some ⟨w.heap.size + 1, 0, none⟩)]], born := 5 }, { key := .string ⟨#[99, 114, 99, 49, 54]⟩, val := .agg #[.int .i64 6, .int .i64 2, .func (.func 69) #[] #[.pointer (some ⟨w.heap.size + 2, 0, none⟩)]], born := 6 }, { key := .string ⟨#[99, 99, 105, 116, 116]⟩, val := .agg #[.int .i64 7, .int .i64 2, .func (.func 69) #[] #[.pointer (some ⟨w.heap.size + 3, 0, none⟩)]], born := 7 }, { key := .string ⟨#[99, 114, 99, 51, 50]⟩, val := .agg #[.int .i64 8, .int .i64 4, .func (.func 69) #[] #[.pointer (some ⟨w.heap.size + 4, 0, none⟩)]], born := 8 }] 9)).alloc (.cells #[.string e5] 9)).alloc (.cells #[.string e6] 9)).alloc (.cells #[.string e7] 9)).alloc (.cells #[.string e8] 9)) := by
  have h0 : (w.alloc (.map #[{ key := .string ⟨#[110, 111, 110, 101]⟩, val := .agg #[.int .i64 0, .int .i64 0, .func (.func 60) #[] #[]], born := 0 }, { key := .string ⟨#[115, 117, 109]⟩, val := .agg #[.int .i64 1, .int .i64 1, .func (.func 61) #[] #[]], born := 1 }, { key := .string ⟨#[108, 114, 99]⟩, val := .agg #[.int .i64 2, .int .i64 1, .func (.func 62) #[] #[]], born := 2 }, { key := .string ⟨#[120, 111, 114]⟩, val := .agg #[.int .i64 3, .int .i64 1, .func (.func 63) #[] #[]], born := 3 }, { key := .string ⟨#[102, 108, 101, 116, 99, 104, 101, 114]⟩, val := .agg #[.int .i64 4, .int .i64 2, .func (.func 64) #[] #[]], born := 4 }, { key := .string ⟨#[99, 114, 99, 56]⟩, val := .agg #[.int .i64 5, .int .i64 1, .func (.func 69) #[] #[.pointer (some ⟨w.heap.size + 1, 0, none⟩)]], born := 5 }, { key := .string ⟨#[99, 114, 99, 49, 54]⟩, val := .agg #[.int .i64 6, .int .i64 2, .func (.func 69) #[] #[.pointer (some ⟨w.heap.size + 2, 0, none⟩)]], born := 6 }, { key := .string ⟨#[99, 99, 105, 116, 116]⟩, val := .agg #[.int .i64 7, .int .i64 2, .func (.func 69) #[] #[.pointer (some ⟨w.heap.size + 3, 0, none⟩)]], born := 7 }] 8)).heap[w.heap.size]? = some (.map #[{ key := .string ⟨#[110, 111, 110, 101]⟩, val := .agg #[.int .i64 0, .int .i64 0, .func (.func 60) #[] #[]], born := 0 }, { key := .string ⟨#[115, 117, 109]⟩, val := .agg #[.int .i64 1, .int .i64 1, .func (.func 61) #[] #[]], born := 1 }, { key := .string ⟨#[108, 114, 99]⟩, val := .agg #[.int .i64 2, .int .i64 1, .func (.func 62) #[] #[]], born := 2 }, { key := .string ⟨#[120, 111, 114]⟩, val := .agg #[.int .i64 3, .int .i64 1, .func (.func 63) #[] #[]], born := 3 }, { key := .string ⟨#[102, 108, 101, 116, 99, 104, 101, 114]⟩, val := .agg #[.int .i64 4, .int .i64 2, .func (.func 64) #[] #[]], born := 4 }, { key := .string ⟨#[99, 114, 99, 56]⟩, val := .agg #[.int .i64 5, .int .i64 1, .func (.func 69) #[] #[.pointer (some ⟨w.heap.size + 1, 0, none⟩)]], born := 5 }, { key := .string ⟨#[99, 114, 99, 49, 54]⟩, val := .agg #[.int .i64 6, .int .i64 2, .func (.func 69) #[] #[.pointer (some ⟨w.heap.size + 2, 0, none⟩)]], born := 6 }, { key := .string ⟨#[99, 99, 105, 116, 116]⟩, val := .agg #[.int .i64 7, .int .i64 2, .func (.func 69) #[] #[.pointer (some ⟨w.heap.size + 3, 0, none⟩)]], born := 7 }] 8) := World.alloc_heap_new w _
  have h1 := map_under _ _ (.cells #[.string e5] 9) _ h0
  have h2 := map_under _ _ (.cells #[.string e6] 9) _ h1
  have h3 := map_under _ _ (.cells #[.string e7] 9) _ h2
  have h4 := map_under _ _ (.cells #[.string e8] 9) _ h3
  rw [insert_at 85 9 83 Try.underlying85 Try.underlying9 _ 8 _ _ (by kernel_rfl) _ _ h4]
  exact congrArg (Result.ok ()) (set_5 w _ _ _ _ _ _)
theorem div_8 (w : World) (o : Obj) (a : Obj) (b : Obj) (c : Obj) : Calls Try.prog 65 #[.string ⟨#[99, 114, 99, 51, 50]⟩] ((((w.alloc o).alloc a).alloc b).alloc c) fun e w' => e = .returned (.func (.func 69) #[] #[.pointer (some ⟨w.heap.size + 4, 0, none⟩)]) ∧ w' = ((((w.alloc o).alloc a).alloc b).alloc c).alloc (.cells #[.string e8] 9) := by
  refine (divided_any _ _).mono ?_
  rintro e w1 ⟨rfl, rfl⟩
  exact ⟨by simp [World.size_alloc], rfl⟩

set_option maxRecDepth 100000 in
set_option maxHeartbeats 4000000 in
theorem kinds_any (w : World) : Calls Try.prog 52 #[] w fun e w' => e = .returned (.map (some w.heap.size)) ∧ w' = KW w := by
  have hmm := @run_makeMap Try.prog
  have i0 : ∀ w : World, (Instr.mapUpdate 85 (.map (some w.heap.size)) (.string ⟨#[110, 111, 110, 101]⟩) (.agg #[.int .i64 0, .int .i64 0, .func (.func 60) #[] #[]])).run Try.prog (w.alloc (.map #[] 0)) = .ok () (w.alloc (.map #[{ key := .string ⟨#[110, 111, 110, 101]⟩, val := .agg #[.int .i64 0, .int .i64 0, .func (.func 60) #[] #[]], born := 0 }] 1)) := fun w => insert_str 85 9 83 Try.underlying85 Try.underlying9 _ 0 _ _ (by kernel_rfl) w
  have i1 : ∀ w : World, (Instr.mapUpdate 85 (.map (some w.heap.size)) (.string ⟨#[115, 117, 109]⟩) (.agg #[.int .i64 1, .int .i64 1, .func (.func 61) #[] #[]])).run Try.prog (w.alloc (.map #[{ key := .string ⟨#[110, 111, 110, 101]⟩, val := .agg #[.int .i64 0, .int .i64 0, .func (.func 60) #[] #[]], born := 0 }] 1)) = .ok () (w.alloc (.map #[{ key := .string ⟨#[110, 111, 110, 101]⟩, val := .agg #[.int .i64 0, .int .i64 0, .func (.func 60) #[] #[]], born := 0 }, { key := .string ⟨#[115, 117, 109]⟩, val := .agg #[.int .i64 1, .int .i64 1, .func (.func 61) #[] #[]], born := 1 }] 2)) := fun w => insert_str 85 9 83 Try.underlying85 Try.underlying9 _ 1 _ _ (by kernel_rfl) w
  have i2 : ∀ w : World, (Instr.mapUpdate 85 (.map (some w.heap.size)) (.string ⟨#[108, 114, 99]⟩) (.agg #[.int .i64 2, .int .i64 1, .func (.func 62) #[] #[]])).run Try.prog (w.alloc (.map #[{ key := .string ⟨#[110, 111, 110, 101]⟩, val := .agg #[.int .i64 0, .int .i64 0, .func (.func 60) #[] #[]], born := 0 }, { key := .string ⟨#[115, 117, 109]⟩, val := .agg #[.int .i64 1, .int .i64 1, .func (.func 61) #[] #[]], born := 1 }] 2)) = .ok () (w.alloc (.map #[{ key := .string ⟨#[110, 111, 110, 101]⟩, val := .agg #[.int .i64 0, .int .i64 0, .func (.func 60) #[] #[]], born := 0 }, { key := .string ⟨#[115, 117, 109]⟩, val := .agg #[.int .i64 1, .int .i64 1, .func (.func 61) #[] #[]], born := 1 }, { key := .string ⟨#[108, 114, 99]⟩, val := .agg #[.int .i64 2, .int .i64 1, .func (.func 62) #[] #[]], born := 2 }] 3)) := fun w => insert_str 85 9 83 Try.underlying85 Try.underlying9 _ 2 _ _ (by kernel_rfl) w
  have i3 : ∀ w : World, (Instr.mapUpdate 85 (.map (some w.heap.size)) (.string ⟨#[120, 111, 114]⟩) (.agg #[.int .i64 3, .int .i64 1, .func (.func 63) #[] #[]])).run Try.prog (w.alloc (.map #[{ key := .string ⟨#[110, 111, 110, 101]⟩, val := .agg #[.int .i64 0, .int .i64 0, .func (.func 60) #[] #[]], born := 0 }, { key := .string ⟨#[115, 117, 109]⟩, val := .agg #[.int .i64 1, .int .i64 1, .func (.func 61) #[] #[]], born := 1 }, { key := .string ⟨#[108, 114, 99]⟩, val := .agg #[.int .i64 2, .int .i64 1, .func (.func 62) #[] #[]], born := 2 }] 3)) = .ok () (w.alloc (.map #[{ key := .string ⟨#[110, 111, 110, 101]⟩, val := .agg #[.int .i64 0, .int .i64 0, .func (.func 60) #[] #[]], born := 0 }, { key := .string ⟨#[115, 117, 109]⟩, val := .agg #[.int .i64 1, .int .i64 1, .func (.func 61) #[] #[]], born := 1 }, { key := .string ⟨#[108, 114, 99]⟩, val := .agg #[.int .i64 2, .int .i64 1, .func (.func 62) #[] #[]], born := 2 }, { key := .string ⟨#[120, 111, 114]⟩, val := .agg #[.int .i64 3, .int .i64 1, .func (.func 63) #[] #[]], born := 3 }] 4)) := fun w => insert_str 85 9 83 Try.underlying85 Try.underlying9 _ 3 _ _ (by kernel_rfl) w
  have i4 : ∀ w : World, (Instr.mapUpdate 85 (.map (some w.heap.size)) (.string ⟨#[102, 108, 101, 116, 99, 104, 101, 114]⟩) (.agg #[.int .i64 4, .int .i64 2, .func (.func 64) #[] #[]])).run Try.prog (w.alloc (.map #[{ key := .string ⟨#[110, 111, 110, 101]⟩, val := .agg #[.int .i64 0, .int .i64 0, .func (.func 60) #[] #[]], born := 0 }, { key := .string ⟨#[115, 117, 109]⟩, val := .agg #[.int .i64 1, .int .i64 1, .func (.func 61) #[] #[]], born := 1 }, { key := .string ⟨#[108, 114, 99]⟩, val := .agg #[.int .i64 2, .int .i64 1, .func (.func 62) #[] #[]], born := 2 }, { key := .string ⟨#[120, 111, 114]⟩, val := .agg #[.int .i64 3, .int .i64 1, .func (.func 63) #[] #[]], born := 3 }] 4)) = .ok () (w.alloc (.map #[{ key := .string ⟨#[110, 111, 110, 101]⟩, val := .agg #[.int .i64 0, .int .i64 0, .func (.func 60) #[] #[]], born := 0 }, { key := .string ⟨#[115, 117, 109]⟩, val := .agg #[.int .i64 1, .int .i64 1, .func (.func 61) #[] #[]], born := 1 }, { key := .string ⟨#[108, 114, 99]⟩, val := .agg #[.int .i64 2, .int .i64 1, .func (.func 62) #[] #[]], born := 2 }, { key := .string ⟨#[120, 111, 114]⟩, val := .agg #[.int .i64 3, .int .i64 1, .func (.func 63) #[] #[]], born := 3 }, { key := .string ⟨#[102, 108, 101, 116, 99, 104, 101, 114]⟩, val := .agg #[.int .i64 4, .int .i64 2, .func (.func 64) #[] #[]], born := 4 }] 5)) := fun w => insert_str 85 9 83 Try.underlying85 Try.underlying9 _ 4 _ _ (by kernel_rfl) w
  have i5 := ins_5
  have i6 := ins_6
  have i7 := ins_7
  have i8 := ins_8
  go_enter Try.func52, Try.ntmps52
  go_wp2_with fail
  refine (div_5 w _).mono ?_
  rintro e w1 ⟨rfl, rfl⟩
  go_wp2_with fail
  refine (div_6 w _ _).mono ?_
  rintro e w1 ⟨rfl, rfl⟩
  go_wp2_with fail
  refine (div_7 w _ _ _).mono ?_
  rintro e w1 ⟨rfl, rfl⟩
  go_wp2_with fail
  refine (div_8 w _ _ _ _).mono ?_
  rintro e w1 ⟨rfl, rfl⟩
  go_wp2
  go_ret
  exact ⟨rfl, rfl⟩
theorem kw_map (w : World) : (KW w).heap[w.heap.size]? = some (.map (kindsA w.heap.size) 9) := by
  have h0 : (w.alloc (.map (kindsA w.heap.size) 9)).heap[w.heap.size]? = some (.map (kindsA w.heap.size) 9) := World.alloc_heap_new w _
  exact map_under _ _ _ _ (map_under _ _ _ _ (map_under _ _ _ _ (map_under _ _ _ _ h0)))
theorem kw_size (w : World) : (KW w).heap.size = w.heap.size + 5 := by unfold KW; simp [World.size_alloc]
theorem kw_below (w : World) : Below w.heap.size w (KW w) := by
  unfold KW
  exact ((((((Below.refl _ _).alloc (Nat.le_refl _) _).alloc (by simp) _).alloc (by simp; omega) _).alloc (by simp; omega) _).alloc (by simp; omega) _)
theorem kw_box5 (w : World) : (KW w).cell? ⟨w.heap.size + 1, 0, none⟩ = some (.string e5) := by
  have h0 := World.alloc_heap_new (w.alloc (.map (kindsA w.heap.size) 9)) (.cells #[.string e5] 9)
  rw [World.size_alloc] at h0
  have h : (KW w).heap[w.heap.size + 1]? = some (.cells #[.string e5] 9) := map_under _ _ _ _ (map_under _ _ _ _ (map_under _ _ _ _ (h0)))
  simp [World.cell?, h]
theorem kw_box6 (w : World) : (KW w).cell? ⟨w.heap.size + 2, 0, none⟩ = some (.string e6) := by
  have h0 := World.alloc_heap_new ((w.alloc (.map (kindsA w.heap.size) 9)).alloc (.cells #[.string e5] 9)) (.cells #[.string e6] 9)
  rw [World.size_alloc, World.size_alloc] at h0
  have h : (KW w).heap[w.heap.size + 2]? = some (.cells #[.string e6] 9) := map_under _ _ _ _ (map_under _ _ _ _ (h0))
  simp [World.cell?, h]
theorem kw_box7 (w : World) : (KW w).cell? ⟨w.heap.size + 3, 0, none⟩ = some (.string e7) := by
  have h0 := World.alloc_heap_new (((w.alloc (.map (kindsA w.heap.size) 9)).alloc (.cells #[.string e5] 9)).alloc (.cells #[.string e6] 9)) (.cells #[.string e7] 9)
  rw [World.size_alloc, World.size_alloc, World.size_alloc] at h0
  have h : (KW w).heap[w.heap.size + 3]? = some (.cells #[.string e7] 9) := map_under _ _ _ _ (h0)
  simp [World.cell?, h]
theorem kw_box8 (w : World) : (KW w).cell? ⟨w.heap.size + 4, 0, none⟩ = some (.string e8) := by
  have h0 := World.alloc_heap_new ((((w.alloc (.map (kindsA w.heap.size) 9)).alloc (.cells #[.string e5] 9)).alloc (.cells #[.string e6] 9)).alloc (.cells #[.string e7] 9)) (.cells #[.string e8] 9)
  rw [World.size_alloc, World.size_alloc, World.size_alloc, World.size_alloc] at h0
  have h : (KW w).heap[w.heap.size + 4]? = some (.cells #[.string e8] 9) := h0
  simp [World.cell?, h]
/-- the function of kind k in the table that lies at n -/
def fnV (n k : Nat) : Value :=
  match k with
  | 0 => .func (.func 60) #[] #[]
  | 1 => .func (.func 61) #[] #[]
  | 2 => .func (.func 62) #[] #[]
  | 3 => .func (.func 63) #[] #[]
  | 4 => .func (.func 64) #[] #[]
  | 5 => .func (.func 69) #[] #[.pointer (some ⟨n + 1, 0, none⟩)]
  | 6 => .func (.func 69) #[] #[.pointer (some ⟨n + 2, 0, none⟩)]
  | 7 => .func (.func 69) #[] #[.pointer (some ⟨n + 3, 0, none⟩)]
  | 8 => .func (.func 69) #[] #[.pointer (some ⟨n + 4, 0, none⟩)]
  | _ => .nilFunc
/-- what the table has of kind k -/
def kindV (n k : Nat) : Value := .agg #[.int .i64 (k : Int), .int .i64 ((sizeK k : Nat) : Int), fnV n k]
theorem find0 (n : Nat) : Instr.findNow .string (.string (nameN 0)) (kindsA n).toList 0 = some (some (0, kindV n 0)) := by kernel_rfl
theorem find1 (n : Nat) : Instr.findNow .string (.string (nameN 1)) (kindsA n).toList 0 = some (some (1, kindV n 1)) := by kernel_rfl
theorem find2 (n : Nat) : Instr.findNow .string (.string (nameN 2)) (kindsA n).toList 0 = some (some (2, kindV n 2)) := by kernel_rfl
theorem find3 (n : Nat) : Instr.findNow .string (.string (nameN 3)) (kindsA n).toList 0 = some (some (3, kindV n 3)) := by kernel_rfl
theorem find4 (n : Nat) : Instr.findNow .string (.string (nameN 4)) (kindsA n).toList 0 = some (some (4, kindV n 4)) := by kernel_rfl
theorem find5 (n : Nat) : Instr.findNow .string (.string (nameN 5)) (kindsA n).toList 0 = some (some (5, kindV n 5)) := by kernel_rfl
theorem find6 (n : Nat) : Instr.findNow .string (.string (nameN 6)) (kindsA n).toList 0 = some (some (6, kindV n 6)) := by kernel_rfl
theorem find7 (n : Nat) : Instr.findNow .string (.string (nameN 7)) (kindsA n).toList 0 = some (some (7, kindV n 7)) := by kernel_rfl
theorem find8 (n : Nat) : Instr.findNow .string (.string (nameN 8)) (kindsA n).toList 0 = some (some (8, kindV n 8)) := by kernel_rfl
theorem kinds_find (n : Nat) {k : Nat} (hk : k < 9) : Instr.findNow .string (.string (nameN k)) (kindsA n).toList 0 = some (some (k, kindV n k)) := by
  match k, hk with
  | 0, _ => exact find0 n
  | 1, _ => exact find1 n
  | 2, _ => exact find2 n
  | 3, _ => exact find3 n
  | 4, _ => exact find4 n
  | 5, _ => exact find5 n
  | 6, _ => exact find6 n
  | 7, _ => exact find7 n
  | 8, _ => exact find8 n
theorem kinds_not (n : Nat) {s : ByteArray} (h : NoName s) : Instr.findNow .string (.string s) (kindsA n).toList 0 = some none := by
  obtain ⟨n0, n1, n2, n3, n4, n5, n6, n7, n8⟩ := h
  have b : ∀ t : ByteArray, ¬ s = t → (s == t) = false := fun t h => by rw [beq_toListBytes]; exact txt_no h
  simp only [kindsA, Instr.findNow, Instr.sameNow, b _ n0, b _ n1, b _ n2, b _ n3, b _ n4, b _ n5, b _ n6, b _ n7, b _ n8]
theorem zero_kind (w : World) : (zeroValue 83).run Try.prog w = .ok (.agg #[.int .i64 0, .int .i64 0, .nilFunc]) w := by kernel_rfl
theorem look_yes {k : Nat} (hk : k < 9) (w : World) : (Instr.lookup 85 (.map (some w.heap.size)) (.string (nameN k)) true).run Try.prog (KW w) = .ok (.tuple #[kindV w.heap.size k, .bool true]) (KW w) :=
  lookup_str 85 9 83 Try.underlying85 Try.underlying9 _ _ _ _ (kw_map w) _ k _ (kinds_find _ hk)
theorem look_no {s : ByteArray} (h : NoName s) (w : World) : (Instr.lookup 85 (.map (some w.heap.size)) (.string s) true).run Try.prog (KW w) = .ok (.tuple #[.agg #[.int .i64 0, .int .i64 0, .nilFunc], .bool false]) (KW w) :=
  lookup_no 85 9 83 Try.underlying85 Try.underlying9 _ _ _ _ (kw_map w) _ _ (zero_kind _) (kinds_not _ h)
end Go.Proofs.Ytllkkgcfhphgmaa
