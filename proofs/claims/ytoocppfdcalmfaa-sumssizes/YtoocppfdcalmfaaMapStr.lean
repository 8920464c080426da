/-
  Maps by texts that a call lays as a literal: an entry more, a look-up (at a key that is a text). Conditions: as each says.
-/
import Derived.Test.YtoocppfdcalmfaaCrcRefA
namespace Go.Proofs.Ytoocppfdcalmfaa
open Go.RowKit
set_option linter.unusedVariables false

section
variable {P : Program}
theorem obj_map (w : World) (g : Nat) (es : Array MapEntry) (c : Nat) (h : w.heap[g]? = some (.map es c)) : (getObj g).run P w = .ok (.map es c) w := by
  simp [getObj, Sem.run, h]
theorem set_map (w : World) (g : Nat) (es : Array MapEntry) (c : Nat) (h : w.heap[g]? = some (.map es c)) {o : Obj} : (setObj g o).run P w = .ok () { w with heap := w.heap.setIfInBounds g o } := by
  simp [setObj, Sem.run, h]
theorem key_str (w : World) (b : Bool) (K : TypeId) (hk : P.underlying K = some .string) (s : ByteArray) : (Instr.checkKey b 10000 K (.string s)).run P w = .ok () w := by
  unfold Instr.checkKey
  simp [run_underlying hk, Result.andThen]
theorem find_str (w : World) (K : TypeId) (hk : P.underlying K = some .string) (s : ByteArray) (es : List MapEntry) (r : Option (Nat × Value)) (hf : Instr.findNow .string (.string s) es 0 = some r) : (Instr.findKey K (.string s) es).run P w = .ok r w := by
  simp [Instr.findKey, run_underlying hk, Result.andThen, hf]
theorem push_last (h : Array Obj) (o o' : Obj) : (h.push o).setIfInBounds h.size o' = h.push o' := by
  apply Array.ext_getElem?
  intro i
  rw [Array.getElem?_setIfInBounds, Array.getElem?_push, Array.getElem?_push]
  by_cases e : h.size = i
  · subst e; simp
  · rw [if_neg e, if_neg (Ne.symm e), if_neg (Ne.symm e)]
theorem set_last (w : World) (o o' : Obj) : ({ w.alloc o with heap := (w.alloc o).heap.setIfInBounds w.heap.size o' } : World) = w.alloc o' := by
  show ({ w with heap := (w.heap.push o).setIfInBounds w.heap.size o' } : World) = { w with heap := w.heap.push o' }
  rw [push_last]
/-- an entry more, in the block that was laid last -/
theorem insert_str (T K E : TypeId) (ht : P.underlying T = some (.map K E)) (hk : P.underlying K = some .string) (es : Array MapEntry) (c : Nat) (s : ByteArray) (v : Value) (hf : Instr.findNow .string (.string s) es.toList 0 = some none) (w : World) :
    (Instr.mapUpdate T (.map (some w.heap.size)) (.string s) v).run P (w.alloc (.map es c)) = .ok () (w.alloc (.map (es.push { key := .string s, val := v, born := c }) (c + 1))) := by
  have hb : (w.alloc (.map es c)).heap[w.heap.size]? = some (.map es c) := World.alloc_heap_new w _
  have hs : (setObj w.heap.size (.map (es.push { key := .string s, val := v, born := c }) (c + 1))).run P (w.alloc (.map es c)) = .ok () (w.alloc (.map (es.push { key := .string s, val := v, born := c }) (c + 1))) := by
    rw [set_map (w.alloc (.map es c)) _ _ _ hb, set_last]
  unfold Instr.mapUpdate
  simp [run_underlying ht, obj_map _ _ _ _ hb, key_str _ _ _ hk, find_str _ _ hk _ _ _ hf, hs, Result.andThen]
/-- a look-up -/
theorem lookup_str (T K E : TypeId) (ht : P.underlying T = some (.map K E)) (hk : P.underlying K = some .string) (w : World) (g : Nat) (es : Array MapEntry) (c : Nat) (hb : w.heap[g]? = some (.map es c)) (s : ByteArray) (i : Nat) (v : Value) (hf : Instr.findNow .string (.string s) es.toList 0 = some (some (i, v))) :
    (Instr.lookup T (.map (some g)) (.string s) true).run P w = .ok (.tuple #[v, .bool true]) w := by
  unfold Instr.lookup
  simp [run_underlying ht, obj_map _ _ _ _ hb, key_str _ _ _ hk, find_str _ _ hk _ _ _ hf, Result.andThen]
theorem lookup_no (T K E : TypeId) (ht : P.underlying T = some (.map K E)) (hk : P.underlying K = some .string) (w : World) (g : Nat) (es : Array MapEntry) (c : Nat) (hb : w.heap[g]? = some (.map es c)) (s : ByteArray) (z : Value) (hz : (zeroValue E).run P w = .ok z w) (hf : Instr.findNow .string (.string s) es.toList 0 = some none) :
    (Instr.lookup T (.map (some g)) (.string s) true).run P w = .ok (.tuple #[z, .bool false]) w := by
  unfold Instr.lookup
  simp [run_underlying ht, obj_map _ _ _ _ hb, key_str _ _ _ hk, find_str _ _ hk _ _ _ hf, hz, Result.andThen]
end
end Go.Proofs.Ytoocppfdcalmfaa
