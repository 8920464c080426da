/-
  Rows of bytes that a law makes (layer 4): laid, grown, written in place, read. No conditions but those that each says.
-/
import Derived.Laws.OwnMore
import Derived.Test.YtoocppfdcalmfaaCrcOpen
namespace Go.Proofs.Ytoocppfdcalmfaa
open Go.RowKit
set_option linter.unusedVariables false

theorem info_u8 : (Try.prog.info? 5).map (fun i => (i.zero, i.size, i.bytes)) = some (some (.int .u8 0), 1, 1) := by kernel_rfl
abbrev u8v (bs : List Nat) : List Value := bs.map fun (n : Nat) => Value.int .u8 (n : Int)
/-- bytes from the start of block g on -/
def RowU (x : World) (g cap : Nat) (bs : List Nat) : Prop :=
  bs.length ≤ cap ∧ cap ≤ maxLen ∧ ∃ cur : Array Value, x.heap[g]? = some (.cells cur 5 (0, 0)) ∧ cur.size = cap ∧ cur.toList.take bs.length = u8v bs
theorem RowU.lt {x : World} {g cap : Nat} {bs : List Nat} (h : RowU x g cap bs) : g < x.heap.size := by
  obtain ⟨_, _, cur, h4, _⟩ := h
  exact (Array.getElem?_eq_some_iff.1 h4).1
theorem RowU.cell {x : World} {g cap : Nat} {bs : List Nat} (h : RowU x g cap bs) (j : Nat) (hj : j < bs.length) : x.cell? ⟨g, j, none⟩ = some (.int .u8 (bs[j] : Int)) ∧ x.frozen? ⟨g, j, none⟩ = false := by
  obtain ⟨h2, h3, cur, h4, h5, h6⟩ := h
  refine ⟨?_, ?_⟩
  · have : cur[j]? = some (.int .u8 (bs[j] : Int)) := by
      rw [← Array.getElem?_toList]
      have e : (cur.toList.take bs.length)[j]? = some (.int .u8 (bs[j] : Int)) := by rw [h6, List.getElem?_map, List.getElem?_eq_getElem hj]; rfl
      rwa [List.getElem?_take_of_lt (by omega)] at e
    simp [World.cell?, h4, this]
  · simp [World.frozen?, h4]
theorem RowU.block {x y : World} {g cap : Nat} {bs : List Nat} (h : RowU x g cap bs) (e : y.heap[g]? = x.heap[g]?) : RowU y g cap bs := by
  obtain ⟨h2, h3, cur, h4, h5⟩ := h
  exact ⟨h2, h3, cur, e.trans h4, h5⟩
theorem RowU.below {x y : World} {g cap : Nat} {bs : List Nat} (h : RowU x g cap bs) (hb : Below x.heap.size x y) : RowU y g cap bs := h.block (hb.block g h.lt)
theorem RowU.set {x : World} {g cap : Nat} {bs : List Nat} (h : RowU x g cap bs) (j b : Nat) : RowU (x.setCell ⟨g, j, none⟩ (.int .u8 (b : Int))) g cap (bs.set j b) := by
  obtain ⟨h2, h3, cur, h4, h5, h6⟩ := h
  refine ⟨by rw [List.length_set]; exact h2, h3, cur.setIfInBounds j (.int .u8 (b : Int)), ?_, by simp [h5], ?_⟩
  · rw [setCell_eq_setRow x g j cur _ (0, 0) _ h4]; exact setRow_heap x g cur _ _ (0, 0) h4
  · rw [List.length_set, Array.toList_setIfInBounds, List.take_set, h6]; exact List.map_set.symm
theorem RowU.at {x : World} {g cap : Nat} {bs : List Nat} (h : RowU x g cap bs) : BytesAt x (.slice (some ⟨g, 0, none⟩) bs.length cap) bs :=
  .inr ⟨g, 0, cap, rfl, fun j hj => by rw [Nat.zero_add]; exact (h.cell j hj).1, h.lt⟩
theorem RowU.of {x : World} {base : Nat} {v : Value} {bs : List Nat} (h : x.ownsRow base 5 1 v bs.length (u8v bs)) (hl : 0 < bs.length) : ∃ g cap, v = .slice (some ⟨g, 0, none⟩) bs.length cap ∧ base ≤ g ∧ RowU x g cap bs := by
  rcases h.2 with ⟨_, k⟩ | ⟨g, cap, cur, h1, h2, h3, h4, h5, h6, h7⟩
  · omega
  · exact ⟨g, cap, h1, h2, h4, h5, cur, h3, by omega, by simpa using h7⟩
theorem bytes_one (bs : List Nat) : ∀ u ∈ u8v bs, u.oneCell' = true := fun u hu => by
  obtain ⟨b, _, rfl⟩ := List.mem_map.1 hu; rfl
theorem bytes_news {w x : World} {g o : Nat} {bs : List Nat} (h : BytesIn w g o bs) (hg : g < w.heap.size) (hb : Below w.heap.size w x) : ∀ j u, (u8v bs)[j]? = some u → x.cell? ((⟨g, o, none⟩ : Addr).add j) = some u := by
  intro j u hu
  rw [List.getElem?_map] at hu
  have hj : j < bs.length := by
    rcases Nat.lt_or_ge j bs.length with h | h
    · exact h
    · rw [List.getElem?_eq_none h] at hu; cases hu
  rw [List.getElem?_eq_getElem hj] at hu
  have e : Value.int .u8 (bs[j] : Int) = u := by simpa using hu
  rw [← e, addr_add]
  exact h.at hg hb j hj
/-- an empty slice that was laid behind another block -/
theorem row_none (w : World) (o : Obj) : ((w.alloc o).alloc (.cells #[] 5)).ownsRow (w.heap.size + 1) 5 1 (.slice (some ⟨w.heap.size + 1, 0, none⟩) 0 0) 0 [] :=
  ⟨rfl, .inr ⟨w.heap.size + 1, 0, #[], rfl, Nat.le_refl _, by have := World.alloc_heap_new (w.alloc o) (.cells #[] 5); rwa [World.size_alloc] at this, by omega, by omega, rfl, rfl⟩⟩
end Go.Proofs.Ytoocppfdcalmfaa
