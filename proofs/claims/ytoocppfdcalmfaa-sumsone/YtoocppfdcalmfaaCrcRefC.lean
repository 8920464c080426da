/-
  Rows of bits that are written in place; what the document's own Sum keeps from round to round (layer 4). No conditions but those that each says.
-/
import Derived.Laws.Tables
import Derived.Test.YtoocppfdcalmfaaCrcKind
namespace Go.Proofs.Ytoocppfdcalmfaa
open Go.RowKit
set_option linter.unusedVariables false

/-- a row of W bits from the start of block g on -/
def RowW (x : World) (g cap W : Nat) (l : List Bool) : Prop :=
  l.length = W ∧ W ≤ cap ∧ cap ≤ maxLen ∧ ∃ cur : Array Value, x.heap[g]? = some (.cells cur 4 (0, 0)) ∧ cur.size = cap ∧ cur.toList.take W = l.map Value.bool
theorem RowW.lt {x : World} {g cap W : Nat} {l : List Bool} (h : RowW x g cap W l) : g < x.heap.size := by
  obtain ⟨_, _, _, cur, h4, _⟩ := h
  exact (Array.getElem?_eq_some_iff.1 h4).1
theorem RowW.row {x : World} {g cap W base : Nat} {l : List Bool} (h : RowW x g cap W l) (hb : base ≤ g) : Row x base (.slice (some ⟨g, 0, none⟩) W cap) l := by
  obtain ⟨h1, h2, h3, cur, h4, h5, h6⟩ := h
  subst h1
  exact ⟨by simp, .inr ⟨g, cap, cur, rfl, hb, h4, h2, h3, by omega, by simpa using h6⟩⟩
theorem RowW.of {x : World} {base : Nat} {v : Value} {l : List Bool} (h : Row x base v l) (hl : 0 < l.length) : ∃ g cap, v = .slice (some ⟨g, 0, none⟩) l.length cap ∧ base ≤ g ∧ RowW x g cap l.length l := by
  rcases h.2 with ⟨_, k⟩ | ⟨g, cap, cur, h1, h2, h3, h4, h5, h6, h7⟩
  · omega
  · exact ⟨g, cap, h1, h2, rfl, h4, h5, cur, h3, by omega, by simpa using h7⟩
theorem RowW.cell {x : World} {g cap W : Nat} {l : List Bool} (h : RowW x g cap W l) (j : Nat) (hj : j < l.length) : x.cell? ⟨g, j, none⟩ = some (.bool l[j]) ∧ x.frozen? ⟨g, j, none⟩ = false := by
  obtain ⟨h1, h2, h3, cur, h4, h5, h6⟩ := h
  refine ⟨?_, ?_⟩
  · have : cur[j]? = some (.bool l[j]) := by
      rw [← Array.getElem?_toList]
      have e : (cur.toList.take W)[j]? = some (.bool l[j]) := by rw [h6, List.getElem?_map, List.getElem?_eq_getElem hj]; rfl
      rwa [List.getElem?_take_of_lt (by omega)] at e
    simp [World.cell?, h4, this]
  · simp [World.frozen?, h4]
theorem RowW.block {x y : World} {g cap W : Nat} {l : List Bool} (h : RowW x g cap W l) (e : y.heap[g]? = x.heap[g]?) : RowW y g cap W l := by
  obtain ⟨h1, h2, h3, cur, h4, h5⟩ := h
  exact ⟨h1, h2, h3, cur, e.trans h4, h5⟩
theorem RowW.below {x y : World} {g cap W : Nat} {l : List Bool} (h : RowW x g cap W l) (hb : Below x.heap.size x y) : RowW y g cap W l := h.block (hb.block g h.lt)
theorem RowW.set {x : World} {g cap W : Nat} {l : List Bool} (h : RowW x g cap W l) (j : Nat) (b : Bool) : RowW (x.setCell ⟨g, j, none⟩ (.bool b)) g cap W (l.set j b) := by
  obtain ⟨h1, h2, h3, cur, h4, h5, h6⟩ := h
  refine ⟨by rw [List.length_set]; exact h1, h2, h3, cur.setIfInBounds j (.bool b), ?_, by simp [h5], ?_⟩
  · rw [setCell_eq_setRow x g j cur _ (0, 0) _ h4]; exact setRow_heap x g cur _ _ (0, 0) h4
  · rw [Array.toList_setIfInBounds, List.take_set, h6, List.map_set]
theorem blk_far (w : World) (a : Addr) (u : Value) (k : Nat) (h : k ≠ a.block) : (w.setCell a u).heap[k]? = w.heap[k]? := by
  simp [World.setCell, Array.getElem?_modify, Ne.symm h]

/-- what is kept: r in block g, p in block gp, the kind in the first new block -/
structure SumSt (w x : World) (kc : Array Value) (g cap gp capp W : Nat) (rl pl : List Bool) : Prop where
  r : RowW x g cap W rl
  p : RowW x gp capp W pl
  ne : g ≠ gp
  gl : w.heap.size < g
  gpl : w.heap.size < gp
  k : x.heap[w.heap.size]? = some (.cells kc 48 (0, 0))
  b : Below w.heap.size w x
theorem SumSt.below {w x y : World} {kc : Array Value} {g cap gp capp W : Nat} {rl pl : List Bool} (h : SumSt w x kc g cap gp capp W rl pl) (hb : Below x.heap.size x y) : SumSt w y kc g cap gp capp W rl pl :=
  ⟨h.r.below hb, h.p.below hb, h.ne, h.gl, h.gpl, (hb.block _ (Array.getElem?_eq_some_iff.1 h.k).1).trans h.k, belowT h.b hb⟩
theorem SumSt.set {w x : World} {kc : Array Value} {g cap gp capp W : Nat} {rl pl : List Bool} (h : SumSt w x kc g cap gp capp W rl pl) (j : Nat) (b : Bool) :
    SumSt w (x.setCell ⟨g, j, none⟩ (.bool b)) kc g cap gp capp W (rl.set j b) pl :=
  ⟨h.r.set j b, h.p.block (blk_far _ _ _ _ h.ne.symm), h.ne, h.gl, h.gpl, (blk_far _ _ _ _ (by have := h.gl; simp; omega)).trans h.k, h.b.setCell (p := ⟨g, j, none⟩) (Nat.le_of_lt h.gl) _⟩

/-- the first j bits made one -/
def partL (j : Nat) (r c : List Bool) : List Bool := xl (r.take j) (c.take j) ++ r.drop j
theorem partL_zero (r c : List Bool) : partL 0 r c = r := by simp [partL, xl]
theorem partL_len {j : Nat} {r c : List Bool} (h : j ≤ c.length) (k : j ≤ r.length) : (partL j r c).length = r.length := by
  unfold partL
  rw [List.length_append, xl_len (by simp; omega), List.length_take, List.length_drop]; omega
theorem partL_get {j : Nat} {r c : List Bool} (h : j ≤ c.length) (k : j < r.length) (l : j < (partL j r c).length) : (partL j r c)[j] = r[j] := by
  have e : (xl (r.take j) (c.take j)).length = j := by rw [xl_len (by simp; omega), List.length_take]; omega
  have g : (partL j r c)[j]? = some r[j] := by
    unfold partL
    rw [List.getElem?_append_right (by omega), e, Nat.sub_self, List.getElem?_drop, Nat.add_zero, List.getElem?_eq_getElem k]
  rw [List.getElem?_eq_getElem l] at g
  exact Option.some.inj g
theorem partL_next {j : Nat} {r c : List Bool} (h : j < c.length) (k : j < r.length) : (partL j r c).set j (r[j] ^^ c[j]) = partL (j + 1) r c := by
  have e : (xl (r.take j) (c.take j)).length = j := by rw [xl_len (by simp; omega), List.length_take]; omega
  unfold partL
  rw [List.set_append_right _ _ (by omega), e, Nat.sub_self, List.drop_eq_getElem_cons k, List.set_cons_zero]
  rw [← List.take_append_getElem k, ← List.take_append_getElem h, xl_app (by simp; omega), List.append_assoc]
  rfl
theorem partL_mix {r c : List Bool} (h : c.length = 8) : partL 8 r c = mixL r c := by
  unfold partL mixL; rw [show c.take 8 = c from List.take_of_length_le (by omega)]
theorem partL_all {r c : List Bool} (h : c.length = r.length) : partL r.length r c = xl r c := by
  unfold partL; rw [List.take_length, ← h, List.take_length, h, List.drop_length, List.append_nil]
end Go.Proofs.Ytoocppfdcalmfaa
