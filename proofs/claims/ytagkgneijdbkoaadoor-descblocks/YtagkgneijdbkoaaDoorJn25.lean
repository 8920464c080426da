/-
  Texts that belong together, one behind the other: LexPQ. Conditions: as each says.
-/
import Derived.RangeFuncBox
import Derived.RangeFuncNested
import Derived.Test.YtagkgneijdbkoaaDoorJn13
/-
  Lines that are being made, beside variables in boxes (layer 7). No function of a program is named here. No conditions but those that each says.
-/
namespace Go.Proofs.YtagkgneijdbkoaaDoor
open Go.RowKit
set_option linter.unusedVariables false

theorem own_ne {x : World} {base : Nat} {e : TypeId} {size : Nat} {v : Value} {n : Nat} {xs : List Value} (h : x.ownsRow base e size v n xs) {k : Nat} (hk : x.heap.size ≤ k) : v.ownBlock = none ∨ v.ownBlock ≠ some k := by
  cases hv : v.ownBlock with
  | none => exact .inl rfl
  | some g =>
    right
    intro e
    have := (World.ownsRow.lt h g hv).2
    have := Option.some.inj e
    omega
/-- a line's words, laid in a block of their own -/
theorem LxSt.words {w x : World} {T : TypeId} {vo : Value} {fs : List Dn} (h : LxSt w x T vo (.slice none 0 0) fs []) (ws : List Wd) (hm : ws.length ≤ maxLen) :
    LxSt w (x.alloc (.cells (strV ws).toArray 9)) T vo (.slice (some ⟨x.heap.size, 0, none⟩) ws.length ws.length) fs ws := by
  refine ⟨World.ownsRow.alloc h.ro _, ?_, ?_, ?_, h.b.alloc h.b.size _⟩
  · refine ⟨by simp, .inr ⟨x.heap.size, ws.length, (strV ws).toArray, rfl, h.b.size, World.alloc_heap_new x _, Nat.le_refl _, hm, by simp, ?_⟩⟩
    rw [List.take_of_length_le (by simp)]
  · intro f hf
    obtain ⟨⟨g, cap, q1, q2, q3, q4, q5⟩, q6⟩ := h.fin f hf
    refine ⟨⟨g, cap, q1, fun j hj => (World.grownBy_alloc x _ none).cell (q2 j hj) (by simp), Nat.lt_of_lt_of_le q3 (World.grownBy_alloc x _ none).size, q4, ?_⟩, q6⟩
    intro e
    have : g = x.heap.size := by simpa [Value.ownBlock] using e
    omega
  · rcases own_ne h.ro (Nat.le_refl _) with e | e
    · exact .inl e
    · right
      simpa [Value.ownBlock] using e
/-- what is no cells may turn -/
theorem LxSt.own {w x y : World} {T : TypeId} {vo : Value} {fs : List Dn} {row : Option Nat} (h : LxSt w x T vo (.slice none 0 0) fs []) (hg : x.grownBy y row) (hr : ∀ r, row = some r → w.heap.size ≤ r ∧ ∃ o : Obj, x.heap[r]? = some o ∧ o.isCells = false) : LxSt w y T vo (.slice none 0 0) fs [] := by
  refine ⟨h.ro.kept hg ?_, World.ownsRow_nil _ _ _ _, ?_, h.ne, h.b.grown hg h.b.size (fun k e => (hr k e).1)⟩
  · rcases h.ro.2 with ⟨e, _⟩ | ⟨g, cap, cur, e, _, hgb, _⟩
    · exact .inl (by rw [e]; rfl)
    · refine .inr fun e' => ?_
      rw [e] at e'
      obtain ⟨o, ho, hc⟩ := (hr g (by simpa [Value.ownBlock] using e'.symm)).2
      rw [hgb] at ho; cases ho; cases hc
  · intro f hf
    obtain ⟨⟨g, cap, q1, q2, q3, q4, q5⟩, q6⟩ := h.fin f hf
    exact ⟨⟨g, cap, q1, fun j hj => cell_kept (q2 j hj) hg (fun r e => (hr r e).2), Nat.lt_of_lt_of_le q3 hg.size, q4, q5⟩, q6⟩
/-- a variable in a box is no text's block -/
theorem box_no_str {x : World} {B : Nat} {t : TypeId} {v : Value} (h : Boxed x B t v) (hv : ∀ s, v ≠ .string s) {g j : Nat} {s : ByteArray} (hc : x.cell? ⟨g, 0 + j, none⟩ = some (.string s)) : g ≠ B := by
  intro e
  subst e
  rw [Nat.zero_add] at hc
  unfold World.cell? at hc
  rw [show x.heap[g]? = _ from h] at hc
  cases j with
  | zero => simp at hc; exact hv s hc
  | succ j => simp at hc
/-- a store into a box -/
theorem LxSt.store {w x : World} {T : TypeId} {vo : Value} {fs : List Dn} (h : LxSt w x T vo (.slice none 0 0) fs []) {B : Nat} {t : TypeId} {v : Value} (hb : Boxed x B t v) (ht : t ≠ T) (hv : ∀ s, v ≠ .string s) (hB : w.heap.size ≤ B) (u : Value) : LxSt w (x.setCell ⟨B, 0, none⟩ u) T vo (.slice none 0 0) fs [] := by
  have hg := grownBy_setCell' x B u
  refine ⟨h.ro.kept hg (.inr (hb.not_row ht h.ro).symm), World.ownsRow_nil _ _ _ _, ?_, h.ne, h.b.setCell (p := ⟨B, 0, none⟩) hB u⟩
  intro f hf
  obtain ⟨⟨g, cap, q1, q2, q3, q4, q5⟩, q6⟩ := h.fin f hf
  exact ⟨⟨g, cap, q1, fun j hj => hg.cell (q2 j hj) (fun e => box_no_str hb hv (q2 j hj) (Option.some.inj e)), Nat.lt_of_lt_of_le q3 hg.size, q4, q5⟩, q6⟩
theorem LxSt.putObj {w x : World} {T : TypeId} {vo : Value} {fs : List Dn} (h : LxSt w x T vo (.slice none 0 0) fs []) {l : Nat} {o : Obj} (o' : Obj) (hl : x.heap[l]? = some o) (ho : o.isCells = false) (hB : w.heap.size ≤ l) : LxSt w (x.putObj l o') T vo (.slice none 0 0) fs [] :=
  h.own (grownBy_putObj' x l o') (fun r e => by cases e; exact ⟨hB, o, hl, ho⟩)
end Go.Proofs.YtagkgneijdbkoaaDoor
