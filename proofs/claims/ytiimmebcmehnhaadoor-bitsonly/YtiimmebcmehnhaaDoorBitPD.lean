/-
  What bytes come to, place by place (layer 6), plainly; the memory that the program's total lays. No conditions but those that each says.
-/
import Derived.Test.YtiimmebcmehnhaaDoorBitPC
namespace Go.Proofs.YtiimmebcmehnhaaDoor
open Go.RowKit Go.Shelf
set_option linter.unusedVariables false

/-- the byte that is x-th from the lowest on -/
def byP (k : Nat) (bs : List Nat) (x : Nat) : Nat := bs.getD (atP k bs.length x) 0
def termP (k B : Nat) (bs : List Nat) (x : Nat) : Int := cntV k (byP k bs x) * ((B ^ x : Nat) : Int)
def sumP (k B : Nat) (bs : List Nat) {L : Nat} (pre : List (Fin L)) : Int := (pre.map fun x => termP k B bs x.1).sum
theorem sumP_nil (k B : Nat) (bs : List Nat) {L : Nat} : sumP k B bs ([] : List (Fin L)) = 0 := rfl
theorem sumP_snoc (k B : Nat) (bs : List Nat) {L : Nat} (pre : List (Fin L)) (x : Fin L) : sumP k B bs (pre ++ [x]) = sumP k B bs pre + termP k B bs x.1 := by
  unfold sumP; rw [List.map_append, List.sum_append]; simp
theorem sum_bd {k B M : Nat} {bs : List Nat} {L : Nat} : ∀ {pre : List (Fin L)}, (∀ x ∈ pre, 0 ≤ termP k B bs x.1 ∧ termP k B bs x.1 ≤ (M : Int)) → 0 ≤ sumP k B bs pre ∧ sumP k B bs pre ≤ (pre.length : Int) * (M : Int) := by
  intro pre
  induction pre with
  | nil => intro _; rw [sumP_nil]; simp
  | cons x pre ih =>
    intro h
    have h1 := h x (by simp)
    have h2 := ih (fun y hy => h y (by simp [hy]))
    have e : sumP k B bs (x :: pre) = termP k B bs x.1 + sumP k B bs pre := by unfold sumP; simp
    have e2 : (((x :: pre).length : Nat) : Int) * (M : Int) = (pre.length : Int) * (M : Int) + (M : Int) := by
      rw [List.length_cons, Int.natCast_add, Int.add_mul]; simp
    rw [e, e2]
    omega
theorem cntV_bd {k c : Nat} (hc : c < 256) (h : cntB k c = true) : 0 ≤ cntV k c ∧ cntV k c ≤ (if k = 4 then 99 else if k = 5 then 9 else 255) := by
  unfold cntB at h
  unfold cntV
  by_cases h4 : k = 4
  · rw [if_pos h4] at h ⊢
    rw [if_pos h4]
    have := of_decide_eq_true h
    omega
  · rw [if_neg h4] at h ⊢
    rw [if_neg h4]
    by_cases h5 : k = 5
    · rw [if_pos h5] at h ⊢
      rw [if_pos h5]
      have := of_decide_eq_true h
      omega
    · rw [if_neg h5, if_neg h5]; omega
def okAll (k : Nat) (bs : List Nat) : Bool := bs.all (cntB k)
def totN (k B : Nat) (bs : List Nat) : Int := if okAll k bs = true then sumP k B bs (List.finRange bs.length) else 0
theorem byP_get {k : Nat} {bs : List Nat} {x : Nat} (h : x < bs.length) : ∃ hj : atP k bs.length x < bs.length, byP k bs x = bs[atP k bs.length x] := by
  refine ⟨atP_lt h, ?_⟩
  unfold byP
  rw [List.getD_eq_getElem?_getD, List.getElem?_eq_getElem (atP_lt h)]; rfl
theorem ok_all {k : Nat} {bs : List Nat} (h : ∀ x ∈ List.finRange bs.length, cntB k (byP k bs x.1) = true) : okAll k bs = true := by
  unfold okAll
  rw [List.all_eq_true]
  intro c hc
  obtain ⟨i, hi, rfl⟩ := List.getElem_of_mem hc
  have hx : (if k = 1 ∨ k = 3 then i else bs.length - 1 - i) < bs.length := by split <;> omega
  have q := h ⟨_, hx⟩ (List.mem_finRange _)
  obtain ⟨hj, e⟩ := byP_get (k := k) hx
  rw [e] at q
  have e2 : atP k bs.length (if k = 1 ∨ k = 3 then i else bs.length - 1 - i) = i := by unfold atP; split <;> omega
  simp only [e2] at q
  exact q
theorem ok_not {k : Nat} {bs : List Nat} {x : Fin bs.length} (h : cntB k (byP k bs x.1) = false) : okAll k bs = false := by
  unfold okAll
  rw [List.all_eq_false]
  obtain ⟨hj, e⟩ := byP_get (k := k) x.2
  exact ⟨_, List.getElem_mem hj, by rw [← e, h]; decide⟩
theorem keeps_dn (W : World) (n : Nat) : KeepsOthers W (W.drewN n) := ⟨Nat.le_refl _, fun _ _ h _ => h⟩
theorem belowDn {B : Nat} {w W : World} (h : Below B w W) (n : Nat) : Below B w (W.drewN n) := ⟨h.os, h.tape, h.output, h.size, h.block⟩
theorem dn_box {W : World} {B : Nat} {t : TypeId} {v : Value} (h : Boxed W B t v) (n : Nat) : Boxed (W.drewN n) B t v := h
theorem box_at {x : World} {B : Nat} (t : TypeId) (v : Value) (h : x.heap.size = B) : Boxed (x.alloc (.cells #[v] t)) B t v := by subst h; exact Boxed.new x t v
/-- what total lays ahead of its rounds -/
theorem seven (w : World) (s : ByteArray) (v : Value) (L : Int) : ∃ W0, (((((((w.alloc (.cells #[.string s] 9)).alloc (.cells #[v] 22)).alloc (.cells #[.int .i64 0] 2)).alloc (.cells #[.bool false] 4)).alloc (.cells #[.int .i64 0] 2)).alloc (.cells #[.string s] 9)).alloc (.cells #[.int .i64 L] 3)) = W0 ∧
    Boxed W0 w.heap.size 9 (.string s) ∧ Boxed W0 (w.heap.size + 1) 22 v ∧ Boxed W0 (w.heap.size + 1 + 1) 2 (.int .i64 0) ∧ Boxed W0 (w.heap.size + 1 + 1 + 1) 4 (.bool false) ∧ Boxed W0 (w.heap.size + 1 + 1 + 1 + 1) 2 (.int .i64 0) ∧ Boxed W0 (w.heap.size + 1 + 1 + 1 + 1 + 1) 9 (.string s) ∧ Boxed W0 (w.heap.size + 1 + 1 + 1 + 1 + 1 + 1) 3 (.int .i64 L) ∧ Below w.heap.size w W0 ∧ W0.heap.size = w.heap.size + 7 := by
  refine ⟨_, rfl, ?_, ?_, ?_, ?_, ?_, ?_, ?_, ?_, ?_⟩
  · exact (((((((box_at _ _ (by simp)).alloc _).alloc _).alloc _).alloc _).alloc _).alloc _)
  · exact ((((((box_at _ _ (by simp)).alloc _).alloc _).alloc _).alloc _).alloc _)
  · exact (((((box_at _ _ (by simp)).alloc _).alloc _).alloc _).alloc _)
  · exact ((((box_at _ _ (by simp)).alloc _).alloc _).alloc _)
  · exact (((box_at _ _ (by simp)).alloc _).alloc _)
  · exact ((box_at _ _ (by simp)).alloc _)
  · exact (box_at _ _ (by simp))
  · go_grown
  · simp
end Go.Proofs.YtiimmebcmehnhaaDoor
