/-
  How often a name stands in the table: once, or not at all. No conditions.
-/
import Derived.Test.YtbojdlagacanoaaUnTab
namespace Go.Proofs.Ytbojdlagacanoaa
open Go.RowKit
set_option linter.unusedVariables false

/-- how many of the first k rows have that name -/
def cntU (s : ByteArray) (k : Nat) : Nat := (tab.take k).countP (fun u => decide (u.nm = s))
theorem cntU_le (s : ByteArray) (k : Nat) : cntU s k ≤ 25 := by
  unfold cntU
  have h1 := List.countP_le_length (p := fun u : U => decide (u.nm = s)) (l := tab.take k)
  have h2 : (tab.take k).length ≤ 25 := by rw [List.length_take, tab_len]; omega
  omega
theorem cntU_step (s : ByteArray) {k : Nat} (h : k < tab.length) : cntU s (k + 1) = cntU s k + (if tab[k].nm = s then 1 else 0) := by
  unfold cntU
  rw [← List.take_append_getElem h, List.countP_append]
  simp [List.countP_cons]
theorem cntU_yes {s : ByteArray} {k : Nat} (h : k < tab.length) (e : tab[k].nm = s) : cntU s (k + 1) = cntU s k + 1 := by rw [cntU_step s h, if_pos e]
theorem cntU_no {s : ByteArray} {k : Nat} (h : k < tab.length) (e : ¬ tab[k].nm = s) : cntU s (k + 1) = cntU s k := by rw [cntU_step s h, if_neg e]; rfl
theorem cntU_one : ∀ u ∈ tab, cntU u.nm 25 = 1 := by
  have h : tab.all (fun u => decide (cntU u.nm 25 = 1)) = true := by decide +kernel
  intro u hu
  have := List.all_eq_true.1 h u hu
  simpa using this
theorem cntU_is {s : ByteArray} (h : isU s = true) : cntU s 25 = 1 := by
  unfold isU at h
  rw [List.any_eq_true] at h
  obtain ⟨u, hu, e⟩ := h
  have e' : u.nm = s := by simpa using e
  rw [← e']; exact cntU_one u hu
theorem cntU_none {s : ByteArray} (h : isU s = false) : cntU s 25 = 0 := by
  unfold isU at h
  rw [List.any_eq_false] at h
  unfold cntU
  rw [List.countP_eq_zero]
  intro u hu
  have := h u (List.mem_of_mem_take hu)
  simpa using this
end Go.Proofs.Ytbojdlagacanoaa
