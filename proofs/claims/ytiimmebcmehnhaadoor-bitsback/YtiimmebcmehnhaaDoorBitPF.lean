/-
  What bytes come to, place by place, is what the document reads of them (layer 6), plainly. No conditions but those that each says.
-/
import Derived.Test.YtiimmebcmehnhaaDoorBitPD
namespace Go.Proofs.YtiimmebcmehnhaaDoor
open Go.RowKit Go.Shelf
set_option linter.unusedVariables false

def tS (k B : Nat) (bs : List Nat) (n : Nat) : Int := sumP k B bs (List.finRange n)
theorem sum_mulL {α : Type} (b : Int) (f : α → Int) : ∀ l : List α, (l.map fun x => b * f x).sum = b * (l.map f).sum
  | [] => by simp
  | x :: l => by simp only [List.map_cons, List.sum_cons]; rw [sum_mulL b f l, Int.mul_add]
theorem tS_step {k B n c : Nat} {bs cs : List Nat} (h0 : byP k cs 0 = c) (h : ∀ x, x < n → byP k cs (x + 1) = byP k bs x) : tS k B cs (n + 1) = cntV k c + (B : Int) * tS k B bs n := by
  unfold tS sumP
  rw [List.finRange_succ, List.map_cons, List.sum_cons, List.map_map]
  have e1 : termP k B cs (0 : Fin (n + 1)).1 = cntV k c := by
    show cntV k (byP k cs 0) * ((B ^ 0 : Nat) : Int) = cntV k c
    rw [h0, Nat.pow_zero]; simp
  have e2 : ((fun x : Fin (n + 1) => termP k B cs x.1) ∘ Fin.succ) = fun x : Fin n => (B : Int) * termP k B bs x.1 := by
    funext x
    show cntV k (byP k cs (x.1 + 1)) * ((B ^ (x.1 + 1) : Nat) : Int) = (B : Int) * (cntV k (byP k bs x.1) * ((B ^ x.1 : Nat) : Int))
    rw [h x.1 x.2, Nat.pow_succ, Int.natCast_mul]
    generalize cntV k (byP k bs x.1) = a
    generalize ((B ^ x.1 : Nat) : Int) = b
    rw [Int.mul_left_comm (B : Int) a b, Int.mul_comm (B : Int) b]
  rw [e1, e2, sum_mulL]
theorem getD_left (bs : List Nat) (c : Nat) {i : Nat} (h : i < bs.length) : (bs ++ [c]).getD i 0 = bs.getD i 0 := by
  rw [List.getD_eq_getElem?_getD, List.getD_eq_getElem?_getD, List.getElem?_append_left h]
theorem getD_last (bs : List Nat) (c : Nat) : (bs ++ [c]).getD bs.length 0 = c := by
  rw [List.getD_eq_getElem?_getD, List.getElem?_append_right (Nat.le_refl _)]; simp
theorem tS_snoc {k B : Nat} (hk : ¬ (k = 1 ∨ k = 3)) (bs : List Nat) (c : Nat) : tS k B (bs ++ [c]) (bs.length + 1) = cntV k c + (B : Int) * tS k B bs bs.length := by
  refine tS_step ?_ ?_
  · unfold byP atP
    rw [if_neg hk, List.length_append, List.length_singleton, show bs.length + 1 - 1 - 0 = bs.length by omega]
    exact getD_last bs c
  · intro x hx
    unfold byP atP
    rw [if_neg hk, if_neg hk, List.length_append, List.length_singleton, show bs.length + 1 - 1 - (x + 1) = bs.length - 1 - x by omega]
    exact getD_left bs c (by omega)
theorem tS_cons {k B : Nat} (hk : k = 1 ∨ k = 3) (bs : List Nat) (c : Nat) : tS k B (c :: bs) (bs.length + 1) = cntV k c + (B : Int) * tS k B bs bs.length := by
  refine tS_step ?_ ?_
  · unfold byP atP; rw [if_pos hk]; rfl
  · intro x hx
    unfold byP atP; rw [if_pos hk, if_pos hk]; rfl
theorem cnt_plain {k : Nat} (h4 : k ≠ 4) (h5 : k ≠ 5) (c : Nat) : cntV k c = (c : Int) ∧ cntB k c = true := by
  unfold cntV cntB; rw [if_neg h4, if_neg h5, if_neg h4, if_neg h5]; exact ⟨rfl, rfl⟩
theorem ok_plain {k : Nat} (h4 : k ≠ 4) (h5 : k ≠ 5) (bs : List Nat) : okAll k bs = true := by
  unfold okAll; rw [List.all_eq_true]; intro c _; exact (cnt_plain h4 h5 c).2
theorem tot_big {k : Nat} (h4 : k ≠ 4) (h5 : k ≠ 5) (hk : ¬ (k = 1 ∨ k = 3)) (bs : List Nat) : totN k 256 bs = ((beN bs : Nat) : Int) := by
  have e : tS k 256 bs bs.length = ((beN bs : Nat) : Int) := by
    induction bs using snoc_ind with
    | h0 => rfl
    | h1 bs c ih =>
      rw [List.length_append, List.length_singleton, tS_snoc hk, ih, beN_snoc, (cnt_plain h4 h5 c).1]
      omega
  unfold totN; rw [if_pos (ok_plain h4 h5 bs)]; exact e
theorem tot_little {k : Nat} (h4 : k ≠ 4) (h5 : k ≠ 5) (hk : k = 1 ∨ k = 3) (bs : List Nat) : totN k 256 bs = ((beN bs.reverse : Nat) : Int) := by
  have e : tS k 256 bs bs.length = ((beN bs.reverse : Nat) : Int) := by
    induction bs with
    | nil => rfl
    | cons c bs ih =>
      rw [List.length_cons, tS_cons hk, ih, List.reverse_cons, beN_snoc, (cnt_plain h4 h5 c).1]
      omega
  unfold totN; rw [if_pos (ok_plain h4 h5 bs)]; exact e
theorem ok_snoc (k : Nat) (bs : List Nat) (c : Nat) : okAll k (bs ++ [c]) = (okAll k bs && cntB k c) := by unfold okAll; rw [List.all_append]; simp
theorem bcd_sum (bs : List Nat) : bcdO bs = if okAll 4 bs = true then some (tS 4 100 bs bs.length).toNat else none := by
  have key : (okAll 4 bs = true → ∃ v : Nat, bcdO bs = some v ∧ tS 4 100 bs bs.length = (v : Int)) ∧ (okAll 4 bs = false → bcdO bs = none) := by
    induction bs using snoc_ind with
    | h0 => exact ⟨fun _ => ⟨0, rfl, rfl⟩, fun h => by cases h⟩
    | h1 bs c ih =>
      rw [ok_snoc, bcdO_snoc, List.length_append, List.length_singleton, tS_snoc (by omega)]
      refine ⟨fun h => ?_, fun h => ?_⟩
      · rw [Bool.and_eq_true] at h
        obtain ⟨v, e1, e2⟩ := ih.1 h.1
        have hc : c / 16 ≤ 9 ∧ c % 16 ≤ 9 := of_decide_eq_true h.2
        refine ⟨100 * v + c / 16 * 10 + c % 16, ?_, ?_⟩
        · rw [e1]; unfold bcdS; simp only; rw [if_pos hc]
        · rw [e2]; show ((c / 16 * 10 + c % 16 : Nat) : Int) + _ = _; omega
      · cases hb : okAll 4 bs with
        | false => rw [ih.2 hb]; rfl
        | true =>
          rw [hb] at h
          have hc : ¬ (c / 16 ≤ 9 ∧ c % 16 ≤ 9) := of_decide_eq_false (by rw [Bool.true_and] at h; exact h)
          obtain ⟨v, e1, _⟩ := ih.1 hb
          rw [e1]; unfold bcdS; simp only; rw [if_neg hc]
  cases h : okAll 4 bs with
  | true => obtain ⟨v, e1, e2⟩ := key.1 h; rw [if_pos rfl, e1, e2]; rfl
  | false => rw [if_neg (by decide)]; exact key.2 h
theorem tS_nn4 (bs : List Nat) (h : okAll 4 bs = true) : 0 ≤ tS 4 100 bs bs.length := by
  induction bs using snoc_ind with
  | h0 => exact Int.le_refl _
  | h1 bs c ih =>
    rw [ok_snoc, Bool.and_eq_true] at h
    rw [List.length_append, List.length_singleton, tS_snoc (by omega)]
    have := ih h.1
    have e : cntV 4 c = ((c / 16 * 10 + c % 16 : Nat) : Int) := rfl
    rw [e]; omega
theorem dig_sum (bs : List Nat) : (okAll 5 bs = true → ∃ v : Nat, digF bs = some v ∧ totN 5 10 bs = (v : Int)) ∧ (okAll 5 bs = false → digF bs = none) := by
  have key : (okAll 5 bs = true → ∃ v : Nat, digF bs = some v ∧ tS 5 10 bs bs.length = (v : Int)) ∧ (okAll 5 bs = false → digF bs = none) := by
    induction bs using snoc_ind with
    | h0 => exact ⟨fun _ => ⟨0, rfl, rfl⟩, fun h => by cases h⟩
    | h1 bs c ih =>
      rw [ok_snoc, digF_snoc, List.length_append, List.length_singleton, tS_snoc (by omega)]
      refine ⟨fun h => ?_, fun h => ?_⟩
      · rw [Bool.and_eq_true] at h
        obtain ⟨v, e1, e2⟩ := ih.1 h.1
        have hc : 48 ≤ c ∧ c ≤ 57 := of_decide_eq_true h.2
        refine ⟨10 * v + (c - 48), ?_, ?_⟩
        · rw [e1]; unfold decS; simp only; rw [if_pos hc]
        · rw [e2]; show (c : Int) - 48 + _ = _; omega
      · cases hb : okAll 5 bs with
        | false => rw [ih.2 hb]; rfl
        | true =>
          rw [hb] at h
          have hc : ¬ (48 ≤ c ∧ c ≤ 57) := of_decide_eq_false (by rw [Bool.true_and] at h; exact h)
          obtain ⟨v, e1, _⟩ := ih.1 hb
          rw [e1]; unfold decS; simp only; rw [if_neg hc]
  refine ⟨fun h => ?_, key.2⟩
  obtain ⟨v, e1, e2⟩ := key.1 h
  exact ⟨v, e1, by unfold totN; rw [if_pos h]; exact e2⟩
theorem bcd_tot (bs : List Nat) : (okAll 4 bs = true → ∃ v : Nat, bcdO bs = some v ∧ totN 4 100 bs = (v : Int)) ∧ (okAll 4 bs = false → bcdO bs = none) := by
  refine ⟨fun h => ⟨_, by rw [bcd_sum, if_pos h], ?_⟩, fun h => by rw [bcd_sum, h]; rfl⟩
  have := tS_nn4 bs h
  unfold totN; rw [if_pos h]
  show tS 4 100 bs bs.length = _
  omega
theorem tot_no {k B : Nat} {bs : List Nat} (h : okAll k bs = false) : totN k B bs = 0 := by unfold totN; rw [h]; rfl
end Go.Proofs.YtiimmebcmehnhaaDoor
