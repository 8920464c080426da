/-
  What frames end with, plainly: sums, mixtures, Fletcher's sum, a number's bytes; the endings kind by kind (layer 5). No conditions but those that each says.
-/
import Derived.Test.YtoocppfdcalmfaaCrcOpen
namespace Go.Proofs.Ytoocppfdcalmfaa
open Go.RowKit
set_option linter.unusedVariables false

/-! sums -/
def totN (bs : List Nat) : Nat := bs.foldl (fun a c => a + c) 0
def mixB (bs : List Nat) : Nat := bs.foldl (fun a c => a ^^^ c) 0
/-- the sum of the sums behind each byte -/
def secN (bs : List Nat) : Nat × Nat := bs.foldl (fun a c => (a.1 + c, a.2 + (a.1 + c))) (0, 0)
theorem totN_snoc (bs : List Nat) (c : Nat) : totN (bs ++ [c]) = totN bs + c := by simp [totN]
theorem mixB_snoc (bs : List Nat) (c : Nat) : mixB (bs ++ [c]) = mixB bs ^^^ c := by simp [mixB]
theorem secN_snoc (bs : List Nat) (c : Nat) : secN (bs ++ [c]) = ((secN bs).1 + c, (secN bs).2 + ((secN bs).1 + c)) := by simp [secN]
theorem snoc_ind {P : List Nat → Prop} (h0 : P []) (h1 : ∀ bs c, P bs → P (bs ++ [c])) : ∀ bs, P bs := by
  intro bs
  have k : ∀ n, ∀ l : List Nat, l.length = n → P l := by
    intro n
    induction n with
    | zero => intro l h; rw [List.length_eq_zero_iff.1 h]; exact h0
    | succ n ih =>
      intro l h
      have e : l = l.dropLast ++ [l.getLast (by intro e; rw [e] at h; cases h)] := (List.dropLast_concat_getLast _).symm
      rw [e]
      exact h1 _ _ (ih _ (by simp [h]))
  exact k _ bs rfl
theorem secN_one (bs : List Nat) : (secN bs).1 = totN bs := by
  induction bs using snoc_ind with
  | h0 => rfl
  | h1 bs c ih => rw [secN_snoc, totN_snoc, ih]
theorem tot_le {bs : List Nat} (h : AllBytes bs) : totN bs ≤ 255 * bs.length := by
  induction bs using snoc_ind with
  | h0 => exact Nat.le_refl _
  | h1 bs c ih =>
    have h1 := ih (fun x hx => h x (by simp [hx]))
    have h2 := h c (by simp)
    rw [totN_snoc, List.length_append, List.length_singleton]
    omega
theorem sec_le {bs : List Nat} (h : AllBytes bs) : (secN bs).2 ≤ 255 * bs.length * bs.length := by
  induction bs using snoc_ind with
  | h0 => exact Nat.le_refl _
  | h1 bs c ih =>
    have hp : AllBytes bs := fun x hx => h x (by simp [hx])
    have h1 := ih hp
    have h2 := h c (by simp)
    have h3 := tot_le hp
    rw [secN_snoc, List.length_append, List.length_singleton]
    simp only
    rw [secN_one]
    generalize bs.length = n at *
    have e : 255 * (n + 1) * (n + 1) = 255 * n * n + 255 * n + 255 * n + 255 := by grind
    omega
theorem mix_lt {bs : List Nat} (h : AllBytes bs) : mixB bs < 256 := by
  induction bs using snoc_ind with
  | h0 => decide
  | h1 bs c ih =>
    rw [mixB_snoc]
    exact Nat.xor_lt_two_pow (n := 8) (ih (fun x hx => h x (by simp [hx]))) (h c (by simp))
theorem take_snoc (bs : List Nat) {k : Nat} (h : k < bs.length) : bs.take (k + 1) = bs.take k ++ [bs[k]] := (List.take_append_getElem h).symm
theorem take_bytes {bs : List Nat} (h : AllBytes bs) (k : Nat) : AllBytes (bs.take k) := fun x hx => h x (List.mem_of_mem_take hx)

/-! a number's bytes, the highest first -/
def bigL (v : Nat) : Nat → List Nat
  | 0 => []
  | n + 1 => bigL (v / 256) n ++ [v % 256]
theorem bigL_len (n : Nat) : ∀ v, (bigL v n).length = n := by
  induction n with
  | zero => intro v; rfl
  | succ n ih => intro v; simp [bigL, ih]
theorem bigL_cons (n : Nat) : ∀ v, bigL v (n + 1) = (v / 256 ^ n % 256) :: bigL v n := by
  induction n with
  | zero => intro v; simp [bigL]
  | succ n ih =>
    intro v
    rw [bigL, ih]
    conv => rhs; rw [bigL]
    rw [List.cons_append, Nat.div_div_eq_div_mul, Nat.pow_succ, Nat.mul_comm 256]
theorem bigL_bytes (n : Nat) : ∀ v, AllBytes (bigL v n) := by
  induction n with
  | zero => intro v c hc; cases hc
  | succ n ih =>
    intro v c hc
    rw [bigL] at hc
    rcases List.mem_append.1 hc with h | h
    · exact ih _ c h
    · rw [List.mem_singleton] at h; omega
/-- unlike numbers have unlike bytes -/
theorem bigL_inj (n : Nat) : ∀ {u v : Nat}, u < 256 ^ n → v < 256 ^ n → bigL u n = bigL v n → u = v := by
  induction n with
  | zero => intro u v hu hv _; simp at hu hv; omega
  | succ n ih =>
    intro u v hu hv e
    rw [bigL, bigL] at e
    obtain ⟨e1, e2⟩ := List.append_inj e (by rw [bigL_len, bigL_len])
    rw [Nat.pow_succ] at hu hv
    have k := ih (by omega) (by omega) e1
    have e3 : u % 256 = v % 256 := by simpa using e2
    omega
end Go.Proofs.Ytoocppfdcalmfaa
