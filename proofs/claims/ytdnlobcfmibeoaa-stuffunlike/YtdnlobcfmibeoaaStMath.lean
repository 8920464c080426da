/-
  Bytes that are stuffed, plainly: there, back, what has no start, what is as long (layer 11). No function of a program is named here. No conditions but those that each says.
-/
import Derived.Test.YtdnlobcfmibeoaaBytesKit
namespace Go.Proofs.Ytdnlobcfmibeoaa
set_option linter.unusedVariables false

/-- a byte, stuffed -/
def stuB (s e x b : Nat) : List Nat := if b = s ∨ b = e then [e, b ^^^ x] else [b]
def stuL (s e x : Nat) : List Nat → List Nat
  | [] => []
  | b :: bs => stuB s e x b ++ stuL s e x bs
/-- up to the first start: the bytes; does an escape stand open? -/
def unsL (s e x : Nat) : List Nat → List Nat × Bool
  | [] => ([], false)
  | [b] => if b = s then ([], false) else if b = e then ([], true) else ([b], false)
  | b :: c :: cs =>
    if b = s then ([], false)
    else if b = e then (if c = s then ([], true) else ((c ^^^ x) :: (unsL s e x cs).1, (unsL s e x cs).2))
    else (b :: (unsL s e x (c :: cs)).1, (unsL s e x (c :: cs)).2)
/-- what Unstuff answers -/
def unsM (s e x : Nat) (bs : List Nat) : List Nat × Nat := if s ∈ bs then ([], 10) else if (unsL s e x bs).2 = true then ([], 6) else ((unsL s e x bs).1, 0)
structure StuR (s e x : Nat) : Prop where
  se : ¬ s = e
  sx : ¬ s ^^^ x = s
  ex : ¬ e ^^^ x = s
theorem stu_app (s e x : Nat) (a b : List Nat) : stuL s e x (a ++ b) = stuL s e x a ++ stuL s e x b := by
  induction a with
  | nil => rfl
  | cons c a ih => rw [List.cons_append, stuL, stuL, ih, List.append_assoc]
theorem stu_snoc (s e x : Nat) (a : List Nat) (b : Nat) : stuL s e x (a ++ [b]) = stuL s e x a ++ stuB s e x b := by
  rw [stu_app]
  show _ = _
  simp [stuL]
theorem stu_len (s e x : Nat) (bs : List Nat) : (stuL s e x bs).length = bs.length + bs.countP (fun b => decide (b = s ∨ b = e)) := by
  induction bs with
  | nil => rfl
  | cons b bs ih =>
    rw [stuL, List.length_append, ih, List.length_cons]
    unfold stuB
    by_cases h : b = s ∨ b = e
    · have k1 : List.countP (fun b => decide (b = s ∨ b = e)) (b :: bs) = List.countP (fun b => decide (b = s ∨ b = e)) bs + 1 := List.countP_cons_of_pos (decide_eq_true h)
      rw [if_pos h, k1]
      simp only [List.length_cons, List.length_nil]
      omega
    · have k1 : List.countP (fun b => decide (b = s ∨ b = e)) (b :: bs) = List.countP (fun b => decide (b = s ∨ b = e)) bs := List.countP_cons_of_neg (by rw [decide_eq_false h]; simp)
      rw [if_neg h, k1]
      simp only [List.length_cons, List.length_nil]
      omega
theorem stu_most (s e x : Nat) (bs : List Nat) : bs.length ≤ (stuL s e x bs).length ∧ (stuL s e x bs).length ≤ 2 * bs.length := by
  rw [stu_len]
  have := List.countP_le_length (p := fun b => decide (b = s ∨ b = e)) (l := bs)
  omega
theorem stu_no {s e x : Nat} (h : StuR s e x) (bs : List Nat) : s ∉ stuL s e x bs := by
  induction bs with
  | nil => intro hm; cases hm
  | cons b bs ih =>
    intro hm
    rw [stuL] at hm
    rcases List.mem_append.1 hm with hm | hm
    · unfold stuB at hm
      split at hm
      · rename_i hb
        simp only [List.mem_cons, List.not_mem_nil, or_false] at hm
        rcases hm with h1 | h1
        · exact h.se h1
        · rcases hb with hb | hb
          · rw [hb] at h1; exact h.sx h1.symm
          · rw [hb] at h1; exact h.ex h1.symm
      · rename_i hb
        simp only [List.mem_cons, List.not_mem_nil, or_false] at hm
        exact hb (.inl hm.symm)
    · exact ih hm
theorem uns_esc {s e x : Nat} (h : ¬ s = e) {c : Nat} (hc : ¬ c = s) (r : List Nat) : unsL s e x (e :: c :: r) = ((c ^^^ x) :: (unsL s e x r).1, (unsL s e x r).2) := by
  rw [unsL, if_neg (fun k => h k.symm), if_pos rfl, if_neg hc]
theorem uns_one {s e x : Nat} {b : Nat} (h1 : ¬ b = s) (h2 : ¬ b = e) (r : List Nat) : unsL s e x (b :: r) = (b :: (unsL s e x r).1, (unsL s e x r).2) := by
  cases r with
  | nil =>
    rw [show unsL s e x [b] = (if b = s then ([], false) else if b = e then ([], true) else ([b], false)) from rfl, if_neg h1, if_neg h2]
    rfl
  | cons c r => rw [unsL, if_neg h1, if_neg h2]
theorem uns_start {s e x : Nat} (r : List Nat) : unsL s e x (s :: r) = ([], false) := by
  cases r with
  | nil => rw [unsL, if_pos rfl]
  | cons c r => rw [unsL, if_pos rfl]
theorem xor_back (b x : Nat) : (b ^^^ x) ^^^ x = b := by rw [Nat.xor_assoc, Nat.xor_self, Nat.xor_zero]
/-- what is stuffed, whatever stands behind it, is read as it was -/
theorem uns_stu {s e x : Nat} (h : StuR s e x) (a r : List Nat) : unsL s e x (stuL s e x a ++ r) = (a ++ (unsL s e x r).1, (unsL s e x r).2) := by
  induction a with
  | nil => rfl
  | cons b a ih =>
    rw [stuL]
    unfold stuB
    by_cases hb : b = s ∨ b = e
    · have hx : ¬ b ^^^ x = s := by
        rcases hb with rfl | rfl
        · exact h.sx
        · exact h.ex
      rw [if_pos hb]
      show unsL s e x (e :: (b ^^^ x) :: (stuL s e x a ++ r)) = _
      rw [uns_esc h.se hx, ih, xor_back]
      rfl
    · rw [if_neg hb]
      show unsL s e x (b :: (stuL s e x a ++ r)) = _
      rw [uns_one (fun k => hb (.inl k)) (fun k => hb (.inr k)), ih]
      rfl
theorem stu_back {s e x : Nat} (h : StuR s e x) (bs : List Nat) : unsL s e x (stuL s e x bs) = (bs, false) := by
  have k := uns_stu h bs []
  rw [List.append_nil] at k
  rw [k]
  show (bs ++ [], false) = _
  rw [List.append_nil]
theorem uns_back {s e x : Nat} (h : StuR s e x) (bs : List Nat) : unsM s e x (stuL s e x bs) = (bs, 0) := by
  unfold unsM
  rw [if_neg (stu_no h bs), stu_back h bs]
  rfl
theorem stu_inj {s e x : Nat} (h : StuR s e x) {a b : List Nat} (k : stuL s e x a = stuL s e x b) : a = b := by
  have e1 := stu_back h a
  rw [k, stu_back h b] at e1
  injection e1 with e1
  exact e1.symm
/-- of as many bytes none is stuffed to the beginning of what the others are -/
theorem stu_prefix {s e x : Nat} (h : StuR s e x) {a b r : List Nat} (hl : a.length = b.length) (k : stuL s e x b = stuL s e x a ++ r) : r = [] := by
  have e1 := uns_stu h a r
  rw [← k, stu_back h b] at e1
  injection e1 with e2 e3
  have e4 : (unsL s e x r).1 = [] := by
    have h1 := congrArg List.length e2
    rw [List.length_append] at h1
    exact List.length_eq_zero_iff.1 (by omega)
  have hn : s ∉ r := fun hm => stu_no h b (by rw [k]; exact List.mem_append_right _ hm)
  cases r with
  | nil => rfl
  | cons c r =>
    have hc : ¬ c = s := fun e => hn (by rw [e]; simp)
    by_cases he : c = e
    · subst he
      cases r with
      | nil =>
        rw [unsL, if_neg hc, if_pos rfl] at e3
        cases e3
      | cons d r =>
        have hd : ¬ d = s := fun e => hn (by rw [e]; simp)
        rw [uns_esc (fun e => hc e.symm) hd] at e4
        cases e4
    · rw [uns_one hc he] at e4
      cases e4
end Go.Proofs.Ytdnlobcfmibeoaa
