/-
  Stuffed bytes, one by one, plainly: what is handed on, and what Unstuff answers of it (layer 11). No function of a program is named here. No conditions but those that each says.
-/
import Derived.Test.YtdnlobcfmibeoaaStMath
namespace Go.Proofs.Ytdnlobcfmibeoaa
set_option linter.unusedVariables false

/-- what is handed on: a byte, and what is wrong (0: nothing) -/
def unsW (s e x : Nat) : Bool → List Nat → List (Nat × Nat)
  | esc, [] => if esc then [(0, 6)] else []
  | esc, b :: bs => if b = s then [(0, 10)] else if b = e ∧ esc = false then unsW s e x true bs else (if esc then b ^^^ x else b, 0) :: unsW s e x false bs
theorem unsW_start (s e x : Nat) (esc : Bool) (bs : List Nat) : unsW s e x esc (s :: bs) = [(0, 10)] := by rw [unsW, if_pos rfl]
theorem unsW_esc (s e x : Nat) {b : Nat} (h1 : ¬ b = s) (h2 : b = e) (bs : List Nat) : unsW s e x false (b :: bs) = unsW s e x true bs := by rw [unsW, if_neg h1, if_pos ⟨h2, rfl⟩]
theorem unsW_two (s e x : Nat) {b : Nat} (h1 : ¬ b = s) (bs : List Nat) : unsW s e x true (b :: bs) = (b ^^^ x, 0) :: unsW s e x false bs := by
  rw [unsW, if_neg h1, if_neg (fun h => by cases h.2)]; rfl
theorem unsW_one (s e x : Nat) {b : Nat} (h1 : ¬ b = s) (h2 : ¬ b = e) (bs : List Nat) : unsW s e x false (b :: bs) = (b, 0) :: unsW s e x false bs := by
  rw [unsW, if_neg h1, if_neg (fun h => h2 h.1)]; rfl
theorem unsW_clash {s : Nat} (e x : Nat) : ∀ (bs : List Nat) (esc : Bool), s ∈ bs → ∃ oks : List Nat, unsW s e x esc bs = oks.map (fun v => (v, 0)) ++ [(0, 10)]
  | [], _, h => by cases h
  | b :: bs, esc, h => by
    by_cases hb : b = s
    · subst hb; exact ⟨[], by rw [unsW_start]; rfl⟩
    · have hm : s ∈ bs := by
        rcases List.mem_cons.1 h with e' | e'
        · exact absurd e'.symm hb
        · exact e'
      rw [unsW, if_neg hb]
      split
      · exact unsW_clash e x bs true hm
      · obtain ⟨oks, ho⟩ := unsW_clash e x bs false hm
        exact ⟨_ :: oks, by rw [ho]; rfl⟩
theorem unsW_no {s : Nat} (e x : Nat) : ∀ (n : Nat) (bs : List Nat), bs.length ≤ n → s ∉ bs → unsW s e x false bs = (unsL s e x bs).1.map (fun v => (v, 0)) ++ (if (unsL s e x bs).2 = true then [(0, 6)] else []) := by
  intro n
  induction n with
  | zero =>
    intro bs h _
    rw [List.length_eq_zero_iff.1 (Nat.le_zero.1 h)]; rfl
  | succ n ih =>
    intro bs h hs
    match bs, h, hs with
    | [], _, _ => rfl
    | [b], _, hs =>
      have hb : ¬ b = s := fun k => hs (by rw [k]; simp)
      by_cases he : b = e
      · rw [unsW_esc s e x hb he, show unsL s e x [b] = (if b = s then ([], false) else if b = e then ([], true) else ([b], false)) from rfl, if_neg hb, if_pos he]; rfl
      · rw [unsW_one s e x hb he, uns_one hb he]; rfl
    | b :: c :: cs, h, hs =>
      have hb : ¬ b = s := fun k => hs (by rw [k]; simp)
      have hc : ¬ c = s := fun k => hs (by rw [k]; simp)
      simp only [List.length_cons] at h
      by_cases he : b = e
      · have k := ih cs (by omega) (fun m => hs (List.mem_cons_of_mem _ (List.mem_cons_of_mem _ m)))
        subst he
        rw [unsW_esc s b x hb rfl, unsW_two s b x hc, uns_esc (fun q => hb q.symm) hc, k]; rfl
      · have k := ih (c :: cs) (by simp only [List.length_cons]; omega) (fun m => hs (List.mem_cons_of_mem _ m))
        rw [unsW_one s e x hb he, uns_one hb he, k]; rfl
/-- what Unstuff answers, of what is handed on -/
theorem uns_tell (s e x : Nat) (bs : List Nat) : (∃ l : List Nat, unsW s e x false bs = l.map (fun v => (v, 0)) ∧ unsM s e x bs = (l, 0)) ∨ (∃ (oks : List Nat) (k : Nat), ¬ k = 0 ∧ unsW s e x false bs = oks.map (fun v => (v, 0)) ++ [(0, k)] ∧ unsM s e x bs = ([], k)) := by
  unfold unsM
  by_cases h : s ∈ bs
  · obtain ⟨oks, ho⟩ := unsW_clash e x bs false h
    rw [if_pos h]
    exact .inr ⟨oks, 10, by decide, ho, rfl⟩
  · have k := unsW_no e x bs.length bs (Nat.le_refl _) h
    rw [if_neg h]
    cases h2 : (unsL s e x bs).2 with
    | true =>
      rw [h2, if_pos rfl] at k
      rw [if_pos rfl]
      exact .inr ⟨_, 6, by decide, k, rfl⟩
    | false =>
      rw [h2, if_neg (by decide), List.append_nil] at k
      rw [if_neg (by decide)]
      exact .inl ⟨_, k, rfl⟩
theorem unsM_err (s e x : Nat) (bs : List Nat) : (unsM s e x bs).2 ≤ 10 := by
  unfold unsM
  split
  · exact Nat.le_refl _
  · split
    · show 6 ≤ 10; omega
    · show 0 ≤ 10; omega
theorem unsW_len (s e x : Nat) : ∀ (bs : List Nat) (esc : Bool), (unsW s e x esc bs).length ≤ bs.length + 1
  | [], esc => by cases esc <;> simp [unsW]
  | b :: bs, esc => by
    rw [unsW]
    split
    · simp
    · split
      · have := unsW_len s e x bs true; simp only [List.length_cons]; omega
      · have := unsW_len s e x bs false; simp only [List.length_cons]; omega
theorem unsW_small {s e x : Nat} (hx : x < 256) : ∀ (bs : List Nat) (esc : Bool), AllBytes bs → ∀ u ∈ unsW s e x esc bs, u.1 < 256 ∧ u.2 ≤ 10
  | [], esc, _, u, hu => by
    cases esc
    · cases hu
    · rw [unsW, if_pos rfl, List.mem_singleton] at hu; subst hu; exact ⟨by decide, by decide⟩
  | b :: bs, esc, hb, u, hu => by
    have h1 : AllBytes bs := fun c hc => hb c (List.mem_cons_of_mem _ hc)
    have h2 : b < 256 := hb b (by simp)
    rw [unsW] at hu
    split at hu
    · rw [List.mem_singleton] at hu; subst hu; exact ⟨by decide, by decide⟩
    · split at hu
      · exact unsW_small hx bs true h1 u hu
      · rcases List.mem_cons.1 hu with e | e
        · subst e
          refine ⟨?_, Nat.zero_le _⟩
          cases esc
          · exact h2
          · exact Nat.xor_lt_two_pow (n := 8) h2 hx
        · exact unsW_small hx bs false h1 u e
end Go.Proofs.Ytdnlobcfmibeoaa
