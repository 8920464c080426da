/-
  Texts that belong together, one behind the other: LexPS. Conditions: as each says.
-/
import Derived.Lib.Fields
import Derived.Test.YtagkgneijdbkoaaDoorJn13
/-
  A text's lines, one behind the other, and what comes of each: the same as byte by byte (layer 7). No function of a program is named here. No conditions but those that each says.
-/
namespace Go.Proofs.YtagkgneijdbkoaaDoor
open Go.RowKit
set_option linter.unusedVariables false

/-- the lines -/
def linesL : List UInt8 → List Wd
  | [] => [[]]
  | c :: r => if c = 10 then [] :: linesL r else (match linesL r with | [] => [ [c] ] | h :: t => (c :: h) :: t)
theorem lines_ne : ∀ l : List UInt8, ¬ linesL l = []
  | [] => by simp [linesL]
  | c :: r => by
    unfold linesL
    split
    · simp
    · split <;> simp
theorem lines_none : ∀ (l : List UInt8), 10 ∉ l → linesL l = [l]
  | [], _ => rfl
  | c :: r, h => by
    rw [linesL, if_neg (fun e => h (by rw [e]; simp)), lines_none r (fun e => h (List.mem_cons_of_mem _ e))]
theorem lines_cut : ∀ (a b : List UInt8), 10 ∉ a → linesL (a ++ 10 :: b) = a :: linesL b
  | [], b, _ => by rw [List.nil_append, linesL, if_pos rfl]
  | c :: r, b, h => by
    rw [List.cons_append, linesL, if_neg (fun e => h (by rw [e]; simp)), lines_cut r b (fun e => h (List.mem_cons_of_mem _ e))]
theorem lines_len : ∀ l : List UInt8, (linesL l).length ≤ l.length + 1
  | [] => Nat.le_refl _
  | c :: r => by
    have ih := lines_len r
    rw [linesL]
    split
    · simpa using ih
    · split
      · simp
      · rename_i h t e
        rw [e] at ih
        simp at ih ⊢
        omega
theorem lines_in : ∀ (l : List UInt8), ∀ r ∈ linesL l, 10 ∉ r ∧ r.length ≤ l.length
  | [], r, h => by
    simp [linesL] at h
    subst h
    simp
  | c :: l, r, h => by
    have ih := lines_in l
    rw [linesL] at h
    split at h
    · rcases List.mem_cons.1 h with h | h
      · subst h; simp
      · obtain ⟨h1, h2⟩ := ih r h
        exact ⟨h1, by simp; omega⟩
    · rename_i hc
      split at h
      · simp at h
        subst h
        exact ⟨by simp; exact fun e => hc e.symm, by simp⟩
      · rename_i a t e
        rw [e] at ih
        rcases List.mem_cons.1 h with h | h
        · subst h
          obtain ⟨h1, h2⟩ := ih a (by simp)
          refine ⟨?_, by simp; omega⟩
          intro hm
          rcases List.mem_cons.1 hm with hm | hm
          · exact hc hm.symm
          · exact h1 hm
        · obtain ⟨h1, h2⟩ := ih r (List.mem_cons_of_mem _ h)
          exact ⟨h1, by simp; omega⟩
/-- a byte that may stand in a line; a line of such bytes -/
def priC (c : UInt8) : Bool := decide (32 ≤ c.toNat ∧ c.toNat ≤ 126)
def priB (l : List UInt8) : Bool := l.all priC
theorem priB_stop {l : List UInt8} {k : Nat} (h : k < l.length) (hc : priC l[k] = false) : priB l = false := by
  unfold priB
  rw [List.all_eq_false]
  exact ⟨l[k], List.getElem_mem h, by rw [hc]; simp⟩
theorem priB_next {l : List UInt8} {k : Nat} (h : k < l.length) (ha : priB (l.take k) = true) (hc : priC l[k] = true) : priB (l.take (k + 1)) = true := by
  unfold priB at *
  rw [← List.take_append_getElem h, List.all_append, ha]
  simp [hc]
set_option maxRecDepth 100000 in
theorem pri_sp {c : UInt8} (h : priC c = true) : Lib.isSp c = (c == 32) := by
  have h1 := of_decide_eq_true h
  have key : ∀ n : Fin 256, 32 ≤ n.1 → Lib.isSp (UInt8.ofNat n.1) = (UInt8.ofNat n.1 == 32) := by decide
  have := key ⟨c.toNat, c.toNat_lt⟩ h1.1
  simpa using this
theorem pri_ne {c : UInt8} (h : priC c = true) : ¬ c = 10 := fun e => by subst e; simp [priC] at h
theorem flush_fields (ws : List Wd) (w : Wd) : flushW ws w = ws ++ Lib.fieldsGo w [] := by
  unfold flushW Lib.fieldsGo
  cases w <;> simp
/-- a line of such bytes, from somewhere in a word on -/
theorem scan_pri (l : Nat) : ∀ (r : List UInt8), priB r = true → ∀ ws w t, scanL l ws w (r ++ 10 :: t) = (scanL (l + 1) [] [] t).map (fun x => closeL l (ws ++ Lib.fieldsGo w r) ++ x)
  | [], _, ws, w, t => by rw [List.nil_append, scan_line, flush_fields]
  | c :: r, h, ws, w, t => by
    have hc : priC c = true := by unfold priB at h; simp at h; exact h.1
    have hr : priB r = true := by unfold priB at h ⊢; simp at h ⊢; exact h.2
    rw [List.cons_append]
    by_cases h2 : c = 32
    · subst h2
      rw [scan_blank, scan_pri l r hr, flush_fields]
      have e : ws ++ Lib.fieldsGo w [] ++ Lib.fieldsGo [] r = ws ++ Lib.fieldsGo w (32 :: r) := by
        rw [List.append_assoc]
        congr 1
        cases w <;> simp [Lib.fieldsGo, show Lib.isSp 32 = true from by decide]
      rw [e]
    · rw [scan_byte _ _ _ _ (pri_ne hc) h2 (of_decide_eq_true hc), scan_pri l r hr]
      have e : Lib.fieldsGo w (c :: r) = Lib.fieldsGo (w ++ [c]) r := Lib.fieldsGo_more _ _ _ (by rw [pri_sp hc]; simp [h2])
      rw [e]
theorem scan_pri_end (l : Nat) : ∀ (r : List UInt8), priB r = true → ∀ ws w, scanL l ws w r = .ok (closeL l (ws ++ Lib.fieldsGo w r))
  | [], _, ws, w => by rw [scan_end, flush_fields]
  | c :: r, h, ws, w => by
    have hc : priC c = true := by unfold priB at h; simp at h; exact h.1
    have hr : priB r = true := by unfold priB at h ⊢; simp at h ⊢; exact h.2
    by_cases h2 : c = 32
    · subst h2
      rw [scan_blank, scan_pri_end l r hr, flush_fields]
      have e : ws ++ Lib.fieldsGo w [] ++ Lib.fieldsGo [] r = ws ++ Lib.fieldsGo w (32 :: r) := by
        rw [List.append_assoc]
        congr 1
        cases w <;> simp [Lib.fieldsGo, show Lib.isSp 32 = true from by decide]
      rw [e]
    · rw [scan_byte _ _ _ _ (pri_ne hc) h2 (of_decide_eq_true hc), scan_pri_end l r hr]
      have e : Lib.fieldsGo w (c :: r) = Lib.fieldsGo (w ++ [c]) r := Lib.fieldsGo_more _ _ _ (by rw [pri_sp hc]; simp [h2])
      rw [e]
/-- a line with another byte -/
theorem scan_unpri (l : Nat) : ∀ (r : List UInt8), priB r = false → 10 ∉ r → ∀ ws w t, scanL l ws w (r ++ t) = .error l
  | [], h, _, ws, w, t => by cases h
  | c :: r, h, hn, ws, w, t => by
    have hn1 : ¬ c = 10 := fun e => hn (by rw [e]; simp)
    have hn2 : 10 ∉ r := fun e => hn (List.mem_cons_of_mem _ e)
    rw [List.cons_append]
    by_cases hc : priC c = true
    · have hr : priB r = false := by unfold priB at h ⊢; simpa [hc] using h
      by_cases h2 : c = 32
      · subst h2
        rw [scan_blank]
        exact scan_unpri l r hr hn2 _ _ _
      · rw [scan_byte _ _ _ _ hn1 h2 (of_decide_eq_true hc)]
        exact scan_unpri l r hr hn2 _ _ _
    · have h2 : ¬ c = 32 := fun e => by subst e; exact hc (by decide)
      exact scan_bad _ _ _ _ hn1 h2 (fun q => hc (decide_eq_true q))
/-- what comes of lines -/
def evalL (l : Nat) : List Wd → Except Nat (List Ln)
  | [] => .ok []
  | r :: rs => if priB r = true then (evalL (l + 1) rs).map (fun x => closeL l (Lib.fields r) ++ x) else .error l
theorem split_at (s : List UInt8) : 10 ∉ s ∨ ∃ a b, s = a ++ 10 :: b ∧ 10 ∉ a := by
  induction s with
  | nil => left; simp
  | cons c s ih =>
    by_cases hc : c = 10
    · right; exact ⟨[], s, by rw [hc]; rfl, by simp⟩
    · rcases ih with h | ⟨a, b, e, h⟩
      · left
        intro hm
        rcases List.mem_cons.1 hm with hm | hm
        · exact hc hm.symm
        · exact h hm
      · right
        refine ⟨c :: a, b, by rw [e]; rfl, fun hm => ?_⟩
        rcases List.mem_cons.1 hm with hm | hm
        · exact hc hm.symm
        · exact h hm
theorem eval_lines : ∀ (n : Nat) (s : List UInt8), s.length ≤ n → ∀ l, scanL l [] [] s = evalL l (linesL s) := by
  intro n
  induction n with
  | zero =>
    intro s hs l
    obtain rfl := List.length_eq_zero_iff.1 (Nat.le_zero.1 hs)
    rfl
  | succ n ih =>
    intro s hs l
    rcases split_at s with h | ⟨a, b, rfl, h⟩
    · rw [lines_none s h]
      unfold evalL
      by_cases hp : priB s = true
      · rw [if_pos hp, scan_pri_end l s hp]
        unfold evalL
        rw [map_ok, List.append_nil]
        rfl
      · rw [if_neg hp]
        have := scan_unpri l s (by simpa using hp) h [] [] []
        simpa using this
    · rw [lines_cut a b h]
      unfold evalL
      by_cases hp : priB a = true
      · rw [if_pos hp, scan_pri l a hp, ih b (by simp at hs; omega)]
        rfl
      · rw [if_neg hp, scan_unpri l a (by simpa using hp) h]
/-- lines by their numbers -/
def rowsF (Ls : List Wd) (l : Nat) (pre : List (Fin Ls.length)) : List Ln := pre.flatMap fun x => closeL (l + x.1) (Lib.fields Ls[x.1])
theorem rowsF_snoc (Ls : List Wd) (l : Nat) (pre : List (Fin Ls.length)) (x : Fin Ls.length) : rowsF Ls l (pre ++ [x]) = rowsF Ls l pre ++ closeL (l + x.1) (Lib.fields Ls[x.1]) := by
  unfold rowsF; simp
theorem rowsF_len (Ls : List Wd) (l : Nat) (pre : List (Fin Ls.length)) : (rowsF Ls l pre).length ≤ pre.length := by
  unfold rowsF
  induction pre with
  | nil => simp
  | cons x pre ih =>
    rw [List.flatMap_cons, List.length_append, List.length_cons]
    have := close_len (l + x.1) (Lib.fields Ls[x.1])
    omega
theorem eval_all : ∀ (Ls : List Wd) (l : Nat), (∀ r ∈ Ls, priB r = true) → evalL l Ls = .ok (rowsF Ls l (List.finRange Ls.length))
  | [], l, _ => rfl
  | r :: rs, l, h => by
    rw [evalL, if_pos (h r (by simp)), eval_all rs (l + 1) (fun x hx => h x (List.mem_cons_of_mem _ hx)), map_ok]
    congr 1
    unfold rowsF
    show _ = List.flatMap (fun x : Fin (rs.length + 1) => closeL (l + x.1) (Lib.fields ((r :: rs)[x.1]'x.2))) (List.finRange (rs.length + 1))
    rw [List.finRange_succ, List.flatMap_cons, List.flatMap_map]
    have e : (fun x : Fin rs.length => closeL (l + 1 + x.1) (Lib.fields rs[x.1])) = (fun x : Fin rs.length => closeL (l + (Fin.succ x).1) (Lib.fields ((r :: rs)[(Fin.succ x).1]'(Fin.succ x).2))) := by
      funext x
      show _ = closeL (l + (x.1 + 1)) (Lib.fields rs[x.1])
      rw [show l + 1 + x.1 = l + (x.1 + 1) by omega]
    rw [e]
    rfl
theorem eval_stop : ∀ (Ls : List Wd) (l k : Nat) (hk : k < Ls.length), (∀ j (hj : j < k), priB (Ls[j]'(by omega)) = true) → priB Ls[k] = false → evalL l Ls = .error (l + k)
  | [], l, k, hk, _, _ => by simp at hk
  | r :: rs, l, 0, hk, _, hb => by
    rw [evalL, if_neg (by simpa using hb)]; rfl
  | r :: rs, l, k + 1, hk, ha, hb => by
    have h0 := ha 0 (by omega)
    rw [evalL, if_pos (by simpa using h0), eval_stop rs (l + 1) k (by simpa using hk) (fun j hj => by have := ha (j + 1) (by omega); simpa using this) (by simpa using hb), map_err]
    rw [show l + 1 + k = l + (k + 1) by omega]
/-- what the rounds come to, where all of them came -/
theorem lex_done {s : List UInt8} (h4 : s.length ≤ 4000) (h : ∀ x ∈ List.finRange (linesL s).length, priB ((linesL s)[x.1]) = true) : lexRows s = rowsF (linesL s) 1 (List.finRange (linesL s).length) ∧ lexLine s = 0 ∧ lexErr s = 0 := by
  have e : scanL 1 [] [] s = .ok (rowsF (linesL s) 1 (List.finRange (linesL s).length)) := by
    rw [eval_lines _ s (Nat.le_refl _), eval_all]
    intro r hr
    obtain ⟨i, hi, e⟩ := List.mem_iff_getElem.1 hr
    have := h ⟨i, hi⟩ (List.mem_finRange _)
    rw [← e]; exact this
  unfold lexRows lexLine lexErr
  rw [if_pos h4, if_pos h4, if_pos h4, e]
  exact ⟨rfl, rfl, rfl⟩
/-- where one of them left -/
theorem lex_left {s : List UInt8} (h4 : s.length ≤ 4000) {q : List (Fin (linesL s).length)} {x : Fin (linesL s).length} (hp : q ++ [x] <+: List.finRange (linesL s).length) (h : ∀ y ∈ q, priB ((linesL s)[y.1]) = true) (hx : priB ((linesL s)[x.1]) = false) : lexRows s = [] ∧ lexLine s = x.1 + 1 ∧ lexErr s = 6 := by
  have hq : q ++ [x] = (List.finRange (linesL s).length).take (q.length + 1) := by
    have := List.prefix_iff_eq_take.1 hp
    simpa using this
  have hlq : q.length + 1 ≤ (linesL s).length := by have := hp.length_le; simpa using this
  have hx1 : x.1 = q.length := by
    have e : (q ++ [x])[q.length]? = some x := by simp
    rw [hq, List.getElem?_take_of_lt (by omega), List.getElem?_eq_getElem (by simp; omega), List.getElem_finRange] at e
    have := Option.some.inj e
    rw [← this]; rfl
  have e : scanL 1 [] [] s = .error (1 + x.1) := by
    rw [eval_lines _ s (Nat.le_refl _)]
    refine eval_stop _ 1 x.1 x.2 (fun j hj => ?_) hx
    have hj' : j < q.length := by omega
    have e : (q ++ [x])[j]? = some ⟨j, by omega⟩ := by
      rw [hq, List.getElem?_take_of_lt (by omega), List.getElem?_eq_getElem (by simp; omega), List.getElem_finRange]
      rfl
    rw [List.getElem?_append_left hj'] at e
    exact h _ (List.mem_of_getElem? e)
  unfold lexRows lexLine lexErr
  rw [if_pos h4, if_pos h4, if_pos h4, e]
  exact ⟨rfl, by show 1 + x.1 = x.1 + 1; omega, rfl⟩
theorem counts_fields (r : List UInt8) : ∀ d ∈ Lib.fields r, ¬ d = [] := by
  have : ∀ (l cur : List UInt8), ∀ d ∈ Lib.fieldsGo cur l, ¬ d = [] := by
    intro l
    induction l with
    | nil =>
      intro cur d hd
      unfold Lib.fieldsGo at hd
      cases cur with
      | nil => simp at hd
      | cons a b => simp at hd; subst hd; simp
    | cons c l ih =>
      intro cur d hd
      unfold Lib.fieldsGo at hd
      split at hd
      · cases cur with
        | nil => exact ih [] d (by simpa using hd)
        | cons a b =>
          simp at hd
          rcases hd with hd | hd
          · subst hd; simp
          · exact ih [] d hd
      · exact ih _ d hd
  exact this r []
end Go.Proofs.YtagkgneijdbkoaaDoor
