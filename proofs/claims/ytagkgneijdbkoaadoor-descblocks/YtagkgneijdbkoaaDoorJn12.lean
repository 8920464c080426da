/-
  Texts that belong together, one behind the other: LexMath. Conditions: as each says.
-/
import Derived.RowKit
/-
  Lines of words, plainly: what a text's lines are, byte by byte; more blanks make no difference; two texts, a line end between (layer 7). No function of a program is named here. No conditions but those that each says.
-/
namespace Go.Proofs.YtagkgneijdbkoaaDoor
set_option linter.unusedVariables false

abbrev Wd := List UInt8
/-- a line that counts: its number, its words -/
abbrev Ln := Nat × List Wd
def flushW (ws : List Wd) (w : Wd) : List Wd := if w = [] then ws else ws ++ [w]
/-- do a line's words count? -/
def countsB (ws : List Wd) : Bool :=
  match ws with
  | [] => false
  | w :: _ => match w with
    | [] => true
    | c :: _ => !(c == 35)
def closeL (l : Nat) (ws : List Wd) : List Ln := if countsB ws = true then [(l, ws)] else []
/-- what comes of a text from line l on, with these words and this beginning of a word; else the line in which another byte stands -/
def scanL (l : Nat) (ws : List Wd) (w : Wd) : List UInt8 → Except Nat (List Ln)
  | [] => .ok (closeL l (flushW ws w))
  | c :: r =>
    if c = 10 then (scanL (l + 1) [] [] r).map (fun t => closeL l (flushW ws w) ++ t)
    else if c = 32 then scanL l (flushW ws w) [] r
    else if 32 ≤ c.toNat ∧ c.toNat ≤ 126 then scanL l ws (w ++ [c]) r
    else .error l
theorem flush_nil (ws : List Wd) : flushW ws [] = ws := by unfold flushW; rw [if_pos rfl]
theorem scan_end (l : Nat) (ws : List Wd) (w : Wd) : scanL l ws w [] = .ok (closeL l (flushW ws w)) := rfl
theorem scan_line (l : Nat) (ws : List Wd) (w : Wd) (r : List UInt8) : scanL l ws w (10 :: r) = (scanL (l + 1) [] [] r).map (fun t => closeL l (flushW ws w) ++ t) := by rw [scanL, if_pos rfl]
theorem scan_blank (l : Nat) (ws : List Wd) (w : Wd) (r : List UInt8) : scanL l ws w (32 :: r) = scanL l (flushW ws w) [] r := by rw [scanL, if_neg (by decide), if_pos rfl]
theorem scan_byte (l : Nat) (ws : List Wd) (w : Wd) {c : UInt8} (r : List UInt8) (h1 : ¬ c = 10) (h2 : ¬ c = 32) (h3 : 32 ≤ c.toNat ∧ c.toNat ≤ 126) : scanL l ws w (c :: r) = scanL l ws (w ++ [c]) r := by rw [scanL, if_neg h1, if_neg h2, if_pos h3]
theorem scan_bad (l : Nat) (ws : List Wd) (w : Wd) {c : UInt8} (r : List UInt8) (h1 : ¬ c = 10) (h2 : ¬ c = 32) (h3 : ¬ (32 ≤ c.toNat ∧ c.toNat ≤ 126)) : scanL l ws w (c :: r) = .error l := by rw [scanL, if_neg h1, if_neg h2, if_neg h3]
/-- what is left to do, with what has been found -/
def LeftL (out : List Ln) (l : Nat) (ws : List Wd) (w : Wd) (r : List UInt8) (T : Except Nat (List Ln)) : Prop := (scanL l ws w r).map (fun t => out ++ t) = T
theorem map_ok {a b : Type} (f : a → b) (x : a) : (Except.ok x : Except Nat a).map f = .ok (f x) := rfl
theorem map_err {a b : Type} (f : a → b) (n : Nat) : (Except.error n : Except Nat a).map f = .error n := rfl
theorem map_map' {a b c : Type} (f : a → b) (g : b → c) (x : Except Nat a) : (x.map f).map g = x.map (fun t => g (f t)) := by cases x <;> rfl
theorem LeftL.first (r : List UInt8) : LeftL [] 1 [] [] r (scanL 1 [] [] r) := by
  unfold LeftL
  cases scanL 1 [] [] r <;> rfl
theorem LeftL.fin {out : List Ln} {l : Nat} {ws : List Wd} {w : Wd} {T : Except Nat (List Ln)} (h : LeftL out l ws w [] T) : T = .ok (out ++ closeL l (flushW ws w)) := h.symm
theorem LeftL.line {out : List Ln} {l : Nat} {ws : List Wd} {w : Wd} {r : List UInt8} {T : Except Nat (List Ln)} (h : LeftL out l ws w (10 :: r) T) : LeftL (out ++ closeL l (flushW ws w)) (l + 1) [] [] r T := by
  unfold LeftL at *
  rw [scan_line, map_map'] at h
  rw [← h]
  congr 1
  funext t
  rw [List.append_assoc]
theorem LeftL.blank {out : List Ln} {l : Nat} {ws : List Wd} {w : Wd} {r : List UInt8} {T : Except Nat (List Ln)} (h : LeftL out l ws w (32 :: r) T) : LeftL out l (flushW ws w) [] r T := by
  unfold LeftL at *
  rwa [scan_blank] at h
theorem LeftL.byte {out : List Ln} {l : Nat} {ws : List Wd} {w : Wd} {c : UInt8} {r : List UInt8} {T : Except Nat (List Ln)} (h : LeftL out l ws w (c :: r) T) (h1 : ¬ c = 10) (h2 : ¬ c = 32) (h3 : 32 ≤ c.toNat ∧ c.toNat ≤ 126) : LeftL out l ws (w ++ [c]) r T := by
  unfold LeftL at *
  rwa [scan_byte _ _ _ _ h1 h2 h3] at h
theorem LeftL.bad {out : List Ln} {l : Nat} {ws : List Wd} {w : Wd} {c : UInt8} {r : List UInt8} {T : Except Nat (List Ln)} (h : LeftL out l ws w (c :: r) T) (h1 : ¬ c = 10) (h2 : ¬ c = 32) (h3 : ¬ (32 ≤ c.toNat ∧ c.toNat ≤ 126)) : T = .error l := by
  unfold LeftL at h
  rw [scan_bad _ _ _ _ h1 h2 h3] at h
  exact h.symm

/-! two texts, a line end between -/
def nlN (s : List UInt8) : Nat := (s.filter (fun c => c == 10)).length
theorem scan_parts (s t : List UInt8) : ∀ l ws w, scanL l ws w (s ++ 10 :: t) = (match scanL l ws w s with
    | .error n => .error n
    | .ok a => (scanL (l + nlN s + 1) [] [] t).map (fun b => a ++ b)) := by
  induction s with
  | nil => intro l ws w; rw [List.nil_append, scan_line, scan_end]; rfl
  | cons c s ih =>
    intro l ws w
    rw [List.cons_append]
    by_cases h1 : c = 10
    · subst h1
      rw [scan_line, scan_line, ih]
      have e : l + 1 + nlN s + 1 = l + nlN (10 :: s) + 1 := by unfold nlN; simp; omega
      rw [e]
      cases scanL (l + 1) [] [] s with
      | error n => rfl
      | ok a =>
        simp only [map_ok, map_map']
        congr 1
        funext b
        rw [List.append_assoc]
    · have e : nlN (c :: s) = nlN s := by unfold nlN; simp [h1]
      rw [e]
      by_cases h2 : c = 32
      · subst h2; rw [scan_blank, scan_blank]; exact ih _ _ _
      · by_cases h3 : 32 ≤ c.toNat ∧ c.toNat ≤ 126
        · rw [scan_byte _ _ _ _ h1 h2 h3, scan_byte _ _ _ _ h1 h2 h3]; exact ih _ _ _
        · rw [scan_bad _ _ _ _ h1 h2 h3, scan_bad _ _ _ _ h1 h2 h3]
def shiftL (d : Nat) (r : List Ln) : List Ln := r.map (fun x => (x.1 + d, x.2))
theorem close_shift (d l : Nat) (ws : List Wd) : closeL (l + d) ws = shiftL d (closeL l ws) := by
  unfold closeL shiftL
  split <;> rfl
theorem scan_shift (d : Nat) (s : List UInt8) : ∀ l ws w, scanL (l + d) ws w s = (match scanL l ws w s with
    | .error n => .error (n + d)
    | .ok a => .ok (shiftL d a)) := by
  induction s with
  | nil => intro l ws w; rw [scan_end, scan_end, close_shift]
  | cons c s ih =>
    intro l ws w
    by_cases h1 : c = 10
    · subst h1
      rw [scan_line, scan_line, show l + d + 1 = l + 1 + d by omega, ih, close_shift]
      cases scanL (l + 1) [] [] s with
      | error n => rfl
      | ok a => simp only [map_ok]; unfold shiftL; rw [List.map_append]
    · by_cases h2 : c = 32
      · subst h2; rw [scan_blank, scan_blank]; exact ih _ _ _
      · by_cases h3 : 32 ≤ c.toNat ∧ c.toNat ≤ 126
        · rw [scan_byte _ _ _ _ h1 h2 h3, scan_byte _ _ _ _ h1 h2 h3]; exact ih _ _ _
        · rw [scan_bad _ _ _ _ h1 h2 h3, scan_bad _ _ _ _ h1 h2 h3]

/-! more blanks -/
def gapL (k : Nat) : List UInt8 := List.replicate (k + 1) 32
theorem scan_gap (l : Nat) (ws : List Wd) (w : Wd) (k : Nat) (r : List UInt8) : scanL l ws w (gapL k ++ r) = scanL l (flushW ws w) [] r := by
  unfold gapL
  induction k generalizing ws w with
  | zero => exact scan_blank _ _ _ _
  | succ k ih =>
    rw [List.replicate_succ, List.cons_append, scan_blank, ih, flush_nil]
/-- each blank made a gap, each line end put between gaps -/
def blowL (k : Nat) : List UInt8 → List UInt8
  | [] => []
  | c :: r => (if c = 32 then gapL k else if c = 10 then gapL k ++ 10 :: gapL k else [c]) ++ blowL k r
theorem scan_blow (k : Nat) (s : List UInt8) : ∀ l ws w, scanL l ws w (blowL k s) = scanL l ws w s := by
  induction s with
  | nil => intro l ws w; rfl
  | cons c s ih =>
    intro l ws w
    rw [blowL]
    by_cases h2 : c = 32
    · subst h2
      rw [if_pos rfl, scan_gap, scan_blank]; exact ih _ _ _
    · rw [if_neg h2]
      by_cases h1 : c = 10
      · subst h1
        rw [if_pos rfl, List.append_assoc, List.cons_append, scan_gap, scan_line, scan_line, scan_gap, flush_nil, flush_nil, ih]
      · rw [if_neg h1]
        show scanL l ws w (c :: blowL k s) = _
        by_cases h3 : 32 ≤ c.toNat ∧ c.toNat ≤ 126
        · rw [scan_byte _ _ _ _ h1 h2 h3, scan_byte _ _ _ _ h1 h2 h3]; exact ih _ _ _
        · rw [scan_bad _ _ _ _ h1 h2 h3, scan_bad _ _ _ _ h1 h2 h3]
theorem scan_wide (k : Nat) (s : List UInt8) : scanL 1 [] [] (gapL k ++ blowL k s) = scanL 1 [] [] s := by
  rw [scan_gap, flush_nil, scan_blow]
theorem blow_len (k : Nat) (s : List UInt8) : (blowL k s).length ≤ (2 * k + 3) * s.length := by
  induction s with
  | nil => exact Nat.le_refl _
  | cons c s ih =>
    rw [blowL, List.length_append, List.length_cons, Nat.mul_add, Nat.mul_one]
    have : (if c = 32 then gapL k else if c = 10 then gapL k ++ 10 :: gapL k else [c]).length ≤ 2 * k + 3 := by
      unfold gapL
      split
      · simp; omega
      · split
        · simp; omega
        · simp
    omega
theorem blow_snoc (k : Nat) (s : List UInt8) (c : UInt8) : blowL k (s ++ [c]) = blowL k s ++ (if c = 32 then gapL k else if c = 10 then gapL k ++ 10 :: gapL k else [c]) := by
  induction s with
  | nil => simp [blowL]
  | cons d s ih => rw [List.cons_append, blowL, ih, blowL, List.append_assoc]

/-! what Rows answers -/
def tRows (T : Except Nat (List Ln)) : List Ln := match T with | .ok r => r | .error _ => []
def tLine (T : Except Nat (List Ln)) : Nat := match T with | .ok _ => 0 | .error n => n
def tErr (T : Except Nat (List Ln)) : Nat := match T with | .ok _ => 0 | .error _ => 6
def lexRows (s : List UInt8) : List Ln := if s.length ≤ 4000 then tRows (scanL 1 [] [] s) else []
def lexLine (s : List UInt8) : Nat := if s.length ≤ 4000 then tLine (scanL 1 [] [] s) else 0
def lexErr (s : List UInt8) : Nat := if s.length ≤ 4000 then tErr (scanL 1 [] [] s) else 7
/-- how much there is of it -/
theorem close_len (l : Nat) (ws : List Wd) : (closeL l ws).length ≤ 1 := by unfold closeL; split <;> simp
theorem scan_len (s : List UInt8) : ∀ l ws w r, scanL l ws w s = .ok r → r.length ≤ s.length + 1 := by
  induction s with
  | nil => intro l ws w r h; have e : closeL l (flushW ws w) = r := by simpa [scanL] using h
           rw [← e]; exact close_len _ _
  | cons c s ih =>
    intro l ws w r h
    by_cases h1 : c = 10
    · subst h1
      rw [scan_line] at h
      cases hs : scanL (l + 1) [] [] s with
      | error n => rw [hs] at h; cases h
      | ok a =>
        rw [hs, map_ok] at h
        have e := ih _ _ _ _ hs
        have e2 : closeL l (flushW ws w) ++ a = r := by simpa using h
        rw [← e2, List.length_append, List.length_cons]
        have := close_len l (flushW ws w)
        omega
    · rw [List.length_cons]
      by_cases h2 : c = 32
      · subst h2; rw [scan_blank] at h; have := ih _ _ _ _ h; omega
      · by_cases h3 : 32 ≤ c.toNat ∧ c.toNat ≤ 126
        · rw [scan_byte _ _ _ _ h1 h2 h3] at h; have := ih _ _ _ _ h; omega
        · rw [scan_bad _ _ _ _ h1 h2 h3] at h; cases h
/-- no line is without words; how many words there are at most -/
theorem counts_ne {ws : List Wd} (h : countsB ws = true) : ¬ ws = [] := fun e => by rw [e] at h; cases h
theorem flush_len (ws : List Wd) (w : Wd) : (flushW ws w).length ≤ ws.length + 1 := by unfold flushW; split <;> simp
theorem close_ok {l : Nat} {ws : List Wd} {x : Ln} (h : x ∈ closeL l ws) : ¬ x.2 = [] ∧ x.2.length = ws.length := by
  unfold closeL at h
  split at h
  · rename_i hc
    rw [List.mem_singleton.1 h]
    exact ⟨counts_ne hc, rfl⟩
  · cases h
theorem scan_ok (s : List UInt8) : ∀ l ws w r, scanL l ws w s = .ok r → ∀ x ∈ r, ¬ x.2 = [] ∧ x.2.length ≤ ws.length + s.length + 1 := by
  induction s with
  | nil =>
    intro l ws w r h x hx
    have e : closeL l (flushW ws w) = r := by simpa [scanL] using h
    rw [← e] at hx
    obtain ⟨h1, h2⟩ := close_ok hx
    have := flush_len ws w
    exact ⟨h1, by simp; omega⟩
  | cons c s ih =>
    intro l ws w r h x hx
    by_cases h1 : c = 10
    · subst h1
      rw [scan_line] at h
      cases hs : scanL (l + 1) [] [] s with
      | error n => rw [hs] at h; cases h
      | ok a =>
        rw [hs, map_ok] at h
        have e2 : closeL l (flushW ws w) ++ a = r := by simpa using h
        rw [← e2] at hx
        rcases List.mem_append.1 hx with hx | hx
        · obtain ⟨q1, q2⟩ := close_ok hx
          have := flush_len ws w
          exact ⟨q1, by simp; omega⟩
        · obtain ⟨q1, q2⟩ := ih _ _ _ _ hs x hx
          exact ⟨q1, by simp at q2 ⊢; omega⟩
    · by_cases h2 : c = 32
      · subst h2
        rw [scan_blank] at h
        obtain ⟨q1, q2⟩ := ih _ _ _ _ h x hx
        have := flush_len ws w
        exact ⟨q1, by simp; omega⟩
      · by_cases h3 : 32 ≤ c.toNat ∧ c.toNat ≤ 126
        · rw [scan_byte _ _ _ _ h1 h2 h3] at h
          obtain ⟨q1, q2⟩ := ih _ _ _ _ h x hx
          exact ⟨q1, by simp; omega⟩
        · rw [scan_bad _ _ _ _ h1 h2 h3] at h; cases h
theorem lex_ok (s : List UInt8) : (lexRows s).length ≤ s.length + 1 ∧ ∀ x ∈ lexRows s, ¬ x.2 = [] ∧ x.2.length ≤ s.length + 1 := by
  unfold lexRows
  split
  · cases h : scanL 1 [] [] s with
    | error n => exact ⟨Nat.zero_le _, fun x hx => by cases hx⟩
    | ok r =>
      refine ⟨scan_len s _ _ _ _ h, fun x hx => ?_⟩
      have := scan_ok s _ _ _ _ h x hx
      exact ⟨this.1, by have := this.2; simp at this; exact this⟩
  · exact ⟨Nat.zero_le _, fun x hx => by cases hx⟩
theorem lex_len (s : List UInt8) : (lexRows s).length ≤ 4001 ∧ ∀ x ∈ lexRows s, x.2.length ≤ 4001 := by
  by_cases h : s.length ≤ 4000
  · obtain ⟨h1, h2⟩ := lex_ok s
    exact ⟨by omega, fun x hx => by have := (h2 x hx).2; omega⟩
  · unfold lexRows
    rw [if_neg h]
    exact ⟨Nat.zero_le _, fun x hx => by cases hx⟩
theorem scan_err (s : List UInt8) : ∀ l ws w n, scanL l ws w s = .error n → l ≤ n ∧ n ≤ l + s.length := by
  induction s with
  | nil => intro l ws w n h; cases h
  | cons c s ih =>
    intro l ws w n h
    by_cases h1 : c = 10
    · subst h1
      rw [scan_line] at h
      cases hs : scanL (l + 1) [] [] s with
      | error m =>
        rw [hs, map_err] at h
        have e : m = n := by simpa using h
        have := ih _ _ _ _ hs
        simp; omega
      | ok a => rw [hs, map_ok] at h; cases h
    · by_cases h2 : c = 32
      · subst h2; rw [scan_blank] at h; have := ih _ _ _ _ h; simp; omega
      · by_cases h3 : 32 ≤ c.toNat ∧ c.toNat ≤ 126
        · rw [scan_byte _ _ _ _ h1 h2 h3] at h; have := ih _ _ _ _ h; simp; omega
        · rw [scan_bad _ _ _ _ h1 h2 h3] at h
          have e : l = n := by simpa using h
          simp; omega
end Go.Proofs.YtagkgneijdbkoaaDoor
