/-
  Texts that belong together, one behind the other: LexMath, DsTyp, CrcMath. Conditions: as each says.
-/
import Derived.RowKit
/-
  Lines of words, plainly: what a text's lines are, byte by byte; more blanks make no difference; two texts, a line end between (layer 7). No function of a program is named here. No conditions but those that each says.
-/
namespace Go.Proofs.Ytllkkgcfhphgmaa
set_option linter.unusedVariables false

abbrev Wd := List UInt8
/-- a line that counts: its number, its words -/
abbrev Ln := Nat × List Wd
def flushW (ws : List Wd) (w : Wd) : List Wd := if w = [] then ws else ws ++ [w]
/-- do a line's words count? -/
def countsB (ws : List Wd) : Bool :=
  match ws with
  | [] => false
  | w :: _ => match w with
    | [] => true
    | c :: _ => !(c == 35)
def closeL (l : Nat) (ws : List Wd) : List Ln := if countsB ws = true then [(l, ws)] else []
/-- what comes of a text from line l on, with these words and this beginning of a word; else the line in which another byte stands -/
def scanL (l : Nat) (ws : List Wd) (w : Wd) : List UInt8 → Except Nat (List Ln)
  | [] => .ok (closeL l (flushW ws w))
  | c :: r =>
    if c = 10 then (scanL (l + 1) [] [] r).map (fun t => closeL l (flushW ws w) ++ t)
    else if c = 32 then scanL l (flushW ws w) [] r
    else if 32 ≤ c.toNat ∧ c.toNat ≤ 126 then scanL l ws (w ++ [c]) r
    else .error l
theorem flush_nil (ws : List Wd) : flushW ws [] = ws := by unfold flushW; rw [if_pos rfl]
theorem scan_end (l : Nat) (ws : List Wd) (w : Wd) : scanL l ws w [] = .ok (closeL l (flushW ws w)) := rfl
theorem scan_line (l : Nat) (ws : List Wd) (w : Wd) (r : List UInt8) : scanL l ws w (10 :: r) = (scanL (l + 1) [] [] r).map (fun t => closeL l (flushW ws w) ++ t) := by rw [scanL, if_pos rfl]
theorem scan_blank (l : Nat) (ws : List Wd) (w : Wd) (r : List UInt8) : scanL l ws w (32 :: r) = scanL l (flushW ws w) [] r := by rw [scanL, if_neg (by decide), if_pos rfl]
theorem scan_byte (l : Nat) (ws : List Wd) (w : Wd) {c : UInt8} (r : List UInt8) (h1 : ¬ c = 10) (h2 : ¬ c = 32) (h3 : 32 ≤ c.toNat ∧ c.toNat ≤ 126) : scanL l ws w (c :: r) = scanL l ws (w ++ [c]) r := by rw [scanL, if_neg h1, if_neg h2, if_pos h3]
theorem scan_bad (l : Nat) (ws : List Wd) (w : Wd) {c : UInt8} (r : List UInt8) (h1 : ¬ c = 10) (h2 : ¬ c = 32) (h3 : ¬ (32 ≤ c.toNat ∧ c.toNat ≤ 126)) : scanL l ws w (c :: r) = .error l := by rw [scanL, if_neg h1, if_neg h2, if_neg h3]
/-- what is left to do, with what has been found -/
def LeftL (out : List Ln) (l : Nat) (ws : List Wd) (w : Wd) (r : List UInt8) (T : Except Nat (List Ln)) : Prop := (scanL l ws w r).map (fun t => out ++ t) = T
theorem map_ok {a b : Type} (f : a → b) (x : a) : (Except.ok x : Except Nat a).map f = .ok (f x) := rfl
theorem map_err {a b : Type} (f : a → b) (n : Nat) : (Except.error n : Except Nat a).map f = .error n := rfl
theorem map_map' {a b c : Type} (f : a → b) (g : b → c) (x : Except Nat a) : (x.map f).map g = x.map (fun t => g (f t)) := by cases x <;> rfl
theorem LeftL.first (r : List UInt8) : LeftL [] 1 [] [] r (scanL 1 [] [] r) := by
  unfold LeftL
  cases scanL 1 [] [] r <;> rfl
theorem LeftL.fin {out : List Ln} {l : Nat} {ws : List Wd} {w : Wd} {T : Except Nat (List Ln)} (h : LeftL out l ws w [] T) : T = .ok (out ++ closeL l (flushW ws w)) := h.symm
theorem LeftL.line {out : List Ln} {l : Nat} {ws : List Wd} {w : Wd} {r : List UInt8} {T : Except Nat (List Ln)} (h : LeftL out l ws w (10 :: r) T) : LeftL (out ++ closeL l (flushW ws w)) (l + 1) [] [] r T := by
  unfold LeftL at *
  rw [scan_line, map_map'] at h
  rw [← h]
  congr 1
  funext t
  rw [List.append_assoc]
theorem LeftL.blank {out : List Ln} {l : Nat} {ws : List Wd} {w : Wd} {r : List UInt8} {T : Except Nat (List Ln)} (h : LeftL out l ws w (32 :: r) T) : LeftL out l (flushW ws w) [] r T := by
  unfold LeftL at *
  rwa [scan_blank] at h
theorem LeftL.byte {out : List Ln} {l : Nat} {ws : List Wd} {w : Wd} {c : UInt8} {r : List UInt8} {T : Except Nat (List Ln)} (h : LeftL out l ws w (c :: r) T) (h1 : ¬ c = 10) (h2 : ¬ c = 32) (h3 : 32 ≤ c.toNat ∧ c.toNat ≤ 126) : LeftL out l ws (w ++ [c]) r T := by
  unfold LeftL at *
  rwa [scan_byte _ _ _ _ h1 h2 h3] at h
theorem LeftL.bad {out : List Ln} {l : Nat} {ws : List Wd} {w : Wd} {c : UInt8} {r : List UInt8} {T : Except Nat (List Ln)} (h : LeftL out l ws w (c :: r) T) (h1 : ¬ c = 10) (h2 : ¬ c = 32) (h3 : ¬ (32 ≤ c.toNat ∧ c.toNat ≤ 126)) : T = .error l := by
  unfold LeftL at h
  rw [scan_bad _ _ _ _ h1 h2 h3] at h
  exact h.symm

/-! two texts, a line end between -/
def nlN (s : List UInt8) : Nat := (s.filter (fun c => c == 10)).length
theorem scan_parts (s t : List UInt8) : ∀ l ws w, scanL l ws w (s ++ 10 :: t) = (match scanL l ws w s with
    | .error n => .error n
    | .ok a => (scanL (l + nlN s + 1) [] [] t).map (fun b => a ++ b)) := by
  induction s with
  | nil => intro l ws w; rw [List.nil_append, scan_line, scan_end]; rfl
  | cons c s ih =>
    intro l ws w
    rw [List.cons_append]
    by_cases h1 : c = 10
    · subst h1
      rw [scan_line, scan_line, ih]
      have e : l + 1 + nlN s + 1 = l + nlN (10 :: s) + 1 := by unfold nlN; simp; omega
      rw [e]
      cases scanL (l + 1) [] [] s with
      | error n => rfl
      | ok a =>
        simp only [map_ok, map_map']
        congr 1
        funext b
        rw [List.append_assoc]
    · have e : nlN (c :: s) = nlN s := by unfold nlN; simp [h1]
      rw [e]
      by_cases h2 : c = 32
      · subst h2; rw [scan_blank, scan_blank]; exact ih _ _ _
      · by_cases h3 : 32 ≤ c.toNat ∧ c.toNat ≤ 126
        · rw [scan_byte _ _ _ _ h1 h2 h3, scan_byte _ _ _ _ h1 h2 h3]; exact ih _ _ _
        · rw [scan_bad _ _ _ _ h1 h2 h3, scan_bad _ _ _ _ h1 h2 h3]
def shiftL (d : Nat) (r : List Ln) : List Ln := r.map (fun x => (x.1 + d, x.2))
theorem close_shift (d l : Nat) (ws : List Wd) : closeL (l + d) ws = shiftL d (closeL l ws) := by
  unfold closeL shiftL
  split <;> rfl
theorem scan_shift (d : Nat) (s : List UInt8) : ∀ l ws w, scanL (l + d) ws w s = (match scanL l ws w s with
    | .error n => .error (n + d)
    | .ok a => .ok (shiftL d a)) := by
  induction s with
  | nil => intro l ws w; rw [scan_end, scan_end, close_shift]
  | cons c s ih =>
    intro l ws w
    by_cases h1 : c = 10
    · subst h1
      rw [scan_line, scan_line, show l + d + 1 = l + 1 + d by omega, ih, close_shift]
      cases scanL (l + 1) [] [] s with
      | error n => rfl
      | ok a => simp only [map_ok]; unfold shiftL; rw [List.map_append]
    · by_cases h2 : c = 32
      · subst h2; rw [scan_blank, scan_blank]; exact ih _ _ _
      · by_cases h3 : 32 ≤ c.toNat ∧ c.toNat ≤ 126
        · rw [scan_byte _ _ _ _ h1 h2 h3, scan_byte _ _ _ _ h1 h2 h3]; exact ih _ _ _
        · rw [scan_bad _ _ _ _ h1 h2 h3, scan_bad _ _ _ _ h1 h2 h3]

/-! more blanks -/
def gapL (k : Nat) : List UInt8 := List.replicate (k + 1) 32
theorem scan_gap (l : Nat) (ws : List Wd) (w : Wd) (k : Nat) (r : List UInt8) : scanL l ws w (gapL k ++ r) = scanL l (flushW ws w) [] r := by
  unfold gapL
  induction k generalizing ws w with
  | zero => exact scan_blank _ _ _ _
  | succ k ih =>
    rw [List.replicate_succ, List.cons_append, scan_blank, ih, flush_nil]
/-- each blank made a gap, each line end put between gaps -/
def blowL (k : Nat) : List UInt8 → List UInt8
  | [] => []
  | c :: r => (if c = 32 then gapL k else if c = 10 then gapL k ++ 10 :: gapL k else [c]) ++ blowL k r
theorem scan_blow (k : Nat) (s : List UInt8) : ∀ l ws w, scanL l ws w (blowL k s) = scanL l ws w s := by
  induction s with
  | nil => intro l ws w; rfl
  | cons c s ih =>
    intro l ws w
    rw [blowL]
    by_cases h2 : c = 32
    · subst h2
      rw [if_pos rfl, scan_gap, scan_blank]; exact ih _ _ _
    · rw [if_neg h2]
      by_cases h1 : c = 10
      · subst h1
        rw [if_pos rfl, List.append_assoc, List.cons_append, scan_gap, scan_line, scan_line, scan_gap, flush_nil, flush_nil, ih]
      · rw [if_neg h1]
        show scanL l ws w (c :: blowL k s) = _
        by_cases h3 : 32 ≤ c.toNat ∧ c.toNat ≤ 126
        · rw [scan_byte _ _ _ _ h1 h2 h3, scan_byte _ _ _ _ h1 h2 h3]; exact ih _ _ _
        · rw [scan_bad _ _ _ _ h1 h2 h3, scan_bad _ _ _ _ h1 h2 h3]
theorem scan_wide (k : Nat) (s : List UInt8) : scanL 1 [] [] (gapL k ++ blowL k s) = scanL 1 [] [] s := by
  rw [scan_gap, flush_nil, scan_blow]
theorem blow_len (k : Nat) (s : List UInt8) : (blowL k s).length ≤ (2 * k + 3) * s.length := by
  induction s with
  | nil => exact Nat.le_refl _
  | cons c s ih =>
    rw [blowL, List.length_append, List.length_cons, Nat.mul_add, Nat.mul_one]
    have : (if c = 32 then gapL k else if c = 10 then gapL k ++ 10 :: gapL k else [c]).length ≤ 2 * k + 3 := by
      unfold gapL
      split
      · simp; omega
      · split
        · simp; omega
        · simp
    omega
theorem blow_snoc (k : Nat) (s : List UInt8) (c : UInt8) : blowL k (s ++ [c]) = blowL k s ++ (if c = 32 then gapL k else if c = 10 then gapL k ++ 10 :: gapL k else [c]) := by
  induction s with
  | nil => simp [blowL]
  | cons d s ih => rw [List.cons_append, blowL, ih, blowL, List.append_assoc]

/-! what Rows answers -/
def tRows (T : Except Nat (List Ln)) : List Ln := match T with | .ok r => r | .error _ => []
def tLine (T : Except Nat (List Ln)) : Nat := match T with | .ok _ => 0 | .error n => n
def tErr (T : Except Nat (List Ln)) : Nat := match T with | .ok _ => 0 | .error _ => 6
def lexRows (s : List UInt8) : List Ln := if s.length ≤ 4000 then tRows (scanL 1 [] [] s) else []
def lexLine (s : List UInt8) : Nat := if s.length ≤ 4000 then tLine (scanL 1 [] [] s) else 0
def lexErr (s : List UInt8) : Nat := if s.length ≤ 4000 then tErr (scanL 1 [] [] s) else 7
/-- how much there is of it -/
theorem close_len (l : Nat) (ws : List Wd) : (closeL l ws).length ≤ 1 := by unfold closeL; split <;> simp
theorem scan_len (s : List UInt8) : ∀ l ws w r, scanL l ws w s = .ok r → r.length ≤ s.length + 1 := by
  induction s with
  | nil => intro l ws w r h; have e : closeL l (flushW ws w) = r := by simpa [scanL] using h
           rw [← e]; exact close_len _ _
  | cons c s ih =>
    intro l ws w r h
    by_cases h1 : c = 10
    · subst h1
      rw [scan_line] at h
      cases hs : scanL (l + 1) [] [] s with
      | error n => rw [hs] at h; cases h
      | ok a =>
        rw [hs, map_ok] at h
        have e := ih _ _ _ _ hs
        have e2 : closeL l (flushW ws w) ++ a = r := by simpa using h
        rw [← e2, List.length_append, List.length_cons]
        have := close_len l (flushW ws w)
        omega
    · rw [List.length_cons]
      by_cases h2 : c = 32
      · subst h2; rw [scan_blank] at h; have := ih _ _ _ _ h; omega
      · by_cases h3 : 32 ≤ c.toNat ∧ c.toNat ≤ 126
        · rw [scan_byte _ _ _ _ h1 h2 h3] at h; have := ih _ _ _ _ h; omega
        · rw [scan_bad _ _ _ _ h1 h2 h3] at h; cases h
/-- no line is without words; how many words there are at most -/
theorem counts_ne {ws : List Wd} (h : countsB ws = true) : ¬ ws = [] := fun e => by rw [e] at h; cases h
theorem flush_len (ws : List Wd) (w : Wd) : (flushW ws w).length ≤ ws.length + 1 := by unfold flushW; split <;> simp
theorem close_ok {l : Nat} {ws : List Wd} {x : Ln} (h : x ∈ closeL l ws) : ¬ x.2 = [] ∧ x.2.length = ws.length := by
  unfold closeL at h
  split at h
  · rename_i hc
    rw [List.mem_singleton.1 h]
    exact ⟨counts_ne hc, rfl⟩
  · cases h
theorem scan_ok (s : List UInt8) : ∀ l ws w r, scanL l ws w s = .ok r → ∀ x ∈ r, ¬ x.2 = [] ∧ x.2.length ≤ ws.length + s.length + 1 := by
  induction s with
  | nil =>
    intro l ws w r h x hx
    have e : closeL l (flushW ws w) = r := by simpa [scanL] using h
    rw [← e] at hx
    obtain ⟨h1, h2⟩ := close_ok hx
    have := flush_len ws w
    exact ⟨h1, by simp; omega⟩
  | cons c s ih =>
    intro l ws w r h x hx
    by_cases h1 : c = 10
    · subst h1
      rw [scan_line] at h
      cases hs : scanL (l + 1) [] [] s with
      | error n => rw [hs] at h; cases h
      | ok a =>
        rw [hs, map_ok] at h
        have e2 : closeL l (flushW ws w) ++ a = r := by simpa using h
        rw [← e2] at hx
        rcases List.mem_append.1 hx with hx | hx
        · obtain ⟨q1, q2⟩ := close_ok hx
          have := flush_len ws w
          exact ⟨q1, by simp; omega⟩
        · obtain ⟨q1, q2⟩ := ih _ _ _ _ hs x hx
          exact ⟨q1, by simp at q2 ⊢; omega⟩
    · by_cases h2 : c = 32
      · subst h2
        rw [scan_blank] at h
        obtain ⟨q1, q2⟩ := ih _ _ _ _ h x hx
        have := flush_len ws w
        exact ⟨q1, by simp; omega⟩
      · by_cases h3 : 32 ≤ c.toNat ∧ c.toNat ≤ 126
        · rw [scan_byte _ _ _ _ h1 h2 h3] at h
          obtain ⟨q1, q2⟩ := ih _ _ _ _ h x hx
          exact ⟨q1, by simp; omega⟩
        · rw [scan_bad _ _ _ _ h1 h2 h3] at h; cases h
theorem lex_ok (s : List UInt8) : (lexRows s).length ≤ s.length + 1 ∧ ∀ x ∈ lexRows s, ¬ x.2 = [] ∧ x.2.length ≤ s.length + 1 := by
  unfold lexRows
  split
  · cases h : scanL 1 [] [] s with
    | error n => exact ⟨Nat.zero_le _, fun x hx => by cases hx⟩
    | ok r =>
      refine ⟨scan_len s _ _ _ _ h, fun x hx => ?_⟩
      have := scan_ok s _ _ _ _ h x hx
      exact ⟨this.1, by have := this.2; simp at this; exact this⟩
  · exact ⟨Nat.zero_le _, fun x hx => by cases hx⟩
theorem lex_len (s : List UInt8) : (lexRows s).length ≤ 4001 ∧ ∀ x ∈ lexRows s, x.2.length ≤ 4001 := by
  by_cases h : s.length ≤ 4000
  · obtain ⟨h1, h2⟩ := lex_ok s
    exact ⟨by omega, fun x hx => by have := (h2 x hx).2; omega⟩
  · unfold lexRows
    rw [if_neg h]
    exact ⟨Nat.zero_le _, fun x hx => by cases hx⟩
theorem scan_err (s : List UInt8) : ∀ l ws w n, scanL l ws w s = .error n → l ≤ n ∧ n ≤ l + s.length := by
  induction s with
  | nil => intro l ws w n h; cases h
  | cons c s ih =>
    intro l ws w n h
    by_cases h1 : c = 10
    · subst h1
      rw [scan_line] at h
      cases hs : scanL (l + 1) [] [] s with
      | error m =>
        rw [hs, map_err] at h
        have e : m = n := by simpa using h
        have := ih _ _ _ _ hs
        simp; omega
      | ok a => rw [hs, map_ok] at h; cases h
    · by_cases h2 : c = 32
      · subst h2; rw [scan_blank] at h; have := ih _ _ _ _ h; simp; omega
      · by_cases h3 : 32 ≤ c.toNat ∧ c.toNat ≤ 126
        · rw [scan_byte _ _ _ _ h1 h2 h3] at h; have := ih _ _ _ _ h; simp; omega
        · rw [scan_bad _ _ _ _ h1 h2 h3] at h
          have e : l = n := by simpa using h
          simp; omega
end Go.Proofs.Ytllkkgcfhphgmaa
/-
  Fields and devices, plainly (layer 8). No function of a program is named here. No conditions.
-/
namespace Go.Proofs.Ytllkkgcfhphgmaa
open Go.RowKit
set_option linter.unusedVariables false

structure Fd where
  nm : Wd
  pl : Int
  kd : Wd
  wd : Int
  sn : Int
  sd : Int
  on : Int
  od : Int
  un : Wd
structure Dv where
  nm : Wd
  st : Int
  es : Int
  mx : Int
  sz : Int
  sm : Wd
  fs : List Fd
  rq : List Nat
  po : Int
  ti : Int
  re : Int
  ag : Int
end Go.Proofs.Ytllkkgcfhphgmaa
/-
  Sums by dividing, plainly: bits as lists (the highest first), their numbers, one step, one byte, the whole; that they are linear, and that no two states come to one. No conditions but those that each says.
-/
namespace Go.Proofs.Ytllkkgcfhphgmaa
open Go.RowKit
set_option linter.unusedVariables false

/-! numbers of bits -/
/-- made one, place by place -/
def xl : List Bool → List Bool → List Bool
  | a :: as, b :: bs => (a ^^ b) :: xl as bs
  | _, _ => []
/-- the number of bits, the highest first -/
def numL (l : List Bool) : Nat := l.foldl (fun v b => 2 * v + b.toNat) 0
/-- the bits of a number, the highest first -/
def bitsL (v : Nat) : Nat → List Bool
  | 0 => []
  | n + 1 => bitsL (v / 2) n ++ [decide (v % 2 = 1)]

theorem numL_nil : numL [] = 0 := rfl
theorem numL_snoc (l : List Bool) (b : Bool) : numL (l ++ [b]) = 2 * numL l + b.toNat := by simp [numL]
theorem foldl_num (l : List Bool) : ∀ v : Nat, l.foldl (fun v b => 2 * v + b.toNat) v = v * 2 ^ l.length + numL l := by
  unfold numL
  induction l with
  | nil => intro v; simp
  | cons b l ih =>
    intro v
    simp only [List.foldl_cons, List.length_cons]
    rw [ih, ih (2 * 0 + b.toNat), Nat.pow_succ]
    grind
theorem numL_cons (b : Bool) (l : List Bool) : numL (b :: l) = b.toNat * 2 ^ l.length + numL l := by
  have := foldl_num l (2 * 0 + b.toNat)
  unfold numL at *
  rw [List.foldl_cons, this]
  simp
theorem numL_lt (l : List Bool) : numL l < 2 ^ l.length := by
  induction l with
  | nil => decide
  | cons b l ih =>
    rw [numL_cons, List.length_cons, Nat.pow_succ]
    cases b
    · simp; omega
    · simp; omega
theorem bitsL_len (n : Nat) : ∀ v, (bitsL v n).length = n := by
  induction n with
  | zero => intro v; rfl
  | succ n ih => intro v; simp [bitsL, ih]
theorem numL_bits (n : Nat) : ∀ v, numL (bitsL v n) = v % 2 ^ n := by
  induction n with
  | zero => intro v; simp [bitsL, numL_nil, Nat.mod_one]
  | succ n ih =>
    intro v
    rw [bitsL, numL_snoc, ih]
    have h : (decide (v % 2 = 1)).toNat = v % 2 := by
      rcases Nat.mod_two_eq_zero_or_one v with h | h <;> simp [h]
    rw [h, Nat.pow_succ, Nat.mul_comm (2 ^ n) 2, Nat.mod_mul]
    omega
theorem snoc_of_len {l : List Bool} {n : Nat} (h : l.length = n + 1) : ∃ m b, l = m ++ [b] ∧ m.length = n := by
  refine ⟨l.dropLast, l.getLast (by intro e; rw [e] at h; cases h), (List.dropLast_concat_getLast _).symm, by simp [h]⟩
theorem bits_num (n : Nat) : ∀ l : List Bool, l.length = n → bitsL (numL l) n = l := by
  induction n with
  | zero => intro l h; rw [List.length_eq_zero_iff.1 h]; rfl
  | succ n ih =>
    intro l h
    obtain ⟨m, b, rfl, hm⟩ := snoc_of_len h
    rw [bitsL, numL_snoc]
    have e1 : (2 * numL m + b.toNat) / 2 = numL m := by cases b <;> simp <;> omega
    have e2 : decide ((2 * numL m + b.toNat) % 2 = 1) = b := by cases b <;> simp <;> omega
    rw [e1, e2, ih m hm]
theorem numL_inj {a b : List Bool} (h : a.length = b.length) (e : numL a = numL b) : a = b := by
  have h1 := bits_num b.length a h
  have h2 := bits_num b.length b rfl
  rw [← h1, e, h2]

/-! made one -/
theorem xl_len {a : List Bool} : ∀ {b : List Bool}, a.length = b.length → (xl a b).length = b.length := by
  induction a with
  | nil => intro b h; cases b with | nil => rfl | cons _ _ => cases h
  | cons x a ih =>
    intro b h
    cases b with
    | nil => cases h
    | cons y b => simp [xl, ih (Nat.succ.inj h)]
theorem xl_app {a : List Bool} : ∀ {b c d : List Bool}, a.length = b.length → xl (a ++ c) (b ++ d) = xl a b ++ xl c d := by
  induction a with
  | nil => intro b c d h; cases b with | nil => rfl | cons _ _ => cases h
  | cons x a ih =>
    intro b c d h
    cases b with
    | nil => cases h
    | cons y b => simp [xl, ih (Nat.succ.inj h)]
theorem xl_rev {a : List Bool} : ∀ {b : List Bool}, a.length = b.length → xl a.reverse b.reverse = (xl a b).reverse := by
  induction a with
  | nil => intro b h; cases b with | nil => rfl | cons _ _ => cases h
  | cons x a ih =>
    intro b h
    cases b with
    | nil => cases h
    | cons y b =>
      simp only [List.reverse_cons, xl]
      rw [xl_app (by simpa using Nat.succ.inj h), ih (Nat.succ.inj h)]
      rfl
theorem xl_comm (a : List Bool) : ∀ b : List Bool, xl a b = xl b a := by
  induction a with
  | nil => intro b; cases b <;> rfl
  | cons x a ih => intro b; cases b with | nil => rfl | cons y b => simp [xl, ih, Bool.xor_comm]
theorem xl_assoc (a : List Bool) : ∀ b c : List Bool, xl (xl a b) c = xl a (xl b c) := by
  induction a with
  | nil => intro b c; cases b <;> cases c <;> rfl
  | cons x a ih => intro b c; cases b with | nil => cases c <;> rfl | cons y b => cases c with | nil => rfl | cons z c => simp [xl, ih]
theorem xl_swap (a b c d : List Bool) : xl (xl a b) (xl c d) = xl (xl a c) (xl b d) := by
  rw [xl_assoc, xl_assoc, ← xl_assoc b, xl_comm b c, xl_assoc c]
theorem xl_self (a : List Bool) : ∀ b : List Bool, a.length = b.length → xl a (xl a b) = b := by
  induction a with
  | nil => intro b h; cases b with | nil => rfl | cons _ _ => cases h
  | cons x a ih =>
    intro b h
    cases b with
    | nil => cases h
    | cons y b => simp [xl, ih b (Nat.succ.inj h)]
/-- the same may be taken away on both sides -/
theorem xl_cancel {a b c : List Bool} (h1 : b.length = a.length) (h2 : c.length = a.length) (e : xl a b = xl a c) : b = c := by
  rw [← xl_self a b h1.symm, e, xl_self a c h2.symm]
theorem two_xor (x y : Nat) (a b : Bool) : (2 * x + a.toNat) ^^^ (2 * y + b.toNat) = 2 * (x ^^^ y) + (a ^^ b).toNat := by
  apply Nat.eq_of_testBit_eq
  intro i
  cases i with
  | zero =>
    have d : ∀ (z : Nat) (c : Bool), (2 * z + c.toNat).testBit 0 = c := fun z c => by
      rw [Nat.testBit_zero]
      cases c <;> simp <;> omega
    rw [Nat.testBit_xor, d, d, d]
  | succ i =>
    have d : ∀ (z : Nat) (c : Bool), (2 * z + c.toNat).testBit (i + 1) = z.testBit i := fun z c => by
      rw [Nat.testBit_succ]
      congr 1
      cases c <;> simp <;> omega
    rw [Nat.testBit_xor, d, d, d, Nat.testBit_xor]
theorem numL_xl (n : Nat) : ∀ a b : List Bool, a.length = n → b.length = n → numL (xl a b) = numL a ^^^ numL b := by
  induction n with
  | zero => intro a b ha hb; rw [List.length_eq_zero_iff.1 ha, List.length_eq_zero_iff.1 hb]; rfl
  | succ n ih =>
    intro a b ha hb
    obtain ⟨a', x, rfl, ha'⟩ := snoc_of_len ha
    obtain ⟨b', y, rfl, hb'⟩ := snoc_of_len hb
    rw [xl_app (by rw [ha', hb'])]
    rw [show xl [x] [y] = [x ^^ y] from rfl, numL_snoc, numL_snoc, numL_snoc, ih a' b' ha' hb', two_xor]

/-! one step -/
/-- doubled, and made one with the polynomial if the highest bit was 1 -/
def stL (p : List Bool) : List Bool → List Bool
  | [] => []
  | h :: t => if h = true then xl (t ++ [false]) p else t ++ [false]
theorem stL_len {p r : List Bool} (h : p.length = r.length) : (stL p r).length = r.length := by
  cases r with
  | nil => rfl
  | cons b t =>
    cases b
    · show (t ++ [false]).length = t.length + 1
      simp
    · show (xl (t ++ [false]) p).length = t.length + 1
      rw [xl_len (by simpa using h.symm)]; exact h
/-- the step, of numbers -/
theorem stL_num {p : List Bool} {b : Bool} {t : List Bool} (h : p.length = t.length + 1) : numL (stL p (b :: t)) = if b = true then (2 * numL t) ^^^ numL p else 2 * numL t := by
  have e : numL (t ++ [false]) = 2 * numL t := by rw [numL_snoc]; rfl
  unfold stL
  cases b
  · simp [e]
  · simp only [if_true]
    rw [numL_xl (t.length + 1) _ _ (by simp) h, e]
theorem xl_false {a b : List Bool} (h : a.length = b.length) : xl (a ++ [false]) (b ++ [false]) = xl a b ++ [false] := by rw [xl_app h]; rfl
theorem xl_true {a b : List Bool} (h : a.length = b.length) : xl (a ++ [false]) (b ++ [true]) = xl a b ++ [true] := by rw [xl_app h]; rfl
theorem xl_both (a : List Bool) : ∀ b c : List Bool, a.length = c.length → b.length = c.length → xl (xl a c) (xl b c) = xl a b := by
  induction a with
  | nil =>
    intro b c h k
    cases c with
    | nil => cases b <;> rfl
    | cons _ _ => cases h
  | cons x a ih =>
    intro b c h k
    cases c with
    | nil => cases h
    | cons z c =>
      cases b with
      | nil => cases k
      | cons y b =>
        simp only [xl]
        rw [ih b c (Nat.succ.inj h) (Nat.succ.inj k)]
        cases x <;> cases y <;> cases z <;> rfl
/-- it is linear -/
theorem stL_lin {p r s : List Bool} (h : p.length = r.length) (k : s.length = r.length) : stL p (xl r s) = xl (stL p r) (stL p s) := by
  cases r with
  | nil => cases s with | nil => rfl | cons _ _ => cases k
  | cons a r =>
    cases s with
    | nil => cases k
    | cons b s =>
      have k' : r.length = s.length := by simpa using k.symm
      have e : xl r s ++ [false] = xl (r ++ [false]) (s ++ [false]) := (xl_false k').symm
      have l1 : (r ++ [false]).length = p.length := by simpa using h.symm
      have l2 : (s ++ [false]).length = p.length := by rw [← l1]; simp [k']
      cases a <;> cases b
      · show xl r s ++ [false] = xl (r ++ [false]) (s ++ [false])
        exact e
      · show xl (xl r s ++ [false]) p = xl (r ++ [false]) (xl (s ++ [false]) p)
        rw [e, xl_assoc]
      · show xl (xl r s ++ [false]) p = xl (xl (r ++ [false]) p) (s ++ [false])
        rw [e, xl_assoc, xl_assoc, xl_comm p]
      · show xl r s ++ [false] = xl (xl (r ++ [false]) p) (xl (s ++ [false]) p)
        rw [e, xl_both _ _ _ l1 l2]
/-- no two states come to one, if the polynomial is odd -/
theorem stL_inj {q r s : List Bool} (h : q.length + 1 = r.length) (k : s.length = r.length) (e : stL (q ++ [true]) r = stL (q ++ [true]) s) : r = s := by
  cases r with
  | nil => cases h
  | cons a r =>
    cases s with
    | nil => cases k
    | cons b s =>
      have h1 : r.length = q.length := by simpa using h.symm
      have h2 : s.length = q.length := by rw [← h1]; simpa using k
      have ft : ∀ t : List Bool, t.length = q.length → stL (q ++ [true]) (true :: t) = xl t q ++ [true] := fun t ht => xl_true ht
      have ff : ∀ t : List Bool, stL (q ++ [true]) (false :: t) = t ++ [false] := fun t => rfl
      cases a <;> cases b
      · rw [ff, ff] at e
        rw [List.append_cancel_right e]
      · rw [ff, ft s h2] at e
        have := (List.append_inj e (by rw [xl_len h2, h1])).2
        cases this
      · rw [ff, ft r h1] at e
        have := (List.append_inj e (by rw [xl_len h1, h2])).2
        cases this
      · rw [ft r h1, ft s h2] at e
        have e2 := List.append_cancel_right e
        rw [xl_comm r, xl_comm s] at e2
        rw [xl_cancel h1 h2 e2]

/-! steps, bytes, sums -/
def itL (p : List Bool) : Nat → List Bool → List Bool
  | 0, r => r
  | k + 1, r => itL p k (stL p r)
theorem itL_len {p : List Bool} (k : Nat) : ∀ {r : List Bool}, p.length = r.length → (itL p k r).length = r.length := by
  induction k with
  | zero => intro r h; rfl
  | succ k ih => intro r h; rw [itL, ih (by rw [stL_len h]; exact h), stL_len h]
theorem itL_lin {p : List Bool} (k : Nat) : ∀ {r s : List Bool}, p.length = r.length → s.length = r.length → itL p k (xl r s) = xl (itL p k r) (itL p k s) := by
  induction k with
  | zero => intro r s h k; rfl
  | succ k ih =>
    intro r s h l
    rw [itL, itL, itL, stL_lin h l, ih (by rw [stL_len h]; exact h) (by rw [stL_len h, stL_len (by rw [l]; exact h), l])]
theorem itL_inj {q : List Bool} (k : Nat) : ∀ {r s : List Bool}, q.length + 1 = r.length → s.length = r.length → itL (q ++ [true]) k r = itL (q ++ [true]) k s → r = s := by
  induction k with
  | zero => intro r s h l e; exact e
  | succ k ih =>
    intro r s h l e
    have hp : (q ++ [true]).length = r.length := by simpa using h
    have hp2 : (q ++ [true]).length = s.length := by rw [l]; exact hp
    exact stL_inj h l (ih (by rw [stL_len hp]; exact h) (by rw [stL_len hp2, stL_len hp, l]) e)
/-- the highest eight bits made one with a byte's -/
def mixL (r c : List Bool) : List Bool := xl (r.take 8) c ++ r.drop 8
theorem mixL_len {r c : List Bool} (h : 8 ≤ r.length) (k : c.length = 8) : (mixL r c).length = r.length := by
  unfold mixL
  rw [List.length_append, xl_len (by rw [List.length_take, k]; omega), List.length_drop, k]
  omega
theorem xl_take {a : List Bool} : ∀ {b : List Bool} (n : Nat), (xl a b).take n = xl (a.take n) (b.take n) := by
  induction a with
  | nil => intro b n; cases b <;> simp [xl]
  | cons x a ih =>
    intro b n
    cases b with
    | nil => cases n <;> simp [xl]
    | cons y b => cases n with | zero => rfl | succ n => simp [xl, ih]
theorem xl_drop {a : List Bool} : ∀ {b : List Bool} (n : Nat), a.length = b.length → (xl a b).drop n = xl (a.drop n) (b.drop n) := by
  induction a with
  | nil => intro b n h; cases b with | nil => simp [xl] | cons _ _ => cases h
  | cons x a ih =>
    intro b n h
    cases b with
    | nil => cases h
    | cons y b => cases n with | zero => rfl | succ n => simp [xl, ih n (Nat.succ.inj h)]
theorem mixL_lin {r s c d : List Bool} (h : 8 ≤ r.length) (k : s.length = r.length) (hc : c.length = 8) (hd : d.length = 8) : mixL (xl r s) (xl c d) = xl (mixL r c) (mixL s d) := by
  unfold mixL
  rw [xl_take, xl_drop _ k.symm, xl_swap, xl_app]
  rw [xl_len (by rw [List.length_take, hc]; omega), xl_len (by rw [List.length_take, hd, k]; omega), hc, hd]
theorem mixL_inj {r s c : List Bool} (h : 8 ≤ r.length) (k : s.length = r.length) (hc : c.length = 8) (e : mixL r c = mixL s c) : r = s := by
  unfold mixL at e
  have l1 : (r.take 8).length = c.length := by rw [List.length_take, hc]; omega
  have l2 : (s.take 8).length = c.length := by rw [List.length_take, hc, k]; omega
  obtain ⟨e1, e2⟩ := List.append_inj e (by rw [xl_len l1, xl_len l2])
  rw [xl_comm _ c, xl_comm _ c] at e1
  rw [← List.take_append_drop 8 r, ← List.take_append_drop 8 s, xl_cancel l1 l2 e1, e2]
theorem mixL_byte {r c d : List Bool} (h : 8 ≤ r.length) (hc : c.length = 8) (hd : d.length = 8) (e : mixL r c = mixL r d) : c = d := by
  unfold mixL at e
  have l1 : (r.take 8).length = 8 := by rw [List.length_take]; omega
  have e1 := List.append_cancel_right e
  exact xl_cancel (by rw [hc, l1]) (by rw [hd, l1]) e1
/-- one byte more -/
def byL (p r c : List Bool) : List Bool := itL p 8 (mixL r c)
def foldB (p : List Bool) (r : List Bool) (cs : List (List Bool)) : List Bool := cs.foldl (byL p) r
/-- a state of that width, and bytes of eight bits -/
structure Fits (w : Nat) (p r : List Bool) : Prop where
  w8 : 8 ≤ w
  pl : p.length = w
  rl : r.length = w
theorem Fits.byte {w : Nat} {p r c : List Bool} (h : Fits w p r) (hc : c.length = 8) : Fits w p (byL p r c) := by
  have m : (mixL r c).length = r.length := mixL_len (by rw [h.rl]; exact h.w8) hc
  refine ⟨h.w8, h.pl, ?_⟩
  unfold byL
  rw [itL_len 8 (by rw [m, h.rl, h.pl]), m, h.rl]
theorem byL_lin {w : Nat} {p r s c d : List Bool} (h : Fits w p r) (k : Fits w p s) (hc : c.length = 8) (hd : d.length = 8) : byL p (xl r s) (xl c d) = xl (byL p r c) (byL p s d) := by
  have l : s.length = r.length := by rw [h.rl, k.rl]
  have h8 : 8 ≤ r.length := by rw [h.rl]; exact h.w8
  unfold byL
  rw [mixL_lin h8 l hc hd, itL_lin 8 (by rw [mixL_len h8 hc, h.rl, h.pl]) (by rw [mixL_len h8 hc, mixL_len (by rw [l]; exact h8) hd, l])]
theorem foldB_len {w : Nat} {p : List Bool} (cs : List (List Bool)) : ∀ {r : List Bool}, Fits w p r → (∀ c ∈ cs, c.length = 8) → Fits w p (foldB p r cs) := by
  induction cs with
  | nil => intro r h _; exact h
  | cons c cs ih => intro r h k; exact ih (h.byte (k c (by simp))) (fun x hx => k x (by simp [hx]))
theorem foldB_lin {w : Nat} {p : List Bool} (cs : List (List Bool)) : ∀ {ds : List (List Bool)} {r s : List Bool}, Fits w p r → Fits w p s → cs.length = ds.length → (∀ c ∈ cs, c.length = 8) → (∀ c ∈ ds, c.length = 8) →
    foldB p (xl r s) (List.zipWith xl cs ds) = xl (foldB p r cs) (foldB p s ds) := by
  induction cs with
  | nil => intro ds r s h k l _ _; cases ds with | nil => rfl | cons _ _ => cases l
  | cons c cs ih =>
    intro ds r s h k l hc hd
    cases ds with
    | nil => cases l
    | cons d ds =>
      have c8 := hc c (by simp)
      have d8 := hd d (by simp)
      show foldB p (byL p (xl r s) (xl c d)) (List.zipWith xl cs ds) = xl (foldB p (byL p r c) cs) (foldB p (byL p s d) ds)
      rw [byL_lin h k c8 d8]
      exact ih (h.byte c8) (k.byte d8) (Nat.succ.inj l) (fun x hx => hc x (by simp [hx])) (fun x hx => hd x (by simp [hx]))
theorem foldB_inj {w : Nat} {q : List Bool} (cs : List (List Bool)) : ∀ {r s : List Bool}, Fits w (q ++ [true]) r → Fits w (q ++ [true]) s → (∀ c ∈ cs, c.length = 8) → foldB (q ++ [true]) r cs = foldB (q ++ [true]) s cs → r = s := by
  induction cs with
  | nil => intro r s _ _ _ e; exact e
  | cons c cs ih =>
    intro r s h k hc e
    have c8 := hc c (by simp)
    have e1 := ih (h.byte c8) (k.byte c8) (fun x hx => hc x (by simp [hx])) e
    have h8 : 8 ≤ r.length := by rw [h.rl]; exact h.w8
    have l : s.length = r.length := by rw [h.rl, k.rl]
    have hq : q.length + 1 = r.length := by rw [h.rl]; simpa using h.pl
    exact mixL_inj h8 l c8 (itL_inj 8 (by rw [mixL_len h8 c8]; exact hq) (by rw [mixL_len h8 c8, mixL_len (by rw [l]; exact h8) c8, l]) e1)
/-- texts that are unlike in one byte come to unlike states -/
theorem foldB_one {w : Nat} {q r : List Bool} {pre post : List (List Bool)} {c d : List Bool} (h : Fits w (q ++ [true]) r) (hp : ∀ x ∈ pre, x.length = 8) (hs : ∀ x ∈ post, x.length = 8) (hc : c.length = 8) (hd : d.length = 8)
    (e : foldB (q ++ [true]) r (pre ++ c :: post) = foldB (q ++ [true]) r (pre ++ d :: post)) : c = d := by
  have f := foldB_len pre h hp
  unfold foldB at e f
  rw [List.foldl_append, List.foldl_append, List.foldl_cons, List.foldl_cons] at e
  generalize List.foldl (byL (q ++ [true])) r pre = r1 at *
  have e1 := foldB_inj post (f.byte hc) (f.byte hd) hs e
  have h8 : 8 ≤ r1.length := by rw [f.rl]; exact f.w8
  have hq : q.length + 1 = r1.length := by rw [f.rl]; simpa using f.pl
  exact mixL_byte h8 hc hd (itL_inj 8 (by rw [mixL_len h8 hc]; exact hq) (by rw [mixL_len h8 hc, mixL_len h8 hd]) e1)

/-- a byte's bits, turned if told so; a state, turned if told so -/
def bcL (t : Bool) (c : Nat) : List Bool := if t = true then (bitsL c 8).reverse else bitsL c 8
def revL (t : Bool) (r : List Bool) : List Bool := if t = true then r.reverse else r
theorem bcL_len (t : Bool) (c : Nat) : (bcL t c).length = 8 := by unfold bcL; cases t <;> simp [bitsL_len]
theorem bcL_all (t : Bool) (cs : List Nat) : ∀ c ∈ cs.map (bcL t), c.length = 8 := by
  intro c h
  obtain ⟨x, _, rfl⟩ := List.mem_map.1 h
  exact bcL_len t x
theorem revL_len (t : Bool) (r : List Bool) : (revL t r).length = r.length := by unfold revL; cases t <;> simp
theorem revL_inj {t : Bool} {r s : List Bool} (e : revL t r = revL t s) : r = s := by
  unfold revL at e
  cases t
  · exact e
  · exact List.reverse_inj.1 e
theorem revL_xl {t : Bool} {r s : List Bool} (h : r.length = s.length) : revL t (xl r s) = xl (revL t r) (revL t s) := by
  unfold revL
  cases t
  · rfl
  · exact (xl_rev h).symm
theorem bits_xor (x y n : Nat) : bitsL (x ^^^ y) n = xl (bitsL x n) (bitsL y n) := by
  refine numL_inj (by rw [xl_len (by rw [bitsL_len, bitsL_len]), bitsL_len, bitsL_len]) ?_
  rw [numL_xl n _ _ (bitsL_len _ _) (bitsL_len _ _), numL_bits, numL_bits, numL_bits, Nat.xor_mod_two_pow]
theorem bcL_xor (t : Bool) (x y : Nat) : bcL t (x ^^^ y) = xl (bcL t x) (bcL t y) := by
  unfold bcL
  rw [bits_xor]
  cases t
  · rfl
  · exact (xl_rev (by rw [bitsL_len, bitsL_len])).symm
/-- the sum: w the width, p the polynomial, f the beginning, t whether turned, z the last number, cs the bytes -/
def sumL (w p f : Nat) (t : Bool) (z : Nat) (cs : List Nat) : Nat := numL (revL t (foldB (bitsL p w) (bitsL f w) (cs.map (bcL t)))) ^^^ z
def turnL (v n : Nat) : Nat := numL (bitsL v n).reverse
/-- turned twice a number is its lowest bits -/
theorem turn_turn (v n : Nat) : turnL (turnL v n) n = v % 2 ^ n := by
  unfold turnL
  rw [bits_num n _ (by rw [List.length_reverse, bitsL_len]), List.reverse_reverse, numL_bits]
theorem turn_lt (v n : Nat) : turnL v n < 2 ^ n := by
  have := numL_lt (bitsL v n).reverse
  rwa [List.length_reverse, bitsL_len] at this
/-! the same, of numbers -/
def stN (w p r : Nat) : Nat := if 2 ^ (w - 1) ≤ r then (2 * r - 2 ^ w) ^^^ p else 2 * r
def itN (w p : Nat) : Nat → Nat → Nat
  | 0, r => r
  | k + 1, r => itN w p k (stN w p r)
def mixN (w r c : Nat) : Nat := r ^^^ (c * 2 ^ (w - 8))
def byN (w p r c : Nat) : Nat := itN w p 8 (mixN w r c)
def sumN (w p f : Nat) (t : Bool) (z : Nat) (cs : List Nat) : Nat :=
  let r := (cs.map fun c => if t = true then turnL c 8 else c).foldl (byN w p) f
  (if t = true then turnL r w else r) ^^^ z

theorem stN_of {p r : List Bool} {w : Nat} (hw : 1 ≤ w) (h : p.length = w) (k : r.length = w) : numL (stL p r) = stN w (numL p) (numL r) := by
  cases r with
  | nil => rw [List.length_nil] at k; omega
  | cons b t =>
    have ht : t.length = w - 1 := by rw [List.length_cons] at k; omega
    rw [stL_num (by rw [h, ht]; omega)]
    have e : numL (b :: t) = b.toNat * 2 ^ (w - 1) + numL t := by rw [numL_cons, ht]
    have l := numL_lt t
    rw [ht] at l
    have d : 2 ^ w = 2 * 2 ^ (w - 1) := by rw [← Nat.pow_succ']; congr 1; omega
    unfold stN
    rw [e]
    cases b
    · simp only [Bool.toNat_false, Nat.zero_mul, Nat.zero_add, Bool.false_eq_true, if_false]
      rw [if_neg (by omega)]
    · simp only [Bool.toNat_true, Nat.one_mul, if_true]
      rw [if_pos (by omega)]
      congr 1
      omega
theorem itN_of {p : List Bool} {w : Nat} (hw : 1 ≤ w) (h : p.length = w) (k : Nat) : ∀ {r : List Bool}, r.length = w → numL (itL p k r) = itN w (numL p) k (numL r) := by
  induction k with
  | zero => intro r l; rfl
  | succ k ih => intro r l; rw [itL, itN, ← stN_of hw h l, ih (by rw [stL_len (by rw [h, l]), l])]
theorem num_zeros (n : Nat) (c : List Bool) : numL (c ++ List.replicate n false) = numL c * 2 ^ n := by
  induction n with
  | zero => simp
  | succ n ih =>
    rw [List.replicate_succ', ← List.append_assoc, numL_snoc, ih, Nat.pow_succ]
    simp only [Bool.toNat_false, Nat.add_zero]
    grind
theorem xl_zeros (a : List Bool) : xl a (List.replicate a.length false) = a := by
  induction a with
  | nil => rfl
  | cons x a ih => simp [List.replicate_succ, xl, ih]
theorem mixL_eq {r c : List Bool} (h : 8 ≤ r.length) (hc : c.length = 8) : mixL r c = xl r (c ++ List.replicate (r.length - 8) false) := by
  unfold mixL
  have l1 : (r.take 8).length = c.length := by rw [List.length_take, hc]; omega
  have l2 : (r.drop 8).length = r.length - 8 := by simp
  rw [← l2]
  conv => rhs; rw [← List.take_append_drop 8 r]
  rw [show (List.drop 8 (List.take 8 r ++ List.drop 8 r)) = List.drop 8 r by rw [List.take_append_drop], xl_app l1, xl_zeros]
theorem mixN_of {r c : List Bool} {w : Nat} (hw : 8 ≤ w) (k : r.length = w) (hc : c.length = 8) : numL (mixL r c) = mixN w (numL r) (numL c) := by
  rw [mixL_eq (by rw [k]; exact hw) hc, numL_xl w _ _ k (by simp [hc, k]; omega), num_zeros, k]
  rfl
theorem byN_of {w : Nat} {p r c : List Bool} (h : Fits w p r) (hc : c.length = 8) : numL (byL p r c) = byN w (numL p) (numL r) (numL c) := by
  have w8 := h.w8
  unfold byL byN
  rw [itN_of (by omega) h.pl 8 (by rw [mixL_len (by rw [h.rl]; exact w8) hc, h.rl]), mixN_of w8 h.rl hc]
theorem foldN_of {w : Nat} {p : List Bool} (cs : List (List Bool)) : ∀ {r : List Bool}, Fits w p r → (∀ c ∈ cs, c.length = 8) → numL (foldB p r cs) = (cs.map numL).foldl (byN w (numL p)) (numL r) := by
  induction cs with
  | nil => intro r _ _; rfl
  | cons c cs ih =>
    intro r h k
    have c8 := k c (by simp)
    show numL (foldB p (byL p r c) cs) = _
    rw [ih (h.byte c8) (fun x hx => k x (by simp [hx])), byN_of h c8]
    rfl
theorem sum_fits {w : Nat} (p f : Nat) (t : Bool) (cs : List Nat) (hw : 8 ≤ w) : Fits w (bitsL p w) (foldB (bitsL p w) (bitsL f w) (cs.map (bcL t))) :=
  foldB_len _ ⟨hw, bitsL_len _ _, bitsL_len _ _⟩ (bcL_all t cs)
theorem bcL_num {t : Bool} {c : Nat} (h : c < 256) : numL (bcL t c) = if t = true then turnL c 8 else c := by
  unfold bcL
  cases t
  · show numL (bitsL c 8) = c
    rw [numL_bits, Nat.mod_eq_of_lt (by omega)]
  · rfl
theorem sum_same {w p f : Nat} {t : Bool} {z : Nat} {cs : List Nat} (hw : 8 ≤ w) (hp : p < 2 ^ w) (hf : f < 2 ^ w) (hc : ∀ c ∈ cs, c < 256) : sumL w p f t z cs = sumN w p f t z cs := by
  have G := sum_fits p f t cs hw
  have N := foldN_of (w := w) (p := bitsL p w) (cs.map (bcL t)) (r := bitsL f w) ⟨hw, bitsL_len _ _, bitsL_len _ _⟩ (bcL_all t cs)
  rw [numL_bits, numL_bits, Nat.mod_eq_of_lt hp, Nat.mod_eq_of_lt hf, List.map_map] at N
  have M : (cs.map (numL ∘ bcL t)) = cs.map fun c => if t = true then turnL c 8 else c := by
    apply List.map_congr_left
    intro c h
    exact bcL_num (hc c h)
  rw [M] at N
  unfold sumL sumN
  simp only
  rw [← N]
  generalize foldB (bitsL p w) (bitsL f w) (cs.map (bcL t)) = R at *
  congr 1
  unfold revL turnL
  rw [bits_num w _ G.rl]
  cases t <;> rfl
/-- what a sum is below -/
theorem sumL_lt {w p f : Nat} {t : Bool} {z : Nat} {cs : List Nat} (hw : 8 ≤ w) (hz : z < 2 ^ w) : sumL w p f t z cs < 2 ^ w := by
  have G := sum_fits p f t cs hw
  unfold sumL
  refine Nat.xor_lt_two_pow ?_ hz
  have := numL_lt (revL t (foldB (bitsL p w) (bitsL f w) (cs.map (bcL t))))
  rwa [revL_len, G.rl] at this
theorem map_zip (t : Bool) (as : List Nat) : ∀ bs : List Nat, (List.zipWith (fun x y => x ^^^ y) as bs).map (bcL t) = List.zipWith xl (as.map (bcL t)) (bs.map (bcL t)) := by
  induction as with
  | nil => intro bs; rfl
  | cons a as ih => intro bs; cases bs with | nil => rfl | cons b bs => simp [bcL_xor, ih]
/-- sums of three texts of one length, made one -/
theorem sum_line {w p f : Nat} {t : Bool} {z : Nat} {as bs cs : List Nat} (hw : 8 ≤ w) (h : as.length = bs.length) (k : cs.length = bs.length) :
    sumL w p f t z as ^^^ sumL w p f t z bs ^^^ sumL w p f t z cs = sumL w p f t z (List.zipWith (fun x y => x ^^^ y) (List.zipWith (fun x y => x ^^^ y) as bs) cs) := by
  have F : Fits w (bitsL p w) (bitsL f w) := ⟨hw, bitsL_len _ _, bitsL_len _ _⟩
  have l0 : (xl (bitsL f w) (bitsL f w)).length = w := by rw [xl_len rfl, bitsL_len]
  have F2 : Fits w (bitsL p w) (xl (bitsL f w) (bitsL f w)) := ⟨hw, bitsL_len _ _, l0⟩
  have A := sum_fits p f t as hw
  have B := sum_fits p f t bs hw
  have C := sum_fits p f t cs hw
  have e1 := foldB_lin (as.map (bcL t)) (ds := bs.map (bcL t)) F F (by rw [List.length_map, List.length_map, h]) (bcL_all t as) (bcL_all t bs)
  rw [← map_zip] at e1
  have lz : (List.zipWith (fun x y => x ^^^ y) as bs).length = cs.length := by rw [List.length_zipWith, h, k]; omega
  have e2 := foldB_lin ((List.zipWith (fun x y => x ^^^ y) as bs).map (bcL t)) (ds := cs.map (bcL t)) F2 F (by rw [List.length_map, List.length_map, lz]) (bcL_all t _) (bcL_all t cs)
  rw [e1, ← map_zip, xl_assoc, xl_self _ _ rfl] at e2
  unfold sumL
  rw [e2]
  generalize foldB (bitsL p w) (bitsL f w) (as.map (bcL t)) = Ra at *
  generalize foldB (bitsL p w) (bitsL f w) (bs.map (bcL t)) = Rb at *
  generalize foldB (bitsL p w) (bitsL f w) (cs.map (bcL t)) = Rc at *
  have la : Ra.length = w := A.rl
  have lb : Rb.length = w := B.rl
  have lc : Rc.length = w := C.rl
  rw [revL_xl (by rw [xl_len (by rw [la, lb]), lb, lc]), revL_xl (by rw [la, lb]), numL_xl w _ _ (by rw [xl_len (by rw [revL_len, revL_len, la, lb]), revL_len, lb]) (by rw [revL_len, lc]), numL_xl w _ _ (by rw [revL_len, la]) (by rw [revL_len, lb])]
  generalize numL (revL t Ra) = x
  generalize numL (revL t Rb) = y
  generalize numL (revL t Rc) = v
  have zz : z ^^^ z = 0 := Nat.xor_self z
  have xlc : ∀ a b c : Nat, a ^^^ (b ^^^ c) = b ^^^ (a ^^^ c) := fun a b c => by rw [← Nat.xor_assoc, Nat.xor_comm a b, Nat.xor_assoc]
  calc x ^^^ z ^^^ (y ^^^ z) ^^^ (v ^^^ z) = x ^^^ y ^^^ v ^^^ (z ^^^ z) ^^^ z := by
        simp only [Nat.xor_comm, xlc]
    _ = x ^^^ y ^^^ v ^^^ z := by rw [zz, Nat.xor_zero]
theorem xor_cancel {x y z : Nat} (e : x ^^^ z = y ^^^ z) : x = y := by
  have h := congrArg (fun v => v ^^^ z) e
  simpa [Nat.xor_assoc, Nat.xor_self] using h
/-- texts that are unlike in one byte have unlike sums, if the polynomial is odd -/
theorem sum_one {w p f : Nat} {t : Bool} {z : Nat} {pre post : List Nat} {c d : Nat} (hw : 8 ≤ w) (hp : p % 2 = 1) (hc : c < 256) (hd : d < 256) (e : sumL w p f t z (pre ++ c :: post) = sumL w p f t z (pre ++ d :: post)) : c = d := by
  have F : Fits w (bitsL p w) (bitsL f w) := ⟨hw, bitsL_len _ _, bitsL_len _ _⟩
  obtain ⟨q, hq⟩ : ∃ q, bitsL p w = q ++ [true] := by
    obtain ⟨v, rfl⟩ : ∃ v, w = v + 1 := ⟨w - 1, by omega⟩
    exact ⟨bitsL (p / 2) v, by rw [bitsL, decide_eq_true hp]⟩
  have G1 := sum_fits p f t (pre ++ c :: post) hw
  have G2 := sum_fits p f t (pre ++ d :: post) hw
  unfold sumL at e
  have e2 := revL_inj (numL_inj (by rw [revL_len, revL_len, G1.rl, G2.rl]) (xor_cancel e))
  rw [List.map_append, List.map_append, List.map_cons, List.map_cons, hq] at e2
  rw [hq] at F
  have e3 := foldB_one F (bcL_all t pre) (bcL_all t post) (bcL_len t c) (bcL_len t d) e2
  have e4 : bitsL c 8 = bitsL d 8 := revL_inj (t := t) e3
  have e5 := congrArg numL e4
  rw [numL_bits, numL_bits, Nat.mod_eq_of_lt (by omega), Nat.mod_eq_of_lt (by omega)] at e5
  exact e5
end Go.Proofs.Ytllkkgcfhphgmaa
