/-
  Texts that belong together, one behind the other: LexWordM. Conditions: as each says.
-/
import Derived.Test.YtagkgneijdbkoaaDoorJn2
import Derived.Test.YtagkgneijdbkoaaDoorJn3
/-
  Numbers, bytes and names of words, plainly (layer 7). No function of a program is named here. No conditions but those that each says.
-/
namespace Go.Proofs.YtagkgneijdbkoaaDoor
open Go.RowKit
set_option linter.unusedVariables false

/-- four bits; -1 -/
def halfC (c : Nat) : Int := if 48 ≤ c ∧ c ≤ 57 then (c : Int) - 48 else if 97 ≤ c ∧ c ≤ 102 then (c : Int) - 87 else -1
theorem half_bd (c : Nat) : -1 ≤ halfC c ∧ halfC c ≤ 15 := by unfold halfC; split <;> (try split) <;> omega
/-- the bytes of pairs -/
def hexO : List UInt8 → Option (List Nat)
  | [] => some []
  | [_] => none
  | a :: b :: r => if 0 ≤ halfC a.toNat ∧ 0 ≤ halfC b.toNat then (hexO r).map (fun t => (16 * halfC a.toNat + halfC b.toNat).toNat :: t) else none
def hexR (l : List UInt8) : Option (List Nat) := if l = [] then none else hexO l
theorem hex_odd : ∀ (l : List UInt8), l.length % 2 = 1 → hexO l = none
  | [], h => by simp at h
  | [_], _ => rfl
  | a :: b :: r, h => by
    have := hex_odd r (by simp at h; omega)
    rw [hexO]
    split
    · rw [this]; rfl
    · rfl
theorem hex_bytes : ∀ (l : List UInt8) {bs : List Nat}, hexO l = some bs → AllBytes bs ∧ bs.length ≤ l.length
  | [], bs, h => by
    have e : [] = bs := by simpa [hexO] using h
    subst e; exact ⟨(fun c hc => by cases hc), Nat.le_refl _⟩
  | [_], bs, h => by cases h
  | a :: b :: r, bs, h => by
    rw [hexO] at h
    split at h
    · rename_i hc
      cases hr : hexO r with
      | none => rw [hr] at h; cases h
      | some t =>
        rw [hr] at h
        have e : (16 * halfC a.toNat + halfC b.toNat).toNat :: t = bs := by simpa using h
        obtain ⟨i1, i2⟩ := hex_bytes r hr
        subst e
        have h1 := half_bd a.toNat
        have h2 := half_bd b.toNat
        refine ⟨fun c hc2 => ?_, by simp; omega⟩
        rcases List.mem_cons.1 hc2 with h3 | h3
        · omega
        · exact i1 c h3
    · cases h
/-- what is left of it -/
def LeftH (out : List Nat) (r : List UInt8) (T : Option (List Nat)) : Prop := (hexO r).map (fun t => out ++ t) = T
theorem LeftH.first (l : List UInt8) : LeftH [] l (hexO l) := by unfold LeftH; cases hexO l <;> rfl
theorem LeftH.fin {out : List Nat} {T : Option (List Nat)} (h : LeftH out [] T) : T = some out := by
  unfold LeftH at h; rw [← h]; simp [hexO]
theorem LeftH.two {out : List Nat} {a b : UInt8} {r : List UInt8} {T : Option (List Nat)} (h : LeftH out (a :: b :: r) T) (h1 : 0 ≤ halfC a.toNat) (h2 : 0 ≤ halfC b.toNat) : LeftH (out ++ [(16 * halfC a.toNat + halfC b.toNat).toNat]) r T := by
  unfold LeftH at *
  rw [hexO, if_pos ⟨h1, h2⟩] at h
  rw [← h]
  cases hexO r with
  | none => rfl
  | some t => simp
theorem LeftH.bad {out : List Nat} {a b : UInt8} {r : List UInt8} {T : Option (List Nat)} (h : LeftH out (a :: b :: r) T) (h1 : ¬ (0 ≤ halfC a.toNat ∧ 0 ≤ halfC b.toNat)) : T = none := by
  unfold LeftH at h
  rw [hexO, if_neg h1] at h
  exact h.symm
/-- a name's bytes -/
def lowB (c : UInt8) : Bool := decide (97 ≤ c.toNat ∧ c.toNat ≤ 122)
def nameC (c : UInt8) : Bool := decide ((97 ≤ c.toNat ∧ c.toNat ≤ 122) ∨ (48 ≤ c.toNat ∧ c.toNat ≤ 57))
def allN (l : List UInt8) : Bool := l.all nameC
def nameB (l : List UInt8) : Bool := decide (l.length ≤ 12) && (match l with | [] => false | c :: _ => lowB c && allN l)
theorem allN_stop {l : List UInt8} {k : Nat} (h : k < l.length) (hc : nameC l[k] = false) : allN l = false := by
  unfold allN
  rw [List.all_eq_false]
  exact ⟨l[k], List.getElem_mem h, by rw [hc]; simp⟩
theorem allN_next {l : List UInt8} {k : Nat} (h : k < l.length) (ha : allN (l.take k) = true) (hc : nameC l[k] = true) : allN (l.take (k + 1)) = true := by
  unfold allN at *
  rw [← List.take_append_getElem h, List.all_append, ha]
  simp [hc]
/-- a number from least to most -/
def numB (l : List UInt8) (lo hi : Int) : Bool := decide (readE l = 0 ∧ lo ≤ readV l ∧ readV l ≤ hi)
def numV (l : List UInt8) (lo hi : Int) : Int := if numB l lo hi = true then readV l else 0
theorem readV_bd (l : List UInt8) : -9223372036854775808 ≤ readV l ∧ readV l ≤ 9223372036854775807 := by
  have hf : ∀ n : Int, -9223372036854775808 ≤ fitV n ∧ fitV n ≤ 9223372036854775807 := fun n => by
    unfold fitV
    split
    · rename_i h; exact (fitB_iff n).1 h
    · omega
  have hc : ∀ t m, -9223372036854775808 ≤ coreV t m ∧ coreV t m ≤ 9223372036854775807 := fun t m => by
    unfold coreV
    split
    · omega
    · exact hf _
  unfold readV
  split <;> exact hc _ _
end Go.Proofs.YtagkgneijdbkoaaDoor
