/-
  Texts that belong together, one behind the other: OffsK. Conditions: as each says.
-/
import Derived.KernelRfl
import Derived.Tactics2
/-
  Operations of a region that are not wanted are passed over, many at a stroke. No function of a program is named here. No conditions but those that each says.
-/
namespace Go.Proofs.YtagkgneijdbkoaaDoor
open Go
set_option linter.unusedVariables false

def isUndef : Value → Bool
  | .tuple a => a.size == 0
  | _ => false
theorem isUndef_eq {v : Value} (h : isUndef v = true) : v = undef := by
  cases v with
  | tuple a =>
    have e : a.size = 0 := by simpa [isUndef] using h
    rw [Array.eq_empty_of_size_eq_zero e]; rfl
  | _ => cases h
def offB (ops : Array Oper) (tmps : Array Value) (o : Oper) : Bool :=
  !(Region.wanted o (yielded ops tmps)) && (match o.dst with
    | some d => isUndef (tmps.toList.getD d undef)
    | none => true)
theorem put_same (a : Act) (o : Oper) (h : (match o.dst with
    | some d => isUndef (a.tmps.toList.getD d undef)
    | none => true) = true) : a.put o.dst undef = a := by
  cases hd : o.dst with
  | none => rfl
  | some d =>
    rw [hd] at h
    have e := isUndef_eq h
    obtain ⟨T, D⟩ := a
    show (⟨T.setIfInBounds d undef, D⟩ : Act) = ⟨T, D⟩
    congr 1
    refine Array.ext (by simp) fun i h1 h2 => ?_
    rw [Array.getElem_setIfInBounds]
    split
    · rename_i hi
      subst hi
      have k : T.toList.getD d undef = T[d] := by
        rw [List.getD_eq_getElem?_getD, Array.getElem?_toList, Array.getElem?_eq_getElem h2]; rfl
      have e2 : T.toList.getD d undef = undef := e
      rw [← e2, k]
    · rfl
theorem wpList_offs {P : Program} {ops : Array Oper} {Q : Exit → Act → World → Prop} {a : Act} {w : World} : ∀ (n : Nat) {l : List Oper}, (l.take n).all (offB ops a.tmps) = true → wpList P ops Q (l.drop n) a w → wpList P ops Q l a w
  | 0, l, _, h => h
  | n + 1, [], _, h => h
  | n + 1, o :: l, hw, h => by
    rw [List.take_succ_cons, List.all_cons, Bool.and_eq_true] at hw
    have h1 := hw.1
    unfold offB at h1
    rw [Bool.and_eq_true, Bool.not_eq_true'] at h1
    refine wpList_skip h1.1 ?_
    rw [put_same a o h1.2]
    exact wpList_offs n hw.2 h
end Go.Proofs.YtagkgneijdbkoaaDoor
