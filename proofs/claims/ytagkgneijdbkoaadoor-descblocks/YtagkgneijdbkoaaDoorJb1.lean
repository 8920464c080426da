/-
  Texts that belong together, one behind the other: RegProps4. Conditions: as each says.
-/
import Derived.Test.YtagkgneijdbkoaaDoorJn1
/-
  A region that draws its order: as RegProps3 has it, and what has come up is closed under the edges. No function of a program is named here. Conditions: as each says.
-/
namespace Go.Proofs.YtagkgneijdbkoaaDoor
set_option linter.unusedVariables false

/-- whatever has come up, what it waits for has come up, too -/
def ClosedB (L : List Oper) (x : Array Bool) : Prop := ∀ (j : Nat) (o : Oper), L[j]? = some o → x.getD j false = true → ∀ e ∈ o.after, Region.binds .any e = true → x.getD e.on false = true
theorem ClosedB.at {L : List Oper} {x : Array Bool} (h : ClosedB L x) {j : Nat} {o : Oper} (ho : L[j]? = some o) {k : Nat} (hk : (o.after.any fun e => Region.binds .any e && e.on == k) = true) (hx : x.getD j false = true) : x.getD k false = true := dep_at (h j o ho hx) hk
theorem getD_put_true {x : Array Bool} {i j : Nat} (h : x.getD j false = true) : (x.setIfInBounds i true).getD j false = true := by
  by_cases e : i = j
  · subst e
    refine getD_set_at ?_
    rw [Array.getD_eq_getD_getElem?] at h
    cases hx : x[i]? with
    | none => rw [hx] at h; cases h
    | some b => exact (Array.getElem?_eq_some_iff.1 hx).1
  · rw [getD_set_ne false e]; exact h
theorem region_props4 {G : Type} {P : Program} {id : Nat} {L : List Oper} {Q : Exit → Act → World → Prop} (Pv : G → Nat → Value → Prop) (W : G → Array Bool → World → Prop) (g0 : G) {a0 : Act} {w0 : World}
    (hm : P.follows .mixedOrders = true) (hb : regB L a0.tmps.size = true)
    (step : ∀ (γ : G) x a w i o, L[i]? = some o → RegI L a0.tmps a0.defers (fun i v _ => Pv γ i v) x a w → (∀ e ∈ o.after, Region.binds .any e = true → x.getD e.on false = true) → ClosedB L x → x.size = L.length → x.getD i true = false → W γ x w →
      o.wp P a w (fun a' w' => ∃ v γ', a' = a.put o.dst v ∧ (∀ d, o.dst = some d → Pv γ' i v) ∧ (∀ j v, x.getD j false = true → Pv γ j v → Pv γ' j v) ∧ W γ' (x.setIfInBounds i true) w') Q)
    (fin : ∀ γ x a w, x.size = L.length → (∀ i, i < L.length → x.getD i false = true) → RegI L a0.tmps a0.defers (fun i v _ => Pv γ i v) x a w → W γ x w → Q .normal a w)
    (h0 : W g0 (Array.replicate L.length false) { w0 with drawn := w0.drawn + 1 }) : (Code.region id L.toArray true).wp P Q a0 w0 := by
  refine region_props3 (G := G) (fun γ _ i v _ => Pv γ i v) (fun γ x w => W γ x w ∧ ClosedB L x) g0 hm hb ?_ ?_ ⟨h0, ?_⟩
  · rintro γ x a w i o ho hI haf hx hxi ⟨hW, hc⟩
    refine Oper.wp_mono ?_ (step γ x a w i o ho hI haf hc hx hxi hW)
    rintro a' w' ⟨v, γ', e, hv, hk, hw⟩
    refine ⟨v, γ', e, hv, hk, hw, fun j p hp hj e' he' hb' => ?_⟩
    by_cases hji : j = i
    · subst hji
      rw [ho] at hp
      cases hp
      exact getD_put_true (haf e' he' hb')
    · rw [getD_set_ne false (Ne.symm hji)] at hj
      exact getD_put_true (hc j p hp hj e' he' hb')
  · rintro γ x a w hx hall hI ⟨hW, _⟩
    exact fin γ x a w hx hall hI hW
  · intro j o _ hj
    exfalso
    rw [Array.getD_eq_getD_getElem?] at hj
    by_cases hlt : j < L.length
    · rw [Array.getElem?_replicate, if_pos hlt] at hj
      cases hj
    · rw [Array.getElem?_replicate, if_neg hlt] at hj
      cases hj
end Go.Proofs.YtagkgneijdbkoaaDoor
