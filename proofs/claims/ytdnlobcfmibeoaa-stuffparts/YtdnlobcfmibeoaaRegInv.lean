/-
  A region that draws its order: what every operation keeps, whatever has come up, holds at the end. No function of a program is named here. Conditions: as each says.
-/
import Derived.Test.YtdnlobcfmibeoaaRoundL
namespace Go.Proofs.Ytdnlobcfmibeoaa
set_option linter.unusedVariables false

theorem wpAny_inv {P : Program} {md : Region.Mode} {ops : Array Oper} {Q : Exit → Act → World → Prop} (I : Array Bool → Act → World → Prop)
    (step : ∀ x a w i, x.size = ops.size → I x a w → i ∈ Region.ready md ops x → wpOp P ops Q i (I (x.setIfInBounds i true)) a w)
    (fin : ∀ x a w, x.size = ops.size → I x a w → Region.ready md ops x = [] → Q .normal a w) :
    ∀ (fuel : Nat) (x : Array Bool) (a : Act) (w : World), x.size = ops.size → left x ≤ fuel → I x a w → wpAny P md ops Q fuel x a w := by
  intro fuel
  induction fuel with
  | zero =>
    intro x a w hx hl h
    have hr : Region.ready md ops x = [] := by
      refine List.eq_nil_iff_forall_not_mem.2 fun i hi => ?_
      obtain ⟨h1, o, ho, _⟩ := mem_ready.1 hi
      have hlt : i < x.size := by rw [hx]; exact (Array.getElem?_eq_some_iff.1 ho).1
      have h2 := left_zero (Nat.le_zero.1 hl) i hlt
      rw [Array.getD_eq_getD_getElem?, Array.getElem?_eq_getElem hlt] at h1 h2
      simp at h1 h2
      rw [h1] at h2
      cases h2
    exact ⟨hr, fin x a w hx h hr⟩
  | succ fuel ih =>
    intro x a w hx hl h
    refine ⟨fun hr => fin x a w hx h hr, fun i hi => wpOp_mono (fun a' w' h' => ih _ a' w' (by simpa using hx) ?_ h') (step x a w i hx h hi)⟩
    obtain ⟨h1, o, ho, _⟩ := mem_ready.1 hi
    have hlt : i < x.size := by rw [hx]; exact (Array.getElem?_eq_some_iff.1 ho).1
    have := left_set hlt h1
    omega
end Go.Proofs.Ytdnlobcfmibeoaa
