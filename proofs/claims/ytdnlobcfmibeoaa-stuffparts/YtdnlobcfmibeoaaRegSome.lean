/-
  A region that draws its order: the slots behind it, whatever its operations yielded. No function of a program is named here. No conditions but those that each says.
-/
import Derived.Test.YtdnlobcfmibeoaaRegProps3
namespace Go.Proofs.Ytdnlobcfmibeoaa
set_option linter.unusedVariables false

theorem RegI.slots {L : List Oper} {T0 : Array Value} {D0 : List Deferred} {Pv : Nat → Value → World → Prop} {x : Array Bool} {a : Act} {w : World} (h : RegI L T0 D0 Pv x a w) (hb : regB L T0.size = true) (hall : ∀ i, i < L.length → x.getD i false = true) : ∃ V : Nat → Value, a = ⟨putsL V L 0 T0, D0⟩ := by
  refine ⟨fun i => match L[i]? with
    | some o => (match o.dst with
      | some d => a.tmps.getD d undef
      | none => undef)
    | none => undef, ?_⟩
  refine RegI.tmps (x := x) (w := w) ⟨h.dfr, h.size, h.old, fun i o d ho hd _ => ?_⟩ hb hall
  simp only [ho, hd]
end Go.Proofs.Ytdnlobcfmibeoaa
