/-
  A region that draws its order and holds guarded operations: as RegProps3 has it; an operation whose guard is off yields nothing. No function of a program is named here. Conditions: as each says.
-/
import Derived.Test.YtdnlobcfmibeoaaRegSome
namespace Go.Proofs.Ytdnlobcfmibeoaa
set_option linter.unusedVariables false

/-- slots that are written are written once, are there; edges go back -/
def regG (L : List Oper) (n : Nat) : Bool :=
  backB .any L && ((List.range L.length).all fun i => match L[i]? with
    | none => true
    | some o => (match o.dst with
      | none => true
      | some d => decide (d < n) && ((List.range i).all fun j => match L[j]? with
        | none => true
        | some p => !decide (p.dst = some d))))
theorem regG_spec {L : List Oper} {n : Nat} (h : regG L n = true) {i : Nat} {o : Oper} (ho : L[i]? = some o) : ∀ d, o.dst = some d → d < n ∧ ∀ j p, j < i → L[j]? = some p → p.dst ≠ some d := by
  have h := (Bool.and_eq_true_iff.1 h).2
  have hi : i < L.length := (List.getElem?_eq_some_iff.1 ho).1
  have k := List.all_eq_true.1 h i (List.mem_range.2 hi)
  simp only [ho] at k
  intro d hd
  rw [hd] at k
  simp only [Bool.and_eq_true, decide_eq_true_eq] at k
  refine ⟨k.1, fun j p hj hp e => ?_⟩
  have k3 := List.all_eq_true.1 k.2 j (List.mem_range.2 hj)
  simp only [hp, e] at k3
  simp at k3
theorem regG_ne {L : List Oper} {n : Nat} (h : regG L n = true) {i j : Nat} {o p : Oper} (ho : L[i]? = some o) (hp : L[j]? = some p) (hij : i ≠ j) {d : Tmp} (hd : o.dst = some d) : p.dst ≠ some d := by
  rcases Nat.lt_or_gt_of_ne hij with hlt | hgt
  · intro e; exact (regG_spec h hp d e).2 i o hlt ho hd
  · exact (regG_spec h ho d hd).2 j p hgt hp
/-- is a guarded operation wanted? -/
theorem wanted_is {L : List Oper} {T : Array Value} {o p : Oper} {g : Nat} {b b' : Bool} {d : Tmp} (hg : o.guard = some (g, b)) (hp : L[g]? = some p) (hd : p.dst = some d) (hlt : d < T.size) (hv : T.getD d undef = .bool b') : Region.wanted o (yielded L.toArray T) = (b' == b) := by
  have h2 : T[d]? = some (.bool b') := by
    rw [Array.getD_eq_getD_getElem?, Array.getElem?_eq_getElem hlt] at hv
    rw [Array.getElem?_eq_getElem hlt]
    exact congrArg some hv
  have h3 : yielded L.toArray T g = some b' := by
    unfold yielded
    rw [List.getElem?_toArray, hp]
    simp only [Option.bind_some, hd, h2]
  unfold Region.wanted
  rw [hg]
  simp only [h3]
  cases b <;> cases b' <;> rfl
theorem wanted_on {L : List Oper} {T : Array Value} {o p : Oper} {g : Nat} {b : Bool} {d : Tmp} (hg : o.guard = some (g, b)) (hp : L[g]? = some p) (hd : p.dst = some d) (hlt : d < T.size) (hv : T.getD d undef = .bool b) : Region.wanted o (yielded L.toArray T) = true := by rw [wanted_is hg hp hd hlt hv]; cases b <;> rfl
theorem wanted_off {L : List Oper} {T : Array Value} {o p : Oper} {g : Nat} {b : Bool} {d : Tmp} (hg : o.guard = some (g, b)) (hp : L[g]? = some p) (hd : p.dst = some d) (hlt : d < T.size) (hv : T.getD d undef = .bool (!b)) : Region.wanted o (yielded L.toArray T) = false := by rw [wanted_is hg hp hd hlt hv]; cases b <;> rfl
theorem wanted_all {L : List Oper} {T : Array Value} {o : Oper} (hg : o.guard = none) : Region.wanted o (yielded L.toArray T) = true := by unfold Region.wanted; rw [hg]
theorem region_propsG {G : Type} {P : Program} {id : Nat} {L : List Oper} {Q : Exit → Act → World → Prop} (Pv : G → Nat → Value → Prop) (W : G → Array Bool → World → Prop) (g0 : G) {a0 : Act} {w0 : World}
    (hm : P.follows .mixedOrders = true) (hb : regG L a0.tmps.size = true)
    (step : ∀ (γ : G) x a w i o, L[i]? = some o → RegI L a0.tmps a0.defers (fun i v _ => Pv γ i v) x a w → (∀ e ∈ o.after, Region.binds .any e = true → x.getD e.on false = true) → x.size = L.length → x.getD i true = false → W γ x w →
      (Region.wanted o (yielded L.toArray a.tmps) = true ∧ o.wp P a w (fun a' w' => ∃ v γ', a' = a.put o.dst v ∧ (∀ d, o.dst = some d → Pv γ' i v) ∧ (∀ j v, x.getD j false = true → Pv γ j v → Pv γ' j v) ∧ W γ' (x.setIfInBounds i true) w') Q)
      ∨ (Region.wanted o (yielded L.toArray a.tmps) = false ∧ (∀ d, o.dst = some d → Pv γ i undef) ∧ W γ (x.setIfInBounds i true) w))
    (fin : ∀ γ x a w, x.size = L.length → (∀ i, i < L.length → x.getD i false = true) → RegI L a0.tmps a0.defers (fun i v _ => Pv γ i v) x a w → W γ x w → Q .normal a w)
    (h0 : W g0 (Array.replicate L.length false) { w0 with drawn := w0.drawn + 1 }) : (Code.region id L.toArray true).wp P Q a0 w0 := by
  refine wp_region_any hm ?_
  have hs : L.toArray.size = L.length := List.size_toArray
  have keep : ∀ (γ γ' : G) x a w w' i o v, x.size = L.toArray.size → L[i]? = some o → RegI L a0.tmps a0.defers (fun i v _ => Pv γ i v) x a w → (∀ d, o.dst = some d → Pv γ' i v) → (∀ j v, x.getD j false = true → Pv γ j v → Pv γ' j v) → RegI L a0.tmps a0.defers (fun i v _ => Pv γ' i v) (x.setIfInBounds i true) (a.put o.dst v) w' := by
    intro γ γ' x a w w' i o v hx ho' hI hv hrl
    have gd := regG_spec hb ho'
    cases hd : o.dst with
    | none =>
      refine ⟨hI.dfr, hI.size, hI.old, fun j p d hp hpd hxj => ?_⟩
      have hji : j ≠ i := fun e => by
        subst e
        rw [ho'] at hp
        cases hp
        rw [hd] at hpd
        cases hpd
      rw [getD_set_ne false (Ne.symm hji)] at hxj
      exact hrl _ _ hxj (hI.val j p d hp hpd hxj)
    | some d =>
      have gdd := gd d hd
      refine ⟨hI.dfr, ?_, fun t ht => ?_, fun j p e hp hpe hxj => ?_⟩
      · show (a.tmps.setIfInBounds d v).size = _
        rw [Array.size_setIfInBounds]; exact hI.size
      · rw [put_off a v (fun e => ht i o ho' (by rw [hd, e]))]; exact hI.old t ht
      · by_cases hji : j = i
        · subst hji
          rw [ho'] at hp
          cases hp
          rw [hd] at hpe
          cases hpe
          rw [put_at a v (by rw [hI.size]; exact gdd.1)]
          exact hv d hd
        · rw [getD_set_ne false (Ne.symm hji)] at hxj
          have hne := regG_ne hb ho' hp (Ne.symm hji) hd
          rw [put_off a v (fun h => hne (by rw [hpe, h]))]
          exact hrl _ _ hxj (hI.val j p e hp hpe hxj)
  refine wpAny_inv (fun x a w => ∃ γ, RegI L a0.tmps a0.defers (fun i v _ => Pv γ i v) x a w ∧ W γ x w) ?_ ?_ _ _ _ _ (by simp) ?_ ?_
  · rintro x a w i hx ⟨γ, hI, hW⟩ hr
    obtain ⟨h1, o, ho, haf⟩ := mem_ready.1 hr
    have ho' : L[i]? = some o := by rwa [List.getElem?_toArray] at ho
    unfold wpOp
    simp only [ho]
    rcases step γ x a w i o ho' hI haf (by rw [hx, hs]) h1 hW with ⟨hw, hwp⟩ | ⟨hw, hv, hW'⟩
    · rw [if_pos hw]
      refine .inl (Oper.wp_mono ?_ hwp)
      rintro a' w' ⟨v, γ', rfl, hv, hrl, hW'⟩
      exact ⟨γ', keep γ γ' x a w w' i o v hx ho' hI hv hrl, hW'⟩
    · rw [if_neg (by rw [hw]; decide)]
      exact ⟨γ, keep γ γ x a w w i o undef hx ho' hI hv (fun _ _ _ h => h), hW'⟩
  · rintro x a w hx ⟨γ, hI, hW⟩ hr
    refine fin γ x a w (by rw [hx, hs]) (fun i hi => ?_) hI hW
    cases hf : x.getD i false with
    | true => rfl
    | false =>
      obtain ⟨j, hj, hj2⟩ := ready_some (Bool.and_eq_true_iff.1 hb).1 (by rw [hx, hs]) i hi hf
      rw [hr] at hj2
      cases hj2
  · have e : ∀ n : Nat, left (Array.replicate n false) = n := fun n => by unfold left; simp
    rw [e, hs]
    exact Nat.le_refl _
  · refine ⟨g0, ⟨rfl, rfl, fun _ _ => rfl, fun i o d _ _ hx => ?_⟩, by rw [hs]; exact h0⟩
    exfalso
    rw [Array.getD_eq_getD_getElem?] at hx
    by_cases hlt : i < L.length
    · rw [Array.getElem?_replicate, hs, if_pos hlt] at hx
      cases hx
    · rw [Array.getElem?_replicate, hs, if_neg hlt] at hx
      cases hx
/-- the slots behind it -/
theorem RegI.slotsG {L : List Oper} {T0 : Array Value} {D0 : List Deferred} {V : Nat → Value} {x : Array Bool} {a : Act} {w : World} (h : RegI L T0 D0 (fun i v _ => v = V i) x a w) (hb : regG L T0.size = true) (hall : ∀ i, i < L.length → x.getD i false = true) (t : Tmp) {i : Nat} {o : Oper} (ho : L[i]? = some o) (hd : o.dst = some t) : a.tmps.getD t undef = V i :=
  h.val i o t ho hd (hall i (List.getElem?_eq_some_iff.1 ho).1)
end Go.Proofs.Ytdnlobcfmibeoaa
