/-
  A region that draws its order: as RegProps2 has it, but what is said may hang on what was chosen on the way (a block, a result). No function of a program is named here. Conditions: as each says.
-/
import Derived.Test.YtdnlobcfmibeoaaRegProps
namespace Go.Proofs.Ytdnlobcfmibeoaa
set_option linter.unusedVariables false

theorem region_props3 {G : Type} {P : Program} {id : Nat} {L : List Oper} {Q : Exit → Act → World → Prop} (Pv : G → Array Bool → Nat → Value → World → Prop) (W : G → Array Bool → World → Prop) (g0 : G) {a0 : Act} {w0 : World}
    (hm : P.follows .mixedOrders = true) (hb : regB L a0.tmps.size = true)
    (step : ∀ (γ : G) x a w i o, L[i]? = some o → RegI L a0.tmps a0.defers (Pv γ x) x a w → (∀ e ∈ o.after, Region.binds .any e = true → x.getD e.on false = true) → x.size = L.length → x.getD i true = false → W γ x w →
      o.wp P a w (fun a' w' => ∃ v γ', a' = a.put o.dst v ∧ (∀ d, o.dst = some d → Pv γ' (x.setIfInBounds i true) i v w') ∧ (∀ j v, x.getD j false = true → Pv γ x j v w → Pv γ' (x.setIfInBounds i true) j v w') ∧ W γ' (x.setIfInBounds i true) w') Q)
    (fin : ∀ γ x a w, x.size = L.length → (∀ i, i < L.length → x.getD i false = true) → RegI L a0.tmps a0.defers (Pv γ x) x a w → W γ x w → Q .normal a w)
    (h0 : W g0 (Array.replicate L.length false) { w0 with drawn := w0.drawn + 1 }) : (Code.region id L.toArray true).wp P Q a0 w0 := by
  refine wp_region_any hm ?_
  have hs : L.toArray.size = L.length := List.size_toArray
  refine wpAny_inv (fun x a w => ∃ γ, RegI L a0.tmps a0.defers (Pv γ x) x a w ∧ W γ x w) ?_ ?_ _ _ _ _ (by simp) ?_ ?_
  · rintro x a w i hx ⟨γ, hI, hW⟩ hr
    obtain ⟨h1, o, ho, haf⟩ := mem_ready.1 hr
    have ho' : L[i]? = some o := by rwa [List.getElem?_toArray] at ho
    have gd := regB_spec hb ho'
    have hwant : Region.wanted o (yielded L.toArray a.tmps) = true := by unfold Region.wanted; rw [gd.1]
    unfold wpOp
    simp only [ho, hwant, if_true]
    refine .inl (Oper.wp_mono ?_ (step γ x a w i o ho' hI haf (by rw [hx, hs]) h1 hW))
    rintro a' w' ⟨v, γ', rfl, hv, hrl, hW'⟩
    refine ⟨γ', ?_, hW'⟩
    have hxi : i < x.size := by rw [hx]; exact (Array.getElem?_eq_some_iff.1 ho).1
    cases hd : o.dst with
    | none =>
      refine ⟨hI.dfr, hI.size, hI.old, fun j p d hp hpd hxj => ?_⟩
      have hji : j ≠ i := fun e => by
        subst e
        rw [ho'] at hp
        cases hp
        rw [hd] at hpd
        cases hpd
      rw [getD_set_ne false (Ne.symm hji)] at hxj
      exact hrl _ _ hxj (hI.val j p d hp hpd hxj)
    | some d =>
      have gdd := gd.2 d hd
      refine ⟨hI.dfr, ?_, fun t ht => ?_, fun j p e hp hpe hxj => ?_⟩
      · show (a.tmps.setIfInBounds d v).size = _
        rw [Array.size_setIfInBounds]; exact hI.size
      · rw [put_off a v (fun e => ht i o ho' (by rw [hd, e]))]; exact hI.old t ht
      · by_cases hji : j = i
        · subst hji
          rw [ho'] at hp
          cases hp
          rw [hd] at hpe
          cases hpe
          rw [put_at a v (by rw [hI.size]; exact gdd.1)]
          exact hv d hd
        · rw [getD_set_ne false (Ne.symm hji)] at hxj
          have hne := regB_ne hb ho' hp (Ne.symm hji) hd
          rw [put_off a v (fun h => hne (by rw [hpe, h]))]
          exact hrl _ _ hxj (hI.val j p e hp hpe hxj)
  · rintro x a w hx ⟨γ, hI, hW⟩ hr
    refine fin γ x a w (by rw [hx, hs]) (fun i hi => ?_) hI hW
    cases hf : x.getD i false with
    | true => rfl
    | false =>
      obtain ⟨j, hj, hj2⟩ := ready_some (Bool.and_eq_true_iff.1 hb).1 (by rw [hx, hs]) i hi hf
      rw [hr] at hj2
      cases hj2
  · have e : ∀ n : Nat, left (Array.replicate n false) = n := fun n => by unfold left; simp
    rw [e, hs]
    exact Nat.le_refl _
  · refine ⟨g0, ⟨rfl, rfl, fun _ _ => rfl, fun i o d _ _ hx => ?_⟩, by rw [hs]; exact h0⟩
    exfalso
    rw [Array.getD_eq_getD_getElem?] at hx
    by_cases hlt : i < L.length
    · rw [Array.getElem?_replicate, hs, if_pos hlt] at hx
      cases hx
    · rw [Array.getElem?_replicate, hs, if_neg hlt] at hx
      cases hx
/-- the slots behind a region each of whose operations yields a value that is known -/
def putsL (V : Nat → Value) : List Oper → Nat → Array Value → Array Value
  | [], _, T => T
  | o :: L, i, T => putsL V L (i + 1) (match o.dst with
    | some d => T.setIfInBounds d (V i)
    | none => T)
theorem putsL_size (V : Nat → Value) : ∀ (L : List Oper) (i : Nat) (T : Array Value), (putsL V L i T).size = T.size
  | [], _, _ => rfl
  | o :: L, i, T => by
    unfold putsL
    rw [putsL_size V L]
    split
    · exact Array.size_setIfInBounds
    · rfl
theorem putsL_off (V : Nat → Value) (t : Tmp) : ∀ (L : List Oper) (i : Nat) (T : Array Value), (∀ (j : Nat) (o : Oper), L[j]? = some o → o.dst ≠ some t) → (putsL V L i T).getD t undef = T.getD t undef
  | [], _, _, _ => rfl
  | o :: L, i, T, h => by
    unfold putsL
    rw [putsL_off V t L _ _ (fun j p hp => h (j + 1) p hp)]
    have h0 := h 0 o rfl
    cases hd : o.dst with
    | none => rfl
    | some d =>
      have hn : d ≠ t := fun e => h0 (by rw [hd, e])
      simp only
      rw [Array.getD_eq_getD_getElem?, Array.getD_eq_getD_getElem?, Array.getElem?_setIfInBounds_ne hn]
theorem putsL_at (V : Nat → Value) {d : Tmp} : ∀ (L : List Oper) (i : Nat) (T : Array Value) (j : Nat) (o : Oper), L[j]? = some o → o.dst = some d → d < T.size → (∀ (k : Nat) (p : Oper), k ≠ j → L[k]? = some p → p.dst ≠ some d) → (putsL V L i T).getD d undef = V (i + j)
  | [], _, _, j, o, ho, _, _, _ => by cases ho
  | p :: L, i, T, 0, o, ho, hd, hs, hu => by
    obtain rfl : p = o := Option.some.inj ho
    unfold putsL
    rw [putsL_off V d L _ _ (fun k q hq => hu (k + 1) q (by omega) hq), hd]
    simp only
    rw [Array.getD_eq_getD_getElem?, Array.getElem?_setIfInBounds_self_of_lt hs]
    rfl
  | p :: L, i, T, j + 1, o, ho, hd, hs, hu => by
    unfold putsL
    rw [putsL_at V L (i + 1) _ j o ho hd (by split <;> simpa using hs) (fun k q hk hq => hu (k + 1) q (by omega) hq)]
    congr 1
    omega
theorem RegI.tmps {L : List Oper} {T0 : Array Value} {D0 : List Deferred} {V : Nat → Value} {x : Array Bool} {a : Act} {w : World} (h : RegI L T0 D0 (fun i v _ => v = V i) x a w) (hb : regB L T0.size = true) (hall : ∀ i, i < L.length → x.getD i false = true) : a = ⟨putsL V L 0 T0, D0⟩ := by
  obtain ⟨T, D⟩ := a
  have e1 : D = D0 := h.dfr
  subst e1
  have e2 : T.size = T0.size := h.size
  congr 1
  refine Array.ext (by rw [e2, putsL_size]) fun t h1 h2 => ?_
  have g : T.getD t undef = (putsL V L 0 T0).getD t undef := by
    by_cases hc : ∃ (i : Nat) (o : Oper), L[i]? = some o ∧ o.dst = some t
    · obtain ⟨i, o, ho, hd⟩ := hc
      have k := h.val i o t ho hd (hall i (List.getElem?_eq_some_iff.1 ho).1)
      rw [putsL_at V L 0 T0 i o ho hd ((regB_spec hb ho).2 t hd).1 (fun j p hj hp => regB_ne hb ho hp (Ne.symm hj) hd), Nat.zero_add]
      exact k
    · have hn : ∀ (i : Nat) (o : Oper), L[i]? = some o → o.dst ≠ some t := fun i o ho hd => hc ⟨i, o, ho, hd⟩
      rw [putsL_off V t L 0 T0 hn]
      exact h.old t hn
  rw [Array.getD_eq_getD_getElem?, Array.getD_eq_getD_getElem?, Array.getElem?_eq_getElem h1, Array.getElem?_eq_getElem h2] at g
  exact g
end Go.Proofs.Ytdnlobcfmibeoaa
