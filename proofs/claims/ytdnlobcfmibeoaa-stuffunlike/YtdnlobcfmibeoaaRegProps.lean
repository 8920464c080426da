/-
  A region that draws its order: each operation yields a value of its kind, whatever has come up, and keeps what is said of memory; then so it is at the end. No function of a program is named here. Conditions: as each says.
-/
import Derived.Test.YtdnlobcfmibeoaaRegInv
namespace Go.Proofs.Ytdnlobcfmibeoaa
set_option linter.unusedVariables false

/-- slots that are written are written once, are there; no operation is guarded; edges go back -/
def regB (L : List Oper) (n : Nat) : Bool :=
  backB .any L && ((List.range L.length).all fun i => match L[i]? with
    | none => true
    | some o => o.guard.isNone && (match o.dst with
      | none => true
      | some d => decide (d < n) && ((List.range i).all fun j => match L[j]? with
        | none => true
        | some p => !decide (p.dst = some d))))
theorem regB_spec {L : List Oper} {n : Nat} (h : regB L n = true) {i : Nat} {o : Oper} (ho : L[i]? = some o) : o.guard = none ∧ ∀ d, o.dst = some d → d < n ∧ ∀ j p, j < i → L[j]? = some p → p.dst ≠ some d := by
  have h := (Bool.and_eq_true_iff.1 h).2
  have hi : i < L.length := (List.getElem?_eq_some_iff.1 ho).1
  have k := List.all_eq_true.1 h i (List.mem_range.2 hi)
  simp only [ho, Bool.and_eq_true] at k
  refine ⟨Option.isNone_iff_eq_none.1 k.1, fun d hd => ?_⟩
  have k2 := k.2
  rw [hd] at k2
  simp only [Bool.and_eq_true, decide_eq_true_eq] at k2
  refine ⟨k2.1, fun j p hj hp e => ?_⟩
  have k3 := List.all_eq_true.1 k2.2 j (List.mem_range.2 hj)
  simp only [hp, e] at k3
  simp at k3
theorem regB_ne {L : List Oper} {n : Nat} (h : regB L n = true) {i j : Nat} {o p : Oper} (ho : L[i]? = some o) (hp : L[j]? = some p) (hij : i ≠ j) {d : Tmp} (hd : o.dst = some d) : p.dst ≠ some d := by
  rcases Nat.lt_or_gt_of_ne hij with hlt | hgt
  · intro e; exact ((regB_spec h hp).2 d e).2 i o hlt ho hd
  · exact ((regB_spec h ho).2 d hd).2 j p hgt hp
/-- what is known of an activation -/
structure RegI (L : List Oper) (T0 : Array Value) (D0 : List Deferred) (Pv : Nat → Value → World → Prop) (x : Array Bool) (a : Act) (w : World) : Prop where
  dfr : a.defers = D0
  size : a.tmps.size = T0.size
  old : ∀ t, (∀ (i : Nat) (o : Oper), L[i]? = some o → o.dst ≠ some t) → a.tmps.getD t undef = T0.getD t undef
  val : ∀ (i : Nat) (o : Oper) (d : Tmp), L[i]? = some o → o.dst = some d → x.getD i false = true → Pv i (a.tmps.getD d undef) w
def notDst (L : List Oper) (t : Tmp) : Bool := L.all fun o => !decide (o.dst = some t)
theorem RegI.was {L : List Oper} {T0 : Array Value} {D0 : List Deferred} {Pv : Nat → Value → World → Prop} {x : Array Bool} {a : Act} {w : World} (h : RegI L T0 D0 Pv x a w) {t : Tmp} (hn : notDst L t = true) : a.tmps.getD t undef = T0.getD t undef :=
  h.old t fun i o ho e => by
    have := List.all_eq_true.1 hn o (List.mem_of_getElem? ho)
    simp [e] at this
theorem dep_at {o : Oper} {x : Array Bool} (h : ∀ e ∈ o.after, Region.binds .any e = true → x.getD e.on false = true) {j : Nat} (hj : (o.after.any fun e => Region.binds .any e && e.on == j) = true) : x.getD j false = true := by
  rw [Array.any_eq_true'] at hj
  obtain ⟨e, he, hq⟩ := hj
  rw [Bool.and_eq_true, beq_iff_eq] at hq
  rw [← hq.2]
  exact h e he hq.1
theorem getD_false {x : Array Bool} {i : Nat} (h : x.getD i true = false) : x.getD i false = false := by
  rw [Array.getD_eq_getD_getElem?] at *
  cases hx : x[i]? with
  | none => rfl
  | some b => rw [hx] at h; exact h
theorem getD_set_at {x : Array Bool} {i : Nat} (h : i < x.size) : (x.setIfInBounds i true).getD i false = true := by simp [Array.getD_eq_getD_getElem?, h]
theorem put_at (a : Act) {d : Tmp} (v : Value) (h : d < a.tmps.size) : (a.put (some d) v).tmps.getD d undef = v := by simp [Act.put, Array.getD_eq_getD_getElem?, h]
theorem put_off (a : Act) {d t : Tmp} (v : Value) (h : d ≠ t) : (a.put (some d) v).tmps.getD t undef = a.tmps.getD t undef := by simp [Act.put, Array.getD_eq_getD_getElem?, Array.getElem?_setIfInBounds_ne h]
/-- what the values are is kept -/
def RegK (Pv : Nat → Value → World → Prop) (x : Array Bool) (w w' : World) : Prop := ∀ j v, x.getD j false = true → Pv j v w → Pv j v w'
theorem RegK.refl (Pv : Nat → Value → World → Prop) (x : Array Bool) (w : World) : RegK Pv x w w := fun _ _ _ h => h
theorem region_props {P : Program} {id : Nat} {L : List Oper} {Q : Exit → Act → World → Prop} (Pv : Nat → Value → World → Prop) (W : Array Bool → World → Prop) {a0 : Act} {w0 : World}
    (hm : P.follows .mixedOrders = true) (hb : regB L a0.tmps.size = true)
    (step : ∀ x a w i o, L[i]? = some o → RegI L a0.tmps a0.defers Pv x a w → (∀ e ∈ o.after, Region.binds .any e = true → x.getD e.on false = true) → x.size = L.length → x.getD i true = false → W x w →
      o.wp P a w (fun a' w' => ∃ v, a' = a.put o.dst v ∧ (∀ d, o.dst = some d → Pv i v w') ∧ RegK Pv x w w' ∧ W (x.setIfInBounds i true) w') Q)
    (fin : ∀ x a w, x.size = L.length → (∀ i, i < L.length → x.getD i false = true) → RegI L a0.tmps a0.defers Pv x a w → W x w → Q .normal a w)
    (h0 : W (Array.replicate L.length false) { w0 with drawn := w0.drawn + 1 }) : (Code.region id L.toArray true).wp P Q a0 w0 := by
  refine wp_region_any hm ?_
  have hs : L.toArray.size = L.length := List.size_toArray
  refine wpAny_inv (fun x a w => RegI L a0.tmps a0.defers Pv x a w ∧ W x w) ?_ ?_ _ _ _ _ (by simp) ?_ ?_
  · rintro x a w i hx ⟨hI, hW⟩ hr
    obtain ⟨h1, o, ho, haf⟩ := mem_ready.1 hr
    have ho' : L[i]? = some o := by rwa [List.getElem?_toArray] at ho
    have gd := regB_spec hb ho'
    have hwant : Region.wanted o (yielded L.toArray a.tmps) = true := by unfold Region.wanted; rw [gd.1]
    unfold wpOp
    simp only [ho, hwant, if_true]
    refine .inl (Oper.wp_mono ?_ (step x a w i o ho' hI haf (by rw [hx, hs]) h1 hW))
    rintro a' w' ⟨v, rfl, hv, hrl, hW'⟩
    refine ⟨?_, hW'⟩
    have hxi : i < x.size := by rw [hx]; exact (Array.getElem?_eq_some_iff.1 ho).1
    cases hd : o.dst with
    | none =>
      refine ⟨hI.dfr, hI.size, hI.old, fun j p d hp hpd hxj => ?_⟩
      have hji : j ≠ i := fun e => by
        subst e
        rw [ho'] at hp
        cases hp
        rw [hd] at hpd
        cases hpd
      rw [getD_set_ne false (Ne.symm hji)] at hxj
      exact hrl _ _ hxj (hI.val j p d hp hpd hxj)
    | some d =>
      have gdd := gd.2 d hd
      refine ⟨hI.dfr, ?_, fun t ht => ?_, fun j p e hp hpe hxj => ?_⟩
      · show (a.tmps.setIfInBounds d v).size = _
        rw [Array.size_setIfInBounds]; exact hI.size
      · rw [put_off a v (fun e => ht i o ho' (by rw [hd, e]))]; exact hI.old t ht
      · by_cases hji : j = i
        · subst hji
          rw [ho'] at hp
          cases hp
          rw [hd] at hpe
          cases hpe
          rw [put_at a v (by rw [hI.size]; exact gdd.1)]
          exact hv d hd
        · rw [getD_set_ne false (Ne.symm hji)] at hxj
          have hne := regB_ne hb ho' hp (Ne.symm hji) hd
          rw [put_off a v (fun h => hne (by rw [hpe, h]))]
          exact hrl _ _ hxj (hI.val j p e hp hpe hxj)
  · rintro x a w hx ⟨hI, hW⟩ hr
    refine fin x a w (by rw [hx, hs]) (fun i hi => ?_) hI hW
    cases hf : x.getD i false with
    | true => rfl
    | false =>
      obtain ⟨j, hj, hj2⟩ := ready_some (Bool.and_eq_true_iff.1 hb).1 (by rw [hx, hs]) i hi hf
      rw [hr] at hj2
      cases hj2
  · have e : ∀ n : Nat, left (Array.replicate n false) = n := fun n => by unfold left; simp
    rw [e, hs]
    exact Nat.le_refl _
  · refine ⟨⟨rfl, rfl, fun _ _ => rfl, fun i o d _ _ hx => ?_⟩, by rw [hs]; exact h0⟩
    exfalso
    rw [Array.getD_eq_getD_getElem?] at hx
    by_cases hlt : i < L.length
    · rw [Array.getElem?_replicate, hs, if_pos hlt] at hx
      cases hx
    · rw [Array.getElem?_replicate, hs, if_neg hlt] at hx
      cases hx
end Go.Proofs.Ytdnlobcfmibeoaa
