/-
  A region that draws its order, only reads (its callees, too) but for its last operation, which comes behind all others: one walk in the order of the text serves every order; also within a round of a range over a function. Conditions: as each says.
-/
import Derived.Test.YtdnlobcfmibeoaaRoundQ
import Derived.TacticsIn
namespace Go.Proofs.Ytdnlobcfmibeoaa
set_option linter.unusedVariables false

/-- what is asked behind all but the last operation -/
def behind (F : Fence) (n : Nat) (P : Program) (ops : Array Oper) (M : Nat) (Q : Exit → Act → World → Prop) : Exit → Act → World → Prop
  | .normal, a, w => wpOpIn F n P ops Q M (fun a w => Q .normal a w) a w
  | e, a, w => Q e a w
theorem upon_behind {F : Fence} {n : Nat} {P : Program} {Q : Exit → Act → World → Prop} {ops : Array Oper} {M : Nat} {o : Oper} {a : Act} {K : Act → World → Prop} {r : Result Next} (h : o.uponIn F n P a K (behind F n P ops M Q) r) : o.uponIn F n P a K Q r := by
  cases r with
  | ok x w' =>
    cases x with
    | value v => exact h
    | skip => exact h
    | defer d => exact h
    | enter f args => exact ⟨h.1, h.2.mono fun e w'' he => by cases e <;> exact he⟩
    | row row args => exact h
    | round l f tmps assign body => exact ⟨h.1, h.2.mono fun e w'' he => by cases e <;> exact he⟩
    | _ => exact h.elim
  | halt x w' =>
    cases x with
    | panic v => exact h
    | _ => exact h.elim
/-- edges go back, guards look at earlier ones -/
def backB (md : Region.Mode) (L : List Oper) : Bool :=
  (List.range L.length).all fun i => match L[i]? with
    | none => true
    | some o => (o.after.all fun e => !Region.binds md e || decide (e.on < i)) && (match o.guard with | none => true | some (j, _) => decide (j < i))
theorem backB_spec {md : Region.Mode} {L : List Oper} (h : backB md L = true) {i : Nat} {o : Oper} (ho : L[i]? = some o) : (∀ e ∈ o.after, Region.binds md e = true → e.on < i) ∧ ∀ j b, o.guard = some (j, b) → j < i := by
  have hi : i < L.length := (List.getElem?_eq_some_iff.1 ho).1
  have := List.all_eq_true.1 h i (List.mem_range.2 hi)
  simp only [ho, Bool.and_eq_true] at this
  refine ⟨fun e he hb => ?_, fun j b hg => ?_⟩
  · have q := Array.all_eq_true'.1 this.1 e he
    rw [hb] at q
    simpa using q
  · have q := this.2
    rw [hg] at q
    simpa using q
/-- the last one comes behind all others -/
def lastB (md : Region.Mode) (M : Nat) (o : Oper) : Bool := (List.range M).all fun j => o.after.any fun e => Region.binds md e && e.on == j
theorem lastB_spec {md : Region.Mode} {M : Nat} {o : Oper} (h : lastB md M o = true) {j : Nat} (hj : j < M) : ∃ e ∈ o.after, Region.binds md e = true ∧ e.on = j := by
  have := List.all_eq_true.1 h j (List.mem_range.2 hj)
  rw [Array.any_eq_true'] at this
  obtain ⟨e, he, hq⟩ := this
  rw [Bool.and_eq_true, beq_iff_eq] at hq
  exact ⟨e, he, hq⟩
theorem getD_push {x : Array Bool} {i : Nat} {d b : Bool} (h : i < x.size) : (x.push b).getD i d = x.getD i d := by
  simp [Array.getD_eq_getD_getElem?, Array.getElem?_push, Nat.ne_of_lt h]
theorem getD_push_last {x : Array Bool} {d b : Bool} : (x.push b).getD x.size d = b := by
  simp [Array.getD_eq_getD_getElem?]
theorem ops_at {l : List Oper} {o : Oper} {i : Nat} (h : i < l.length) : (l ++ [o]).toArray[i]? = l.toArray[i]? := by
  rw [List.getElem?_toArray, List.getElem?_toArray, List.getElem?_append_left h]
theorem ops_last {l : List Oper} {o : Oper} : (l ++ [o]).toArray[l.length]? = some o := by
  rw [List.getElem?_toArray, List.getElem?_append_right (Nat.le_refl _)]; simp
theorem ready_at {md : Region.Mode} {l : List Oper} {o : Oper} (hb : backB md (l ++ [o]) = true) {x : Array Bool} (hx : x.size = l.length) {i : Nat} (hi : i < l.length) : i ∈ Region.ready md (l ++ [o]).toArray (x.push false) ↔ i ∈ Region.ready md l.toArray x := by
  rw [mem_ready, mem_ready, getD_push (by omega), ops_at hi]
  refine and_congr_right fun _ => ?_
  refine exists_congr fun p => and_congr_right fun hp => ?_
  have hp' : (l ++ [o])[i]? = some p := by rw [List.getElem?_append_left hi]; rwa [List.getElem?_toArray] at hp
  refine forall_congr' fun e => forall_congr' fun he => forall_congr' fun hbn => ?_
  have := (backB_spec hb hp').1 e he hbn
  rw [getD_push (by omega)]
theorem ready_last {md : Region.Mode} {l : List Oper} {o : Oper} (hb : backB md (l ++ [o]) = true) (hl : lastB md l.length o = true) {x : Array Bool} (hx : x.size = l.length) : l.length ∈ Region.ready md (l ++ [o]).toArray (x.push false) ↔ ∀ j, j < l.length → x.getD j false = true := by
  rw [mem_ready, ops_last]
  constructor
  · rintro ⟨_, p, hp, h⟩ j hj
    obtain rfl := Option.some.inj hp
    obtain ⟨e, he, h1, rfl⟩ := lastB_spec hl hj
    have := h e he h1
    rwa [getD_push (by omega)] at this
  · intro h
    refine ⟨by rw [← hx]; exact getD_push_last, o, rfl, fun e he hbn => ?_⟩
    have hp' : (l ++ [o])[l.length]? = some o := by rw [List.getElem?_append_right (Nat.le_refl _)]; simp
    have := (backB_spec hb hp').1 e he hbn
    rw [getD_push (by omega)]
    exact h _ this
/-- where one is not listed, one is ready -/
theorem ready_some {md : Region.Mode} {L : List Oper} (hb : backB md L = true) {x : Array Bool} (hx : x.size = L.length) : ∀ k, k < L.length → x.getD k false = false → ∃ i, i < L.length ∧ i ∈ Region.ready md L.toArray x := by
  intro k
  induction k using Nat.strongRecOn with
  | ind k ih =>
    intro hk hf
    by_cases h : ∃ j, j < k ∧ x.getD j false = false
    · obtain ⟨j, h1, h2⟩ := h
      exact ih j h1 (by omega) h2
    · refine ⟨k, hk, ?_⟩
      rw [mem_ready]
      have hf' : x.getD k true = false := by
        rw [Array.getD_eq_getD_getElem?, Array.getElem?_eq_getElem (by omega)] at hf ⊢
        exact hf
      refine ⟨hf', L[k], by rw [List.getElem?_toArray, List.getElem?_eq_getElem hk], fun e he hbn => ?_⟩
      have := (backB_spec hb (List.getElem?_eq_getElem hk)).1 e he hbn
      cases hq : x.getD e.on false with
      | true => rfl
      | false => exact absurd ⟨e.on, this, hq⟩ h
theorem wanted_at {md : Region.Mode} {l : List Oper} {o p : Oper} {i : Nat} (hb : backB md (l ++ [o]) = true) (hi : i < l.length) (hp : l.toArray[i]? = some p) (tmps : Array Value) : Region.wanted p (yielded (l ++ [o]).toArray tmps) = Region.wanted p (yielded l.toArray tmps) := by
  have hp' : (l ++ [o])[i]? = some p := by rw [List.getElem?_append_left hi]; rwa [List.getElem?_toArray] at hp
  unfold Region.wanted
  cases hg : p.guard with
  | none => rfl
  | some jb =>
    obtain ⟨j, b⟩ := jb
    have hj := (backB_spec hb hp').2 j b hg
    simp only [yielded, ops_at (show j < l.length by omega)]
theorem wpOpIn_behind {F : Fence} {n : Nat} {P : Program} {md : Region.Mode} {Q : Exit → Act → World → Prop} {l : List Oper} {o : Oper} (hb : backB md (l ++ [o]) = true) {i : Nat} (hi : i < l.length) {K K' : Act → World → Prop} (hK : ∀ a w, K a w → K' a w) {a : Act} {w : World} (h : wpOpIn F n P l.toArray (behind F n P (l ++ [o]).toArray l.length Q) i K a w) : wpOpIn F n P (l ++ [o]).toArray Q i K' a w := by
  refine wpOpIn_mono hK ?_
  unfold wpOpIn at *
  rw [ops_at hi]
  cases hp : l.toArray[i]? with
  | none => simpa [hp] using h
  | some p =>
    simp only [hp] at h ⊢
    rw [wanted_at hb hi hp]
    by_cases hw : Region.wanted p (yielded l.toArray a.tmps) = true
    · simp only [hw, if_true, Oper.wpIn] at h ⊢
      exact ⟨h.1, upon_behind h.2⟩
    · simp only [hw] at h ⊢
      exact h
def left (x : Array Bool) : Nat := x.toList.count false
theorem left_set {x : Array Bool} {i : Nat} (h : i < x.size) (hf : x.getD i true = false) : left (x.setIfInBounds i true) + 1 = left x := by
  unfold left
  rw [Array.toList_setIfInBounds]
  have hl : i < x.toList.length := by simpa using h
  have hv : x.toList[i] = false := by
    rw [Array.getD_eq_getD_getElem?, Array.getElem?_eq_getElem h] at hf
    simpa using hf
  rw [List.count_set hl, hv, if_pos (by decide), if_neg (by decide)]
  have : 0 < x.toList.count false := List.count_pos_iff.2 (by rw [← hv]; exact List.getElem_mem hl)
  omega
theorem left_zero {x : Array Bool} (h : left x = 0) : ∀ j, j < x.size → x.getD j false = true := by
  intro j hj
  unfold left at h
  rw [List.count_eq_zero] at h
  rw [Array.getD_eq_getD_getElem?, Array.getElem?_eq_getElem hj]
  cases hq : x[j] with
  | true => rfl
  | false => exact absurd (by rw [← hq]; simp) h
theorem left_pos {x : Array Bool} (h : 0 < left x) : ∃ j, j < x.size ∧ x.getD j false = false := by
  unfold left at h
  obtain ⟨j, hj, hq⟩ := List.getElem_of_mem (List.count_pos_iff.1 h)
  have hj' : j < x.size := by simpa using hj
  refine ⟨j, hj', ?_⟩
  rw [Array.getD_eq_getD_getElem?, Array.getElem?_eq_getElem hj']
  simpa using hq
theorem set_push {x : Array Bool} {i : Nat} (h : i < x.size) : (x.push false).setIfInBounds i true = (x.setIfInBounds i true).push false := by
  apply Array.ext'
  simp [h]
theorem wpAnyIn_last {F : Fence} {n : Nat} {P : Program} {md : Region.Mode} {Q : Exit → Act → World → Prop} {l : List Oper} {o : Oper} (hb : backB md (l ++ [o]) = true) (hl : lastB md l.length o = true) :
    ∀ (fuel : Nat) (x : Array Bool) (a : Act) (w : World), x.size = l.length → left x = fuel → wpAnyIn F n P md l.toArray (behind F n P (l ++ [o]).toArray l.length Q) fuel x a w → wpAnyIn F n P md (l ++ [o]).toArray Q (fuel + 1) (x.push false) a w
  | 0, x, a, w, hx, hf, h => by
    have all := left_zero hf
    refine ⟨fun h0 => ?_, fun i hi => ?_⟩
    · have := (ready_last hb hl hx).2 (fun j hj => all j (by omega))
      rw [h0] at this; cases this
    · have hlt : i < (l ++ [o]).length := by
        obtain ⟨_, p, hp, _⟩ := mem_ready.1 hi
        rw [List.getElem?_toArray] at hp
        exact (List.getElem?_eq_some_iff.1 hp).1
      rw [List.length_append, List.length_singleton] at hlt
      have hil : i = l.length := by
        by_cases h1 : i < l.length
        · have := mem_ready.1 hi
          rw [getD_push (by omega)] at this
          have q := all i (by omega)
          have e := this.1
          rw [Array.getD_eq_getD_getElem?, Array.getElem?_eq_getElem (by omega)] at q e
          simp at q e
          rw [q] at e; cases e
        · omega
      subst hil
      refine wpOpIn_mono (fun a w hq => ⟨?_, hq⟩) h.2
      refine List.eq_nil_iff_forall_not_mem.2 fun j hj => ?_
      obtain ⟨h1, p, hp, _⟩ := mem_ready.1 hj
      have hjl : j < (l ++ [o]).length := by rw [List.getElem?_toArray] at hp; exact (List.getElem?_eq_some_iff.1 hp).1
      rw [List.length_append, List.length_singleton] at hjl
      rw [Array.getD_eq_getD_getElem?, Array.getElem?_setIfInBounds] at h1
      by_cases hjj : l.length = j
      · rw [if_pos hjj] at h1
        rw [if_pos (by rw [Array.size_push]; omega)] at h1
        cases h1
      · rw [if_neg hjj, ← Array.getD_eq_getD_getElem?, getD_push (by omega)] at h1
        have q := all j (by omega)
        rw [Array.getD_eq_getD_getElem?, Array.getElem?_eq_getElem (by omega)] at q h1
        simp at q h1
        rw [q] at h1; cases h1
  | fuel + 1, x, a, w, hx, hf, h => by
    obtain ⟨k, hk, hkf⟩ := left_pos (x := x) (by omega)
    have hbl : backB md l = true := by
      unfold backB
      rw [List.all_eq_true]
      intro i hi
      have hi := List.mem_range.1 hi
      have hp' : (l ++ [o])[i]? = some l[i] := by rw [List.getElem?_append_left hi, List.getElem?_eq_getElem hi]
      have q := backB_spec hb hp'
      simp only [List.getElem?_eq_getElem hi, Bool.and_eq_true]
      refine ⟨Array.all_eq_true'.2 fun e he => ?_, ?_⟩
      · cases hbn : Region.binds md e with
        | false => rfl
        | true => simpa using q.1 e he hbn
      · cases hg : l[i].guard with
        | none => rfl
        | some jb => obtain ⟨j, b⟩ := jb; simpa using q.2 j b hg
    obtain ⟨r, hr1, hr2⟩ := ready_some hbl hx k (by omega) hkf
    refine ⟨fun h0 => ?_, fun i hi => ?_⟩
    · have := (ready_at hb hx hr1).2 hr2
      rw [h0] at this; cases this
    · have hlt : i < (l ++ [o]).length := by
        obtain ⟨_, p, hp, _⟩ := mem_ready.1 hi
        rw [List.getElem?_toArray] at hp
        exact (List.getElem?_eq_some_iff.1 hp).1
      rw [List.length_append, List.length_singleton] at hlt
      have hi1 : i < l.length := by
        by_cases h1 : i < l.length
        · exact h1
        · have : i = l.length := by omega
          subst this
          have := (ready_last hb hl hx).1 hi k (by omega)
          rw [hkf] at this; cases this
      have hi2 := (ready_at hb hx hi1).1 hi
      rw [set_push (by omega)]
      refine wpOpIn_behind hb hi1 (fun a w hq => wpAnyIn_last hb hl fuel _ a w (by simp [hx]) ?_ hq) (h.2 i hi2)
      have := left_set (x := x) (i := i) (by omega) (mem_ready.1 hi2).1
      omega
/-- all but the last, and the last -/
theorem wpAny_last {F : Fence} {n : Nat} {P : Program} {Q : Exit → Act → World → Prop} {a : Act} {w : World} {l : List Oper} {o : Oper} (hro : F.round = none) (hB : Region.lexB .any l.toArray = true) (hb : backB .any (l ++ [o]) = true) (hl : lastB .any l.length o = true)
    (h : wpQuietIn F n P l.toArray (fun w' => ∃ n, w' = w.drewN n) (fun a' => ∀ w', (∃ n, w' = w.drewN n) → wpListIn F n P (l ++ [o]).toArray Q [o] a' w') l a) : wpAnyIn F n P .any (l ++ [o]).toArray Q (l ++ [o]).toArray.size (Array.replicate (l ++ [o]).toArray.size false) a { w with drawn := w.drawn + 1 } := by
  have hB' := hB
  simp only [Region.lexB, Bool.and_eq_true] at hB
  have key : wpAnyIn F n P .any l.toArray (behind F n P (l ++ [o]).toArray l.length Q) l.length (Array.replicate l.length false) a { w with drawn := w.drawn + 1 } := by
    have q := wpAnyQIn_lex (F := F) (n := n) (C := fun w' => ∃ n, w' = w.drewN n) (md := .any) (Q := fun a' => ∀ w', (∃ n, w' = w.drewN n) → wpListIn F n P (l ++ [o]).toArray Q [o] a' w') hB.1 l.toArray.toList 0 (Array.replicate l.toArray.size false) a (by simp) (by simpa using hB.2) (by simpa using h)
    have q' := wpAnyIn_of_quiet (Q' := behind F n P (l ++ [o]).toArray l.length Q) hro (fun a' w' hw' hh => ?_) _ _ _ _ (show (fun w' => ∃ n, w' = w.drewN n) { w with drawn := w.drawn + 1 } from ⟨1, rfl⟩) q
    · simpa using q'
    · have := hh w' hw'
      show wpOpIn F n P (l ++ [o]).toArray Q l.length (fun a w => Q .normal a w) a' w'
      unfold wpOpIn
      rw [ops_last]
      exact this
  have k2 := wpAnyIn_last hb hl l.length (Array.replicate l.length false) a { w with drawn := w.drawn + 1 } (by simp) (by unfold left; simp) key
  have e : (Array.replicate l.length false).push false = Array.replicate (l ++ [o]).toArray.size false := by
    rw [List.size_toArray, List.length_append, List.length_singleton, Array.replicate_succ]
  rw [← e, List.size_toArray, List.length_append, List.length_singleton]
  exact k2
theorem wpIn_region_last_round {F : Fence} {n : Nat} {P : Program} {id r : Nat} {Q : Exit → Act → World → Prop} {a : Act} {w : World} {l : List Oper} {o : Oper} (hro : F.round = none) (hm : P.follows .mixedOrders = true) (hB : Region.lexB .any l.toArray = true) (hb : backB .any (l ++ [o]) = true) (hl : lastB .any l.length o = true) (hd : noDefer (l ++ [o]) = true)
    (h : wpQuietIn F n P l.toArray (fun w' => ∃ n, w' = w.drewN n) (fun a' => ∀ w', (∃ n, w' = w.drewN n) → wpListIn F n P (l ++ [o]).toArray Q [o] a' w') l a) : (Code.region id (l ++ [o]).toArray true).wpIn (F.inRound r) n P Q a w :=
  wpIn_region_any hm (wpAnyIn_round hro (noDefer_spec hd) _ _ _ _ (wpAny_last hro hB hb hl h))
/-- the same, of a region that is written out -/
theorem region_last_round {F : Fence} {n : Nat} {P : Program} {id r : Nat} {Q : Exit → Act → World → Prop} {a : Act} {w : World} {L : List Oper} (hne : L ≠ []) (hro : F.round = none) (hm : P.follows .mixedOrders = true) (hB : Region.lexB .any L.dropLast.toArray = true) (hb : backB .any L = true) (hl : lastB .any L.dropLast.length (L.getLast hne) = true) (hd : noDefer L = true)
    (h : wpQuietIn F n P L.dropLast.toArray (fun w' => ∃ n, w' = w.drewN n) (fun a' => ∀ w', (∃ n, w' = w.drewN n) → wpListIn F n P L.toArray Q [L.getLast hne] a' w') L.dropLast a) : (Code.region id L.toArray true).wpIn (F.inRound r) n P Q a w := by
  have e : L.dropLast ++ [L.getLast hne] = L := List.dropLast_concat_getLast hne
  have k := wpIn_region_last_round (l := L.dropLast) (o := L.getLast hne) (id := id) (r := r) (Q := Q) (a := a) (w := w) hro hm hB (by rw [e]; exact hb) hl (by rw [e]; exact hd) (by rw [e]; exact h)
  rw [e] at k
  exact k
/-- the same, where there is no round -/
theorem region_last {F : Fence} {n : Nat} {P : Program} {id : Nat} {Q : Exit → Act → World → Prop} {a : Act} {w : World} {L : List Oper} (hne : L ≠ []) (hro : F.round = none) (hm : P.follows .mixedOrders = true) (hB : Region.lexB .any L.dropLast.toArray = true) (hb : backB .any L = true) (hl : lastB .any L.dropLast.length (L.getLast hne) = true)
    (h : wpQuietIn F n P L.dropLast.toArray (fun w' => ∃ n, w' = w.drewN n) (fun a' => ∀ w', (∃ n, w' = w.drewN n) → wpListIn F n P L.toArray Q [L.getLast hne] a' w') L.dropLast a) : (Code.region id L.toArray true).wpIn F n P Q a w := by
  have e : L.dropLast ++ [L.getLast hne] = L := List.dropLast_concat_getLast hne
  have k := wpAny_last (l := L.dropLast) (o := L.getLast hne) (Q := Q) (a := a) (w := w) hro hB (by rw [e]; exact hb) hl (by rw [e]; exact h)
  rw [e] at k
  exact wpIn_region_any hm k
end Go.Proofs.Ytdnlobcfmibeoaa
