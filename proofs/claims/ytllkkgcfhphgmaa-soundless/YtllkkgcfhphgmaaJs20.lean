/-
  Texts that belong together, one behind the other: RoundQ, RoundL, RegInv, RegProps, RegProps3, RegSome. Conditions: as each says.
-/
import Derived.Lib.QuietBelowIn
import Derived.RangeFuncCalls
import Derived.Sort.BigQuietIn
import Derived.TacticsIn
import Derived.Test.YtllkkgcfhphgmaaProg
/-
  A region that draws its order and only reads (its callees, too), within a round of a range over a function: one walk in the order of the text serves every order. Conditions: the fence outside has no round, no operation of the region is a defer statement.
-/
namespace Go.Proofs.Ytllkkgcfhphgmaa
set_option linter.unusedVariables false

def noDefer (l : List Oper) : Bool := l.all fun o => match o.op with | .defer _ => false | _ => true
theorem noDefer_spec {l : List Oper} (h : noDefer l = true) : ∀ (i : Nat) (o : Oper), l.toArray[i]? = some o → ∀ c, o.op ≠ .defer c := by
  intro i o ho c hc
  have hm : o ∈ l := by
    rw [List.getElem?_toArray] at ho
    exact List.mem_of_getElem? ho
  have := List.all_eq_true.1 h o hm
  rw [hc] at this
  cases this
theorem wpOpIn_round {F : Fence} {n : Nat} {P : Program} {ops : Array Oper} {Q : Exit → Act → World → Prop} {l i : Nat} {K : Act → World → Prop} {a : Act} {w : World} (hro : F.round = none) (hd : ∀ (i : Nat) (o : Oper), ops[i]? = some o → ∀ c, o.op ≠ .defer c)
    (h : wpOpIn F n P ops Q i K a w) : wpOpIn (F.inRound l) n P ops Q i K a w := by
  unfold wpOpIn at *
  cases ho : ops[i]? with
  | none => simpa [ho] using h
  | some o =>
    simp only [ho] at h ⊢
    by_cases hw : Region.wanted o (yielded ops a.tmps) = true
    · simp only [hw, if_true, Oper.wpIn] at h ⊢
      refine ⟨h.1, ?_⟩
      have h2 := h.2
      rw [hro, Oper.semAt_none] at h2
      rw [Fence.inRound_round, Oper.semAt_some l _ _ (hd i o ho)]
      exact h2
    · simp only [hw] at h ⊢
      exact h
theorem wpAnyIn_round {F : Fence} {n : Nat} {P : Program} {md : Region.Mode} {ops : Array Oper} {Q : Exit → Act → World → Prop} {l : Nat} (hro : F.round = none) (hd : ∀ (i : Nat) (o : Oper), ops[i]? = some o → ∀ c, o.op ≠ .defer c) :
    ∀ (fuel : Nat) (listed : Array Bool) (a : Act) (w : World), wpAnyIn F n P md ops Q fuel listed a w → wpAnyIn (F.inRound l) n P md ops Q fuel listed a w
  | 0, _, _, _, h => h
  | fuel + 1, listed, a, w, h => ⟨h.1, fun i hi => wpOpIn_mono (fun a w => wpAnyIn_round hro hd fuel _ a w) (wpOpIn_round hro hd (h.2 i hi))⟩
theorem wpIn_region_quiet_round {F : Fence} {n : Nat} {P : Program} {id r : Nat} {Q : Exit → Act → World → Prop} {a : Act} {w : World} {l : List Oper} (hro : F.round = none) (hm : P.follows .mixedOrders = true) (hB : Region.lexB .any l.toArray = true) (hd : noDefer l = true)
    (h : wpQuietIn F n P l.toArray (fun w' => ∃ n, w' = w.drewN n) (fun a' => ∀ w', (∃ n, w' = w.drewN n) → Q .normal a' w') l a) : (Code.region id l.toArray true).wpIn (F.inRound r) n P Q a w := by
  have hB' := hB
  simp only [Region.lexB, Bool.and_eq_true] at hB
  refine wpIn_region_any hm (wpAnyIn_round hro (noDefer_spec hd) _ _ _ _ (wpAnyIn_of_quiet (C := fun w' => ∃ n, w' = w.drewN n) (Q := fun a' => ∀ w', (∃ n, w' = w.drewN n) → Q .normal a' w') hro (fun _ w' hw' h => h w' hw') _ _ _ _ ⟨1, rfl⟩ ?_))
  have := wpAnyQIn_lex (F := F) (n := n) (C := fun w' => ∃ n, w' = w.drewN n) (md := .any) hB.1 l.toArray.toList 0 (Array.replicate l.toArray.size false) a (by simp) (by simpa using hB.2) (by simpa using h)
  simpa using this
end Go.Proofs.Ytllkkgcfhphgmaa
/-
  A region that draws its order, only reads (its callees, too) but for its last operation, which comes behind all others: one walk in the order of the text serves every order; also within a round of a range over a function. Conditions: as each says.
-/
namespace Go.Proofs.Ytllkkgcfhphgmaa
set_option linter.unusedVariables false

/-- what is asked behind all but the last operation -/
def behind (F : Fence) (n : Nat) (P : Program) (ops : Array Oper) (M : Nat) (Q : Exit → Act → World → Prop) : Exit → Act → World → Prop
  | .normal, a, w => wpOpIn F n P ops Q M (fun a w => Q .normal a w) a w
  | e, a, w => Q e a w
theorem upon_behind {F : Fence} {n : Nat} {P : Program} {Q : Exit → Act → World → Prop} {ops : Array Oper} {M : Nat} {o : Oper} {a : Act} {K : Act → World → Prop} {r : Result Next} (h : o.uponIn F n P a K (behind F n P ops M Q) r) : o.uponIn F n P a K Q r := by
  cases r with
  | ok x w' =>
    cases x with
    | value v => exact h
    | skip => exact h
    | defer d => exact h
    | enter f args => exact ⟨h.1, h.2.mono fun e w'' he => by cases e <;> exact he⟩
    | row row args => exact h
    | round l f tmps assign body => exact ⟨h.1, h.2.mono fun e w'' he => by cases e <;> exact he⟩
    | _ => exact h.elim
  | halt x w' =>
    cases x with
    | panic v => exact h
    | _ => exact h.elim
/-- edges go back, guards look at earlier ones -/
def backB (md : Region.Mode) (L : List Oper) : Bool :=
  (List.range L.length).all fun i => match L[i]? with
    | none => true
    | some o => (o.after.all fun e => !Region.binds md e || decide (e.on < i)) && (match o.guard with | none => true | some (j, _) => decide (j < i))
theorem backB_spec {md : Region.Mode} {L : List Oper} (h : backB md L = true) {i : Nat} {o : Oper} (ho : L[i]? = some o) : (∀ e ∈ o.after, Region.binds md e = true → e.on < i) ∧ ∀ j b, o.guard = some (j, b) → j < i := by
  have hi : i < L.length := (List.getElem?_eq_some_iff.1 ho).1
  have := List.all_eq_true.1 h i (List.mem_range.2 hi)
  simp only [ho, Bool.and_eq_true] at this
  refine ⟨fun e he hb => ?_, fun j b hg => ?_⟩
  · have q := Array.all_eq_true'.1 this.1 e he
    rw [hb] at q
    simpa using q
  · have q := this.2
    rw [hg] at q
    simpa using q
/-- the last one comes behind all others -/
def lastB (md : Region.Mode) (M : Nat) (o : Oper) : Bool := (List.range M).all fun j => o.after.any fun e => Region.binds md e && e.on == j
theorem lastB_spec {md : Region.Mode} {M : Nat} {o : Oper} (h : lastB md M o = true) {j : Nat} (hj : j < M) : ∃ e ∈ o.after, Region.binds md e = true ∧ e.on = j := by
  have := List.all_eq_true.1 h j (List.mem_range.2 hj)
  rw [Array.any_eq_true'] at this
  obtain ⟨e, he, hq⟩ := this
  rw [Bool.and_eq_true, beq_iff_eq] at hq
  exact ⟨e, he, hq⟩
theorem getD_push {x : Array Bool} {i : Nat} {d b : Bool} (h : i < x.size) : (x.push b).getD i d = x.getD i d := by
  simp [Array.getD_eq_getD_getElem?, Array.getElem?_push, Nat.ne_of_lt h]
theorem getD_push_last {x : Array Bool} {d b : Bool} : (x.push b).getD x.size d = b := by
  simp [Array.getD_eq_getD_getElem?]
theorem ops_at {l : List Oper} {o : Oper} {i : Nat} (h : i < l.length) : (l ++ [o]).toArray[i]? = l.toArray[i]? := by
  rw [List.getElem?_toArray, List.getElem?_toArray, List.getElem?_append_left h]
theorem ops_last {l : List Oper} {o : Oper} : (l ++ [o]).toArray[l.length]? = some o := by
  rw [List.getElem?_toArray, List.getElem?_append_right (Nat.le_refl _)]; simp
theorem ready_at {md : Region.Mode} {l : List Oper} {o : Oper} (hb : backB md (l ++ [o]) = true) {x : Array Bool} (hx : x.size = l.length) {i : Nat} (hi : i < l.length) : i ∈ Region.ready md (l ++ [o]).toArray (x.push false) ↔ i ∈ Region.ready md l.toArray x := by
  rw [mem_ready, mem_ready, getD_push (by omega), ops_at hi]
  refine and_congr_right fun _ => ?_
  refine exists_congr fun p => and_congr_right fun hp => ?_
  have hp' : (l ++ [o])[i]? = some p := by rw [List.getElem?_append_left hi]; rwa [List.getElem?_toArray] at hp
  refine forall_congr' fun e => forall_congr' fun he => forall_congr' fun hbn => ?_
  have := (backB_spec hb hp').1 e he hbn
  rw [getD_push (by omega)]
theorem ready_last {md : Region.Mode} {l : List Oper} {o : Oper} (hb : backB md (l ++ [o]) = true) (hl : lastB md l.length o = true) {x : Array Bool} (hx : x.size = l.length) : l.length ∈ Region.ready md (l ++ [o]).toArray (x.push false) ↔ ∀ j, j < l.length → x.getD j false = true := by
  rw [mem_ready, ops_last]
  constructor
  · rintro ⟨_, p, hp, h⟩ j hj
    obtain rfl := Option.some.inj hp
    obtain ⟨e, he, h1, rfl⟩ := lastB_spec hl hj
    have := h e he h1
    rwa [getD_push (by omega)] at this
  · intro h
    refine ⟨by rw [← hx]; exact getD_push_last, o, rfl, fun e he hbn => ?_⟩
    have hp' : (l ++ [o])[l.length]? = some o := by rw [List.getElem?_append_right (Nat.le_refl _)]; simp
    have := (backB_spec hb hp').1 e he hbn
    rw [getD_push (by omega)]
    exact h _ this
/-- where one is not listed, one is ready -/
theorem ready_some {md : Region.Mode} {L : List Oper} (hb : backB md L = true) {x : Array Bool} (hx : x.size = L.length) : ∀ k, k < L.length → x.getD k false = false → ∃ i, i < L.length ∧ i ∈ Region.ready md L.toArray x := by
  intro k
  induction k using Nat.strongRecOn with
  | ind k ih =>
    intro hk hf
    by_cases h : ∃ j, j < k ∧ x.getD j false = false
    · obtain ⟨j, h1, h2⟩ := h
      exact ih j h1 (by omega) h2
    · refine ⟨k, hk, ?_⟩
      rw [mem_ready]
      have hf' : x.getD k true = false := by
        rw [Array.getD_eq_getD_getElem?, Array.getElem?_eq_getElem (by omega)] at hf ⊢
        exact hf
      refine ⟨hf', L[k], by rw [List.getElem?_toArray, List.getElem?_eq_getElem hk], fun e he hbn => ?_⟩
      have := (backB_spec hb (List.getElem?_eq_getElem hk)).1 e he hbn
      cases hq : x.getD e.on false with
      | true => rfl
      | false => exact absurd ⟨e.on, this, hq⟩ h
theorem wanted_at {md : Region.Mode} {l : List Oper} {o p : Oper} {i : Nat} (hb : backB md (l ++ [o]) = true) (hi : i < l.length) (hp : l.toArray[i]? = some p) (tmps : Array Value) : Region.wanted p (yielded (l ++ [o]).toArray tmps) = Region.wanted p (yielded l.toArray tmps) := by
  have hp' : (l ++ [o])[i]? = some p := by rw [List.getElem?_append_left hi]; rwa [List.getElem?_toArray] at hp
  unfold Region.wanted
  cases hg : p.guard with
  | none => rfl
  | some jb =>
    obtain ⟨j, b⟩ := jb
    have hj := (backB_spec hb hp').2 j b hg
    simp only [yielded, ops_at (show j < l.length by omega)]
theorem wpOpIn_behind {F : Fence} {n : Nat} {P : Program} {md : Region.Mode} {Q : Exit → Act → World → Prop} {l : List Oper} {o : Oper} (hb : backB md (l ++ [o]) = true) {i : Nat} (hi : i < l.length) {K K' : Act → World → Prop} (hK : ∀ a w, K a w → K' a w) {a : Act} {w : World} (h : wpOpIn F n P l.toArray (behind F n P (l ++ [o]).toArray l.length Q) i K a w) : wpOpIn F n P (l ++ [o]).toArray Q i K' a w := by
  refine wpOpIn_mono hK ?_
  unfold wpOpIn at *
  rw [ops_at hi]
  cases hp : l.toArray[i]? with
  | none => simpa [hp] using h
  | some p =>
    simp only [hp] at h ⊢
    rw [wanted_at hb hi hp]
    by_cases hw : Region.wanted p (yielded l.toArray a.tmps) = true
    · simp only [hw, if_true, Oper.wpIn] at h ⊢
      exact ⟨h.1, upon_behind h.2⟩
    · simp only [hw] at h ⊢
      exact h
def left (x : Array Bool) : Nat := x.toList.count false
theorem left_set {x : Array Bool} {i : Nat} (h : i < x.size) (hf : x.getD i true = false) : left (x.setIfInBounds i true) + 1 = left x := by
  unfold left
  rw [Array.toList_setIfInBounds]
  have hl : i < x.toList.length := by simpa using h
  have hv : x.toList[i] = false := by
    rw [Array.getD_eq_getD_getElem?, Array.getElem?_eq_getElem h] at hf
    simpa using hf
  rw [List.count_set hl, hv, if_pos (by decide), if_neg (by decide)]
  have : 0 < x.toList.count false := List.count_pos_iff.2 (by rw [← hv]; exact List.getElem_mem hl)
  omega
theorem left_zero {x : Array Bool} (h : left x = 0) : ∀ j, j < x.size → x.getD j false = true := by
  intro j hj
  unfold left at h
  rw [List.count_eq_zero] at h
  rw [Array.getD_eq_getD_getElem?, Array.getElem?_eq_getElem hj]
  cases hq : x[j] with
  | true => rfl
  | false => exact absurd (by rw [← hq]; simp) h
theorem left_pos {x : Array Bool} (h : 0 < left x) : ∃ j, j < x.size ∧ x.getD j false = false := by
  unfold left at h
  obtain ⟨j, hj, hq⟩ := List.getElem_of_mem (List.count_pos_iff.1 h)
  have hj' : j < x.size := by simpa using hj
  refine ⟨j, hj', ?_⟩
  rw [Array.getD_eq_getD_getElem?, Array.getElem?_eq_getElem hj']
  simpa using hq
theorem set_push {x : Array Bool} {i : Nat} (h : i < x.size) : (x.push false).setIfInBounds i true = (x.setIfInBounds i true).push false := by
  apply Array.ext'
  simp [h]
theorem wpAnyIn_last {F : Fence} {n : Nat} {P : Program} {md : Region.Mode} {Q : Exit → Act → World → Prop} {l : List Oper} {o : Oper} (hb : backB md (l ++ [o]) = true) (hl : lastB md l.length o = true) :
    ∀ (fuel : Nat) (x : Array Bool) (a : Act) (w : World), x.size = l.length → left x = fuel → wpAnyIn F n P md l.toArray (behind F n P (l ++ [o]).toArray l.length Q) fuel x a w → wpAnyIn F n P md (l ++ [o]).toArray Q (fuel + 1) (x.push false) a w
  | 0, x, a, w, hx, hf, h => by
    have all := left_zero hf
    refine ⟨fun h0 => ?_, fun i hi => ?_⟩
    · have := (ready_last hb hl hx).2 (fun j hj => all j (by omega))
      rw [h0] at this; cases this
    · have hlt : i < (l ++ [o]).length := by
        obtain ⟨_, p, hp, _⟩ := mem_ready.1 hi
        rw [List.getElem?_toArray] at hp
        exact (List.getElem?_eq_some_iff.1 hp).1
      rw [List.length_append, List.length_singleton] at hlt
      have hil : i = l.length := by
        by_cases h1 : i < l.length
        · have := mem_ready.1 hi
          rw [getD_push (by omega)] at this
          have q := all i (by omega)
          have e := this.1
          rw [Array.getD_eq_getD_getElem?, Array.getElem?_eq_getElem (by omega)] at q e
          simp at q e
          rw [q] at e; cases e
        · omega
      subst hil
      refine wpOpIn_mono (fun a w hq => ⟨?_, hq⟩) h.2
      refine List.eq_nil_iff_forall_not_mem.2 fun j hj => ?_
      obtain ⟨h1, p, hp, _⟩ := mem_ready.1 hj
      have hjl : j < (l ++ [o]).length := by rw [List.getElem?_toArray] at hp; exact (List.getElem?_eq_some_iff.1 hp).1
      rw [List.length_append, List.length_singleton] at hjl
      rw [Array.getD_eq_getD_getElem?, Array.getElem?_setIfInBounds] at h1
      by_cases hjj : l.length = j
      · rw [if_pos hjj] at h1
        rw [if_pos (by rw [Array.size_push]; omega)] at h1
        cases h1
      · rw [if_neg hjj, ← Array.getD_eq_getD_getElem?, getD_push (by omega)] at h1
        have q := all j (by omega)
        rw [Array.getD_eq_getD_getElem?, Array.getElem?_eq_getElem (by omega)] at q h1
        simp at q h1
        rw [q] at h1; cases h1
  | fuel + 1, x, a, w, hx, hf, h => by
    obtain ⟨k, hk, hkf⟩ := left_pos (x := x) (by omega)
    have hbl : backB md l = true := by
      unfold backB
      rw [List.all_eq_true]
      intro i hi
      have hi := List.mem_range.1 hi
      have hp' : (l ++ [o])[i]? = some l[i] := by rw [List.getElem?_append_left hi, List.getElem?_eq_getElem hi]
      have q := backB_spec hb hp'
      simp only [List.getElem?_eq_getElem hi, Bool.and_eq_true]
      refine ⟨Array.all_eq_true'.2 fun e he => ?_, ?_⟩
      · cases hbn : Region.binds md e with
        | false => rfl
        | true => simpa using q.1 e he hbn
      · cases hg : l[i].guard with
        | none => rfl
        | some jb => obtain ⟨j, b⟩ := jb; simpa using q.2 j b hg
    obtain ⟨r, hr1, hr2⟩ := ready_some hbl hx k (by omega) hkf
    refine ⟨fun h0 => ?_, fun i hi => ?_⟩
    · have := (ready_at hb hx hr1).2 hr2
      rw [h0] at this; cases this
    · have hlt : i < (l ++ [o]).length := by
        obtain ⟨_, p, hp, _⟩ := mem_ready.1 hi
        rw [List.getElem?_toArray] at hp
        exact (List.getElem?_eq_some_iff.1 hp).1
      rw [List.length_append, List.length_singleton] at hlt
      have hi1 : i < l.length := by
        by_cases h1 : i < l.length
        · exact h1
        · have : i = l.length := by omega
          subst this
          have := (ready_last hb hl hx).1 hi k (by omega)
          rw [hkf] at this; cases this
      have hi2 := (ready_at hb hx hi1).1 hi
      rw [set_push (by omega)]
      refine wpOpIn_behind hb hi1 (fun a w hq => wpAnyIn_last hb hl fuel _ a w (by simp [hx]) ?_ hq) (h.2 i hi2)
      have := left_set (x := x) (i := i) (by omega) (mem_ready.1 hi2).1
      omega
/-- all but the last, and the last -/
theorem wpAny_last {F : Fence} {n : Nat} {P : Program} {Q : Exit → Act → World → Prop} {a : Act} {w : World} {l : List Oper} {o : Oper} (hro : F.round = none) (hB : Region.lexB .any l.toArray = true) (hb : backB .any (l ++ [o]) = true) (hl : lastB .any l.length o = true)
    (h : wpQuietIn F n P l.toArray (fun w' => ∃ n, w' = w.drewN n) (fun a' => ∀ w', (∃ n, w' = w.drewN n) → wpListIn F n P (l ++ [o]).toArray Q [o] a' w') l a) : wpAnyIn F n P .any (l ++ [o]).toArray Q (l ++ [o]).toArray.size (Array.replicate (l ++ [o]).toArray.size false) a { w with drawn := w.drawn + 1 } := by
  have hB' := hB
  simp only [Region.lexB, Bool.and_eq_true] at hB
  have key : wpAnyIn F n P .any l.toArray (behind F n P (l ++ [o]).toArray l.length Q) l.length (Array.replicate l.length false) a { w with drawn := w.drawn + 1 } := by
    have q := wpAnyQIn_lex (F := F) (n := n) (C := fun w' => ∃ n, w' = w.drewN n) (md := .any) (Q := fun a' => ∀ w', (∃ n, w' = w.drewN n) → wpListIn F n P (l ++ [o]).toArray Q [o] a' w') hB.1 l.toArray.toList 0 (Array.replicate l.toArray.size false) a (by simp) (by simpa using hB.2) (by simpa using h)
    have q' := wpAnyIn_of_quiet (Q' := behind F n P (l ++ [o]).toArray l.length Q) hro (fun a' w' hw' hh => ?_) _ _ _ _ (show (fun w' => ∃ n, w' = w.drewN n) { w with drawn := w.drawn + 1 } from ⟨1, rfl⟩) q
    · simpa using q'
    · have := hh w' hw'
      show wpOpIn F n P (l ++ [o]).toArray Q l.length (fun a w => Q .normal a w) a' w'
      unfold wpOpIn
      rw [ops_last]
      exact this
  have k2 := wpAnyIn_last hb hl l.length (Array.replicate l.length false) a { w with drawn := w.drawn + 1 } (by simp) (by unfold left; simp) key
  have e : (Array.replicate l.length false).push false = Array.replicate (l ++ [o]).toArray.size false := by
    rw [List.size_toArray, List.length_append, List.length_singleton, Array.replicate_succ]
  rw [← e, List.size_toArray, List.length_append, List.length_singleton]
  exact k2
theorem wpIn_region_last_round {F : Fence} {n : Nat} {P : Program} {id r : Nat} {Q : Exit → Act → World → Prop} {a : Act} {w : World} {l : List Oper} {o : Oper} (hro : F.round = none) (hm : P.follows .mixedOrders = true) (hB : Region.lexB .any l.toArray = true) (hb : backB .any (l ++ [o]) = true) (hl : lastB .any l.length o = true) (hd : noDefer (l ++ [o]) = true)
    (h : wpQuietIn F n P l.toArray (fun w' => ∃ n, w' = w.drewN n) (fun a' => ∀ w', (∃ n, w' = w.drewN n) → wpListIn F n P (l ++ [o]).toArray Q [o] a' w') l a) : (Code.region id (l ++ [o]).toArray true).wpIn (F.inRound r) n P Q a w :=
  wpIn_region_any hm (wpAnyIn_round hro (noDefer_spec hd) _ _ _ _ (wpAny_last hro hB hb hl h))
/-- the same, of a region that is written out -/
theorem region_last_round {F : Fence} {n : Nat} {P : Program} {id r : Nat} {Q : Exit → Act → World → Prop} {a : Act} {w : World} {L : List Oper} (hne : L ≠ []) (hro : F.round = none) (hm : P.follows .mixedOrders = true) (hB : Region.lexB .any L.dropLast.toArray = true) (hb : backB .any L = true) (hl : lastB .any L.dropLast.length (L.getLast hne) = true) (hd : noDefer L = true)
    (h : wpQuietIn F n P L.dropLast.toArray (fun w' => ∃ n, w' = w.drewN n) (fun a' => ∀ w', (∃ n, w' = w.drewN n) → wpListIn F n P L.toArray Q [L.getLast hne] a' w') L.dropLast a) : (Code.region id L.toArray true).wpIn (F.inRound r) n P Q a w := by
  have e : L.dropLast ++ [L.getLast hne] = L := List.dropLast_concat_getLast hne
  have k := wpIn_region_last_round (l := L.dropLast) (o := L.getLast hne) (id := id) (r := r) (Q := Q) (a := a) (w := w) hro hm hB (by rw [e]; exact hb) hl (by rw [e]; exact hd) (by rw [e]; exact h)
  rw [e] at k
  exact k
/-- the same, where there is no round -/
theorem region_last {F : Fence} {n : Nat} {P : Program} {id : Nat} {Q : Exit → Act → World → Prop} {a : Act} {w : World} {L : List Oper} (hne : L ≠ []) (hro : F.round = none) (hm : P.follows .mixedOrders = true) (hB : Region.lexB .any L.dropLast.toArray = true) (hb : backB .any L = true) (hl : lastB .any L.dropLast.length (L.getLast hne) = true)
    (h : wpQuietIn F n P L.dropLast.toArray (fun w' => ∃ n, w' = w.drewN n) (fun a' => ∀ w', (∃ n, w' = w.drewN n) → wpListIn F n P L.toArray Q [L.getLast hne] a' w') L.dropLast a) : (Code.region id L.toArray true).wpIn F n P Q a w := by
  have e : L.dropLast ++ [L.getLast hne] = L := List.dropLast_concat_getLast hne
  have k := wpAny_last (l := L.dropLast) (o := L.getLast hne) (Q := Q) (a := a) (w := w) hro hB (by rw [e]; exact hb) hl (by rw [e]; exact h)
  rw [e] at k
  exact wpIn_region_any hm k
end Go.Proofs.Ytllkkgcfhphgmaa
/-
  A region that draws its order: what every operation keeps, whatever has come up, holds at the end. No function of a program is named here. Conditions: as each says.
-/
namespace Go.Proofs.Ytllkkgcfhphgmaa
set_option linter.unusedVariables false

theorem wpAny_inv {P : Program} {md : Region.Mode} {ops : Array Oper} {Q : Exit → Act → World → Prop} (I : Array Bool → Act → World → Prop)
    (step : ∀ x a w i, x.size = ops.size → I x a w → i ∈ Region.ready md ops x → wpOp P ops Q i (I (x.setIfInBounds i true)) a w)
    (fin : ∀ x a w, x.size = ops.size → I x a w → Region.ready md ops x = [] → Q .normal a w) :
    ∀ (fuel : Nat) (x : Array Bool) (a : Act) (w : World), x.size = ops.size → left x ≤ fuel → I x a w → wpAny P md ops Q fuel x a w := by
  intro fuel
  induction fuel with
  | zero =>
    intro x a w hx hl h
    have hr : Region.ready md ops x = [] := by
      refine List.eq_nil_iff_forall_not_mem.2 fun i hi => ?_
      obtain ⟨h1, o, ho, _⟩ := mem_ready.1 hi
      have hlt : i < x.size := by rw [hx]; exact (Array.getElem?_eq_some_iff.1 ho).1
      have h2 := left_zero (Nat.le_zero.1 hl) i hlt
      rw [Array.getD_eq_getD_getElem?, Array.getElem?_eq_getElem hlt] at h1 h2
      simp at h1 h2
      rw [h1] at h2
      cases h2
    exact ⟨hr, fin x a w hx h hr⟩
  | succ fuel ih =>
    intro x a w hx hl h
    refine ⟨fun hr => fin x a w hx h hr, fun i hi => wpOp_mono (fun a' w' h' => ih _ a' w' (by simpa using hx) ?_ h') (step x a w i hx h hi)⟩
    obtain ⟨h1, o, ho, _⟩ := mem_ready.1 hi
    have hlt : i < x.size := by rw [hx]; exact (Array.getElem?_eq_some_iff.1 ho).1
    have := left_set hlt h1
    omega
end Go.Proofs.Ytllkkgcfhphgmaa
/-
  A region that draws its order: each operation yields a value of its kind, whatever has come up, and keeps what is said of memory; then so it is at the end. No function of a program is named here. Conditions: as each says.
-/
namespace Go.Proofs.Ytllkkgcfhphgmaa
set_option linter.unusedVariables false

/-- slots that are written are written once, are there; no operation is guarded; edges go back -/
def regB (L : List Oper) (n : Nat) : Bool :=
  backB .any L && ((List.range L.length).all fun i => match L[i]? with
    | none => true
    | some o => o.guard.isNone && (match o.dst with
      | none => true
      | some d => decide (d < n) && ((List.range i).all fun j => match L[j]? with
        | none => true
        | some p => !decide (p.dst = some d))))
theorem regB_spec {L : List Oper} {n : Nat} (h : regB L n = true) {i : Nat} {o : Oper} (ho : L[i]? = some o) : o.guard = none ∧ ∀ d, o.dst = some d → d < n ∧ ∀ j p, j < i → L[j]? = some p → p.dst ≠ some d := by
  have h := (Bool.and_eq_true_iff.1 h).2
  have hi : i < L.length := (List.getElem?_eq_some_iff.1 ho).1
  have k := List.all_eq_true.1 h i (List.mem_range.2 hi)
  simp only [ho, Bool.and_eq_true] at k
  refine ⟨Option.isNone_iff_eq_none.1 k.1, fun d hd => ?_⟩
  have k2 := k.2
  rw [hd] at k2
  simp only [Bool.and_eq_true, decide_eq_true_eq] at k2
  refine ⟨k2.1, fun j p hj hp e => ?_⟩
  have k3 := List.all_eq_true.1 k2.2 j (List.mem_range.2 hj)
  simp only [hp, e] at k3
  simp at k3
theorem regB_ne {L : List Oper} {n : Nat} (h : regB L n = true) {i j : Nat} {o p : Oper} (ho : L[i]? = some o) (hp : L[j]? = some p) (hij : i ≠ j) {d : Tmp} (hd : o.dst = some d) : p.dst ≠ some d := by
  rcases Nat.lt_or_gt_of_ne hij with hlt | hgt
  · intro e; exact ((regB_spec h hp).2 d e).2 i o hlt ho hd
  · exact ((regB_spec h ho).2 d hd).2 j p hgt hp
/-- what is known of an activation -/
structure RegI (L : List Oper) (T0 : Array Value) (D0 : List Deferred) (Pv : Nat → Value → World → Prop) (x : Array Bool) (a : Act) (w : World) : Prop where
  dfr : a.defers = D0
  size : a.tmps.size = T0.size
  old : ∀ t, (∀ (i : Nat) (o : Oper), L[i]? = some o → o.dst ≠ some t) → a.tmps.getD t undef = T0.getD t undef
  val : ∀ (i : Nat) (o : Oper) (d : Tmp), L[i]? = some o → o.dst = some d → x.getD i false = true → Pv i (a.tmps.getD d undef) w
def notDst (L : List Oper) (t : Tmp) : Bool := L.all fun o => !decide (o.dst = some t)
theorem RegI.was {L : List Oper} {T0 : Array Value} {D0 : List Deferred} {Pv : Nat → Value → World → Prop} {x : Array Bool} {a : Act} {w : World} (h : RegI L T0 D0 Pv x a w) {t : Tmp} (hn : notDst L t = true) : a.tmps.getD t undef = T0.getD t undef :=
  h.old t fun i o ho e => by
    have := List.all_eq_true.1 hn o (List.mem_of_getElem? ho)
    simp [e] at this
theorem dep_at {o : Oper} {x : Array Bool} (h : ∀ e ∈ o.after, Region.binds .any e = true → x.getD e.on false = true) {j : Nat} (hj : (o.after.any fun e => Region.binds .any e && e.on == j) = true) : x.getD j false = true := by
  rw [Array.any_eq_true'] at hj
  obtain ⟨e, he, hq⟩ := hj
  rw [Bool.and_eq_true, beq_iff_eq] at hq
  rw [← hq.2]
  exact h e he hq.1
theorem getD_false {x : Array Bool} {i : Nat} (h : x.getD i true = false) : x.getD i false = false := by
  rw [Array.getD_eq_getD_getElem?] at *
  cases hx : x[i]? with
  | none => rfl
  | some b => rw [hx] at h; exact h
theorem getD_set_at {x : Array Bool} {i : Nat} (h : i < x.size) : (x.setIfInBounds i true).getD i false = true := by simp [Array.getD_eq_getD_getElem?, h]
theorem put_at (a : Act) {d : Tmp} (v : Value) (h : d < a.tmps.size) : (a.put (some d) v).tmps.getD d undef = v := by simp [Act.put, Array.getD_eq_getD_getElem?, h]
theorem put_off (a : Act) {d t : Tmp} (v : Value) (h : d ≠ t) : (a.put (some d) v).tmps.getD t undef = a.tmps.getD t undef := by simp [Act.put, Array.getD_eq_getD_getElem?, Array.getElem?_setIfInBounds_ne h]
/-- what the values are is kept -/
def RegK (Pv : Nat → Value → World → Prop) (x : Array Bool) (w w' : World) : Prop := ∀ j v, x.getD j false = true → Pv j v w → Pv j v w'
theorem RegK.refl (Pv : Nat → Value → World → Prop) (x : Array Bool) (w : World) : RegK Pv x w w := fun _ _ _ h => h
theorem region_props {P : Program} {id : Nat} {L : List Oper} {Q : Exit → Act → World → Prop} (Pv : Nat → Value → World → Prop) (W : Array Bool → World → Prop) {a0 : Act} {w0 : World}
    (hm : P.follows .mixedOrders = true) (hb : regB L a0.tmps.size = true)
    (step : ∀ x a w i o, L[i]? = some o → RegI L a0.tmps a0.defers Pv x a w → (∀ e ∈ o.after, Region.binds .any e = true → x.getD e.on false = true) → x.size = L.length → x.getD i true = false → W x w →
      o.wp P a w (fun a' w' => ∃ v, a' = a.put o.dst v ∧ (∀ d, o.dst = some d → Pv i v w') ∧ RegK Pv x w w' ∧ W (x.setIfInBounds i true) w') Q)
    (fin : ∀ x a w, x.size = L.length → (∀ i, i < L.length → x.getD i false = true) → RegI L a0.tmps a0.defers Pv x a w → W x w → Q .normal a w)
    (h0 : W (Array.replicate L.length false) { w0 with drawn := w0.drawn + 1 }) : (Code.region id L.toArray true).wp P Q a0 w0 := by
  refine wp_region_any hm ?_
  have hs : L.toArray.size = L.length := List.size_toArray
  refine wpAny_inv (fun x a w => RegI L a0.tmps a0.defers Pv x a w ∧ W x w) ?_ ?_ _ _ _ _ (by simp) ?_ ?_
  · rintro x a w i hx ⟨hI, hW⟩ hr
    obtain ⟨h1, o, ho, haf⟩ := mem_ready.1 hr
    have ho' : L[i]? = some o := by rwa [List.getElem?_toArray] at ho
    have gd := regB_spec hb ho'
    have hwant : Region.wanted o (yielded L.toArray a.tmps) = true := by unfold Region.wanted; rw [gd.1]
    unfold wpOp
    simp only [ho, hwant, if_true]
    refine .inl (Oper.wp_mono ?_ (step x a w i o ho' hI haf (by rw [hx, hs]) h1 hW))
    rintro a' w' ⟨v, rfl, hv, hrl, hW'⟩
    refine ⟨?_, hW'⟩
    have hxi : i < x.size := by rw [hx]; exact (Array.getElem?_eq_some_iff.1 ho).1
    cases hd : o.dst with
    | none =>
      refine ⟨hI.dfr, hI.size, hI.old, fun j p d hp hpd hxj => ?_⟩
      have hji : j ≠ i := fun e => by
        subst e
        rw [ho'] at hp
        cases hp
        rw [hd] at hpd
        cases hpd
      rw [getD_set_ne false (Ne.symm hji)] at hxj
      exact hrl _ _ hxj (hI.val j p d hp hpd hxj)
    | some d =>
      have gdd := gd.2 d hd
      refine ⟨hI.dfr, ?_, fun t ht => ?_, fun j p e hp hpe hxj => ?_⟩
      · show (a.tmps.setIfInBounds d v).size = _
        rw [Array.size_setIfInBounds]; exact hI.size
      · rw [put_off a v (fun e => ht i o ho' (by rw [hd, e]))]; exact hI.old t ht
      · by_cases hji : j = i
        · subst hji
          rw [ho'] at hp
          cases hp
          rw [hd] at hpe
          cases hpe
          rw [put_at a v (by rw [hI.size]; exact gdd.1)]
          exact hv d hd
        · rw [getD_set_ne false (Ne.symm hji)] at hxj
          have hne := regB_ne hb ho' hp (Ne.symm hji) hd
          rw [put_off a v (fun h => hne (by rw [hpe, h]))]
          exact hrl _ _ hxj (hI.val j p e hp hpe hxj)
  · rintro x a w hx ⟨hI, hW⟩ hr
    refine fin x a w (by rw [hx, hs]) (fun i hi => ?_) hI hW
    cases hf : x.getD i false with
    | true => rfl
    | false =>
      obtain ⟨j, hj, hj2⟩ := ready_some (Bool.and_eq_true_iff.1 hb).1 (by rw [hx, hs]) i hi hf
      rw [hr] at hj2
      cases hj2
  · have e : ∀ n : Nat, left (Array.replicate n false) = n := fun n => by unfold left; simp
    rw [e, hs]
    exact Nat.le_refl _
  · refine ⟨⟨rfl, rfl, fun _ _ => rfl, fun i o d _ _ hx => ?_⟩, by rw [hs]; exact h0⟩
    exfalso
    rw [Array.getD_eq_getD_getElem?] at hx
    by_cases hlt : i < L.length
    · rw [Array.getElem?_replicate, hs, if_pos hlt] at hx
      cases hx
    · rw [Array.getElem?_replicate, hs, if_neg hlt] at hx
      cases hx
end Go.Proofs.Ytllkkgcfhphgmaa
/-
  A region that draws its order: as RegProps2 has it, but what is said may hang on what was chosen on the way (a block, a result). No function of a program is named here. Conditions: as each says.
-/
namespace Go.Proofs.Ytllkkgcfhphgmaa
set_option linter.unusedVariables false

theorem region_props3 {G : Type} {P : Program} {id : Nat} {L : List Oper} {Q : Exit → Act → World → Prop} (Pv : G → Array Bool → Nat → Value → World → Prop) (W : G → Array Bool → World → Prop) (g0 : G) {a0 : Act} {w0 : World}
    (hm : P.follows .mixedOrders = true) (hb : regB L a0.tmps.size = true)
    (step : ∀ (γ : G) x a w i o, L[i]? = some o → RegI L a0.tmps a0.defers (Pv γ x) x a w → (∀ e ∈ o.after, Region.binds .any e = true → x.getD e.on false = true) → x.size = L.length → x.getD i true = false → W γ x w →
      o.wp P a w (fun a' w' => ∃ v γ', a' = a.put o.dst v ∧ (∀ d, o.dst = some d → Pv γ' (x.setIfInBounds i true) i v w') ∧ (∀ j v, x.getD j false = true → Pv γ x j v w → Pv γ' (x.setIfInBounds i true) j v w') ∧ W γ' (x.setIfInBounds i true) w') Q)
    (fin : ∀ γ x a w, x.size = L.length → (∀ i, i < L.length → x.getD i false = true) → RegI L a0.tmps a0.defers (Pv γ x) x a w → W γ x w → Q .normal a w)
    (h0 : W g0 (Array.replicate L.length false) { w0 with drawn := w0.drawn + 1 }) : (Code.region id L.toArray true).wp P Q a0 w0 := by
  refine wp_region_any hm ?_
  have hs : L.toArray.size = L.length := List.size_toArray
  refine wpAny_inv (fun x a w => ∃ γ, RegI L a0.tmps a0.defers (Pv γ x) x a w ∧ W γ x w) ?_ ?_ _ _ _ _ (by simp) ?_ ?_
  · rintro x a w i hx ⟨γ, hI, hW⟩ hr
    obtain ⟨h1, o, ho, haf⟩ := mem_ready.1 hr
    have ho' : L[i]? = some o := by rwa [List.getElem?_toArray] at ho
    have gd := regB_spec hb ho'
    have hwant : Region.wanted o (yielded L.toArray a.tmps) = true := by unfold Region.wanted; rw [gd.1]
    unfold wpOp
    simp only [ho, hwant, if_true]
    refine .inl (Oper.wp_mono ?_ (step γ x a w i o ho' hI haf (by rw [hx, hs]) h1 hW))
    rintro a' w' ⟨v, γ', rfl, hv, hrl, hW'⟩
    refine ⟨γ', ?_, hW'⟩
    have hxi : i < x.size := by rw [hx]; exact (Array.getElem?_eq_some_iff.1 ho).1
    cases hd : o.dst with
    | none =>
      refine ⟨hI.dfr, hI.size, hI.old, fun j p d hp hpd hxj => ?_⟩
      have hji : j ≠ i := fun e => by
        subst e
        rw [ho'] at hp
        cases hp
        rw [hd] at hpd
        cases hpd
      rw [getD_set_ne false (Ne.symm hji)] at hxj
      exact hrl _ _ hxj (hI.val j p d hp hpd hxj)
    | some d =>
      have gdd := gd.2 d hd
      refine ⟨hI.dfr, ?_, fun t ht => ?_, fun j p e hp hpe hxj => ?_⟩
      · show (a.tmps.setIfInBounds d v).size = _
        rw [Array.size_setIfInBounds]; exact hI.size
      · rw [put_off a v (fun e => ht i o ho' (by rw [hd, e]))]; exact hI.old t ht
      · by_cases hji : j = i
        · subst hji
          rw [ho'] at hp
          cases hp
          rw [hd] at hpe
          cases hpe
          rw [put_at a v (by rw [hI.size]; exact gdd.1)]
          exact hv d hd
        · rw [getD_set_ne false (Ne.symm hji)] at hxj
          have hne := regB_ne hb ho' hp (Ne.symm hji) hd
          rw [put_off a v (fun h => hne (by rw [hpe, h]))]
          exact hrl _ _ hxj (hI.val j p e hp hpe hxj)
  · rintro x a w hx ⟨γ, hI, hW⟩ hr
    refine fin γ x a w (by rw [hx, hs]) (fun i hi => ?_) hI hW
    cases hf : x.getD i false with
    | true => rfl
    | false =>
      obtain ⟨j, hj, hj2⟩ := ready_some (Bool.and_eq_true_iff.1 hb).1 (by rw [hx, hs]) i hi hf
      rw [hr] at hj2
      cases hj2
  · have e : ∀ n : Nat, left (Array.replicate n false) = n := fun n => by unfold left; simp
    rw [e, hs]
    exact Nat.le_refl _
  · refine ⟨g0, ⟨rfl, rfl, fun _ _ => rfl, fun i o d _ _ hx => ?_⟩, by rw [hs]; exact h0⟩
    exfalso
    rw [Array.getD_eq_getD_getElem?] at hx
    by_cases hlt : i < L.length
    · rw [Array.getElem?_replicate, hs, if_pos hlt] at hx
      cases hx
    · rw [Array.getElem?_replicate, hs, if_neg hlt] at hx
      cases hx
/-- the slots behind a region each of whose operations yields a value that is known -/
def putsL (V : Nat → Value) : List Oper → Nat → Array Value → Array Value
  | [], _, T => T
  | o :: L, i, T => putsL V L (i + 1) (match o.dst with
    | some d => T.setIfInBounds d (V i)
    | none => T)
theorem putsL_size (V : Nat → Value) : ∀ (L : List Oper) (i : Nat) (T : Array Value), (putsL V L i T).size = T.size
  | [], _, _ => rfl
  | o :: L, i, T => by
    unfold putsL
    rw [putsL_size V L]
    split
    · exact Array.size_setIfInBounds
    · rfl
theorem putsL_off (V : Nat → Value) (t : Tmp) : ∀ (L : List Oper) (i : Nat) (T : Array Value), (∀ (j : Nat) (o : Oper), L[j]? = some o → o.dst ≠ some t) → (putsL V L i T).getD t undef = T.getD t undef
  | [], _, _, _ => rfl
  | o :: L, i, T, h => by
    unfold putsL
    rw [putsL_off V t L _ _ (fun j p hp => h (j + 1) p hp)]
    have h0 := h 0 o rfl
    cases hd : o.dst with
    | none => rfl
    | some d =>
      have hn : d ≠ t := fun e => h0 (by rw [hd, e])
      simp only
      rw [Array.getD_eq_getD_getElem?, Array.getD_eq_getD_getElem?, Array.getElem?_setIfInBounds_ne hn]
theorem putsL_at (V : Nat → Value) {d : Tmp} : ∀ (L : List Oper) (i : Nat) (T : Array Value) (j : Nat) (o : Oper), L[j]? = some o → o.dst = some d → d < T.size → (∀ (k : Nat) (p : Oper), k ≠ j → L[k]? = some p → p.dst ≠ some d) → (putsL V L i T).getD d undef = V (i + j)
  | [], _, _, j, o, ho, _, _, _ => by cases ho
  | p :: L, i, T, 0, o, ho, hd, hs, hu => by
    obtain rfl : p = o := Option.some.inj ho
    unfold putsL
    rw [putsL_off V d L _ _ (fun k q hq => hu (k + 1) q (by omega) hq), hd]
    simp only
    rw [Array.getD_eq_getD_getElem?, Array.getElem?_setIfInBounds_self_of_lt hs]
    rfl
  | p :: L, i, T, j + 1, o, ho, hd, hs, hu => by
    unfold putsL
    rw [putsL_at V L (i + 1) _ j o ho hd (by split <;> simpa using hs) (fun k q hk hq => hu (k + 1) q (by omega) hq)]
    congr 1
    omega
theorem RegI.tmps {L : List Oper} {T0 : Array Value} {D0 : List Deferred} {V : Nat → Value} {x : Array Bool} {a : Act} {w : World} (h : RegI L T0 D0 (fun i v _ => v = V i) x a w) (hb : regB L T0.size = true) (hall : ∀ i, i < L.length → x.getD i false = true) : a = ⟨putsL V L 0 T0, D0⟩ := by
  obtain ⟨T, D⟩ := a
  have e1 : D = D0 := h.dfr
  subst e1
  have e2 : T.size = T0.size := h.size
  congr 1
  refine Array.ext (by rw [e2, putsL_size]) fun t h1 h2 => ?_
  have g : T.getD t undef = (putsL V L 0 T0).getD t undef := by
    by_cases hc : ∃ (i : Nat) (o : Oper), L[i]? = some o ∧ o.dst = some t
    · obtain ⟨i, o, ho, hd⟩ := hc
      have k := h.val i o t ho hd (hall i (List.getElem?_eq_some_iff.1 ho).1)
      rw [putsL_at V L 0 T0 i o ho hd ((regB_spec hb ho).2 t hd).1 (fun j p hj hp => regB_ne hb ho hp (Ne.symm hj) hd), Nat.zero_add]
      exact k
    · have hn : ∀ (i : Nat) (o : Oper), L[i]? = some o → o.dst ≠ some t := fun i o ho hd => hc ⟨i, o, ho, hd⟩
      rw [putsL_off V t L 0 T0 hn]
      exact h.old t hn
  rw [Array.getD_eq_getD_getElem?, Array.getD_eq_getD_getElem?, Array.getElem?_eq_getElem h1, Array.getElem?_eq_getElem h2] at g
  exact g
end Go.Proofs.Ytllkkgcfhphgmaa
/-
  A region that draws its order: the slots behind it, whatever its operations yielded. No function of a program is named here. No conditions but those that each says.
-/
namespace Go.Proofs.Ytllkkgcfhphgmaa
set_option linter.unusedVariables false

theorem RegI.slots {L : List Oper} {T0 : Array Value} {D0 : List Deferred} {Pv : Nat → Value → World → Prop} {x : Array Bool} {a : Act} {w : World} (h : RegI L T0 D0 Pv x a w) (hb : regB L T0.size = true) (hall : ∀ i, i < L.length → x.getD i false = true) : ∃ V : Nat → Value, a = ⟨putsL V L 0 T0, D0⟩ := by
  refine ⟨fun i => match L[i]? with
    | some o => (match o.dst with
      | some d => a.tmps.getD d undef
      | none => undef)
    | none => undef, ?_⟩
  refine RegI.tmps (x := x) (w := w) ⟨h.dfr, h.size, h.old, fun i o d ho hd _ => ?_⟩ hb hall
  simp only [ho, hd]
end Go.Proofs.Ytllkkgcfhphgmaa
