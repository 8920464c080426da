/-
  Plain facts on texts of fractions: a text that is read as a number is that number's text; what is cut of a fraction's text; what is read of it. No program's run is spoken of. No conditions.
-/
import Derived.Test.YtlhjhefbindlkaaRatW
namespace Go.Proofs.Ytlhjhefbindlkaa
open Go.RowKit
set_option linter.unusedVariables false

theorem digits_inj : ∀ (a b : List UInt8), a.length = b.length → a.all isd = true → b.all isd = true → val a = val b → a = b
  | [], [], _, _, _, _ => rfl
  | [], _ :: _, h, _, _, _ => by simp at h
  | _ :: _, [], h, _, _, _ => by simp at h
  | c :: l, e :: m, h, ha, hb, hv => by
    have hl : l.length = m.length := by simpa using h
    rw [List.all_cons, Bool.and_eq_true] at ha hb
    rw [val_cons, val_cons, ← hl] at hv
    have v1 := val_lt l ha.2
    have v2 := val_lt m hb.2
    rw [← hl] at v2
    have i1 := (isd_iff c).1 ha.1
    have i2 := (isd_iff e).1 hb.1
    have hN : 0 < 10 ^ l.length := Nat.pow_pos (by decide)
    generalize 10 ^ l.length = N at *
    have q1 : ((c.toNat - 48) * N + val l) / N = c.toNat - 48 := by
      rw [Nat.add_comm, Nat.add_mul_div_right _ _ hN, Nat.div_eq_of_lt v1]; omega
    have q2 : ((e.toNat - 48) * N + val m) / N = e.toNat - 48 := by
      rw [Nat.add_comm, Nat.add_mul_div_right _ _ hN, Nat.div_eq_of_lt v2]; omega
    have hc : c.toNat - 48 = e.toNat - 48 := by rw [← q1, ← q2, hv]
    have hce : c = e := UInt8.toNat_inj.1 (by omega)
    subst hce
    have hr : val l = val m := by omega
    rw [digits_inj l m hl ha.2 hb.2 hr]

theorem plain_parts {l : List UInt8} (h : plainB l = true) : l ≠ [] ∧ l.all isd = true ∧ (1 < l.length → 10 ^ (l.length - 1) ≤ val l) := by
  unfold plainB at h
  simp only [Bool.and_eq_true, Bool.not_eq_true'] at h
  obtain ⟨⟨h1, h2⟩, h3⟩ := h
  refine ⟨by intro e; subst e; simp at h1, h3, fun hl => ?_⟩
  cases l with
  | nil => simp at hl
  | cons c t =>
    rw [List.all_cons, Bool.and_eq_true] at h3
    have hc : c ≠ 48 := by
      intro e
      subst e
      simp at h2 hl
      rw [h2] at hl
      simp at hl
    have := val_ge c t h3.1 hc
    simpa using this

theorem plain_inj {a b : List UInt8} (ha : plainB a = true) (hb : plainB b = true) (h : val a = val b) : a = b := by
  obtain ⟨a1, a2, a3⟩ := plain_parts ha
  obtain ⟨b1, b2, b3⟩ := plain_parts hb
  have va := val_lt a a2
  have vb := val_lt b b2
  have la : 0 < a.length := List.length_pos_iff.2 a1
  have lb : 0 < b.length := List.length_pos_iff.2 b1
  refine digits_inj a b ?_ a2 b2 h
  rcases Nat.lt_trichotomy a.length b.length with k | k | k
  · exfalso
    have h1 := b3 (by omega)
    have h2 : 10 ^ a.length ≤ 10 ^ (b.length - 1) := Nat.pow_le_pow_right (by decide) (by omega)
    omega
  · exact k
  · exfalso
    have h1 := a3 (by omega)
    have h2 : 10 ^ b.length ≤ 10 ^ (a.length - 1) := Nat.pow_le_pow_right (by decide) (by omega)
    omega

/-- digits that lead with no 0 (or are 0 alone) are the digits of what they are worth -/
theorem dec_of_plain (t : List UInt8) (h : plainB t = true) (hv : val t < 10 ^ 19) : dec 18 (val t) = t :=
  plain_inj (dec_plain 18 (val t) hv) h (val_dec 18 (val t) hv)

theorem text_of_core (t : List UInt8) (m : Bool) (h : coreE t m = 0) : textL (coreV t m) = (if m = true then 45 :: t else t) := by
  have hb : badB t m = false := by
    cases e : badB t m
    · rfl
    · rw [(core_bad e).2] at h; omega
  have hf : fitB (sgn m (val t)) = true := by
    cases e : fitB (sgn m (val t))
    · rw [(core_over hb e).2] at h; omega
    · rfl
  rw [(core_fine hb hf).1]
  have hfi := (fitB_iff _).1 hf
  unfold badB at hb
  simp only [Bool.or_eq_false_iff, Bool.not_eq_false'] at hb
  obtain ⟨hp, hz⟩ := hb
  cases m
  · have hs : sgn false (val t) = (val t : Int) := rfl
    rw [hs] at hfi ⊢
    rw [textL_pos (by omega), show ((val t : Nat) : Int).natAbs = val t by omega]
    rw [dec_of_plain t hp (by have : (10 : Nat) ^ 19 = 10000000000000000000 := by decide
                              omega)]
    rfl
  · have hs : sgn true (val t) = -(val t : Int) := rfl
    rw [hs] at hfi ⊢
    have hd := dec_of_plain t hp (by have : (10 : Nat) ^ 19 = 10000000000000000000 := by decide
                                     omega)
    have hv : val t ≠ 0 := by
      intro e
      rw [e] at hd
      have : t = [48] := by rw [← hd]; decide +kernel
      rw [this] at hz
      simp at hz
    rw [textL_neg (by omega), show (-(val t : Int)).natAbs = val t by omega, hd]
    rfl

theorem text_of_read (l : List UInt8) (h : readE l = 0) : textL (readV l) = l := by
  unfold readE at h
  unfold readV
  by_cases hm : l.head? = some 45
  · rw [if_pos hm] at *
    rw [text_of_core _ _ h, if_pos rfl]
    cases l with
    | nil => cases hm
    | cons c t => simp at hm; subst hm; rfl
  · rw [if_neg hm] at *
    rw [text_of_core _ _ h]; rfl

theorem textL_no_stroke (a : Int) : (47 : UInt8) ∉ textL a := by
  have hd : (47 : UInt8) ∉ dec 18 a.natAbs := fun h => by
    have := (dec_digits 18 a.natAbs 47 h).1
    exact absurd this (by decide)
  unfold textL
  split
  · simp; exact hd
  · exact hd

theorem ratT_list (n d : Int) : (ratT n d).data.toList = textL n ++ 47 :: textL d := by
  unfold ratT
  simp [ByteArray.data_append]

/-- a stroke's place parts a text -/
theorem cut_at (s : ByteArray) (u v : List UInt8) (h : s.data.toList = u ++ 47 :: v) (hu : (47 : UInt8) ∉ u) : (cutU s).data.toList = u ∧ (cutV s).data.toList = v := by
  rcases stroke_ways s with ⟨h1, h2⟩ | ⟨i, h1, h2, h3, h4⟩
  · rw [h] at h2; simp at h2
  · have hi : i = u.length := by
      rcases Nat.lt_trichotomy i u.length with k | k | k
      · exfalso
        rw [h, List.getElem?_append_left k] at h3
        exact hu (List.mem_iff_getElem?.2 ⟨i, h3⟩)
      · exact k
      · exfalso
        have := h4 u.length k
        rw [h] at this
        simp at this
    have hne : ¬ Lib.indexByte s.data.toList 47 = -1 := by rw [h1]; omega
    have et : (Lib.indexByte s.data.toList 47).toNat = u.length := by rw [h1, hi]; rfl
    unfold cutU cutV
    rw [if_neg hne, if_neg hne, et]
    have hl : s.size = (u ++ 47 :: v).length := by rw [← h]; simp
    constructor
    · rw [Lib.extract_eq]
      simp only [h, Nat.sub_zero, List.drop_zero]
      simp
    · rw [Lib.extract_eq]
      simp only [h, hl]
      simp
      exact List.take_of_length_le (by omega)
theorem cut_join (s : ByteArray) (hm : (47 : UInt8) ∈ s.data.toList) : s.data.toList = (cutU s).data.toList ++ 47 :: (cutV s).data.toList := by
  rcases stroke_ways s with ⟨h1, h2⟩ | ⟨i, h1, h2, h3, h4⟩
  · exact absurd hm h2
  · have hlt : i < s.data.toList.length := (List.getElem?_eq_some_iff.1 h3).1
    have hg : s.data.toList[i] = 47 := (List.getElem?_eq_some_iff.1 h3).2
    have hj : s.data.toList = s.data.toList.take i ++ 47 :: s.data.toList.drop (i + 1) := by
      conv => lhs; rw [← List.take_append_drop i s.data.toList, List.drop_eq_getElem_cons hlt, hg]
    have hu : (47 : UInt8) ∉ s.data.toList.take i := by
      intro hk
      obtain ⟨k, hk⟩ := List.mem_iff_getElem?.1 hk
      have kl : k < i := by
        have := (List.getElem?_eq_some_iff.1 hk).1
        rw [List.length_take] at this
        omega
      rw [List.getElem?_take_of_lt kl] at hk
      exact h4 k kl hk
    obtain ⟨c1, c2⟩ := cut_at s _ _ hj hu
    rw [c1, c2]
    exact hj
theorem cut_none (s : ByteArray) (h : (47 : UInt8) ∉ s.data.toList) : (cutV s).data.toList = [] := by
  rcases stroke_ways s with ⟨h1, h2⟩ | ⟨i, h1, h2, h3, h4⟩
  · unfold cutV; rw [if_pos h1]; rfl
  · exact absurd (List.mem_iff_getElem?.2 ⟨i, h3⟩) h

/-- what is written is read as it was -/
theorem rd_text {n d : Int} (hn : I64 n) (hd : I64 d) : (rightB n d = true ∧ rdE (ratT n d) = 0 ∧ rdN (ratT n d) = n ∧ rdD (ratT n d) = d) ∨ (rightB n d = false ∧ rdE (ratT n d) = 1) := by
  obtain ⟨c1, c2⟩ := cut_at (ratT n d) _ _ (ratT_list n d) (textL_no_stroke n)
  have r1 := read_text hn
  have r2 := read_text hd
  unfold rdN rdD rdE
  rw [c1, c2, r1.1, r1.2, r2.1, r2.2]
  cases h : rightB n d
  · right; simp
  · left; simp

/-- what is read is written as it stands there -/
theorem text_rd (s : ByteArray) (h : rdE s = 0) : ratT (rdN s) (rdD s) = s ∧ I64 (rdN s) ∧ I64 (rdD s) := by
  have hN : rdN s = readV (cutU s).data.toList := by unfold rdN; rw [if_pos h]
  have hD : rdD s = readV (cutV s).data.toList := by unfold rdD; rw [if_pos h]
  have hE := h
  unfold rdE at hE
  have e1 : readE (cutU s).data.toList = 0 ∧ readE (cutV s).data.toList = 0 := by
    rcases readE_ways (cutU s).data.toList with h1 | h1 | h1 <;> rcases readE_ways (cutV s).data.toList with h2 | h2 | h2 <;> simp [h1, h2] at hE <;> exact ⟨h1, h2⟩
  refine ⟨?_, by rw [hN]; exact readV_bd _, by rw [hD]; exact readV_bd _⟩
  have t1 := text_of_read _ e1.1
  have t2 := text_of_read _ e1.2
  apply ByteArray.ext
  apply Array.toList_inj.1
  rw [ratT_list, hN, hD, t1, t2]
  by_cases hm : (47 : UInt8) ∈ s.data.toList
  · exact (cut_join s hm).symm
  · exfalso
    have := cut_none s hm
    rw [this] at e1
    exact absurd e1.2 (by decide)

end Go.Proofs.Ytlhjhefbindlkaa
