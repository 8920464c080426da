/-
  The statement on lancetlaw04.CrcOne, as given: for every input the law returns true, and the arguments read as before. No conditions.
-/
import Derived.Test.YtjbgjiodmhpbbaaRows
import Derived.Test.YtjbgjiodmhpbbaaCrcOneA
import Derived.WalkKit
import Derived.ProofKit
import Derived.OpenShut
import Derived.ShutString
import Derived.ChangeOld
import Derived.Below
import Derived.Carry
namespace Go.Proofs.Ytjbgjiodmhpbbaa.crcOne
open Go.ChangeShapes Go.WideShapes Go.ChangeAt Go.RowKit
open Go.ChangeMaps (open_string shut_string)
set_option linter.unusedVariables false

theorem own : ownKnob Try.prog.godebug = none := by kernel_rfl
theorem laidOut : laidOutB Try.prog = true := by kernel_rfl

/-- the two sums are one just if nothing was changed -/
theorem one_fact {W : Int} {p f : Nat} {t : Bool} {z : Nat} {bs : List Nat} {j a3 : Nat} (hk : kindB W p f z = true) (hp : p % 2 = 1) (hb : AllBytes bs) (hj : j < bs.length) (ha : a3 < 256) :
    (((sumV W p f t z bs : Nat) : Int) == ((sumV W p f t z (bs.set j (bs[j] ^^^ a3)) : Nat) : Int)) = ((a3 : Int) == 0) := by
  have hw := kind_width hk
  have hc : bs[j] < 256 := hb _ (List.getElem_mem hj)
  have hd : bs[j] ^^^ a3 < 256 := Nat.xor_lt_two_pow (n := 8) hc ha
  have e1 : bs = bs.take j ++ bs[j] :: bs.drop (j + 1) := by rw [← List.drop_eq_getElem_cons hj, List.take_append_drop]
  have e2 : bs.set j (bs[j] ^^^ a3) = bs.take j ++ (bs[j] ^^^ a3) :: bs.drop (j + 1) := by rw [List.set_eq_take_append_cons_drop, if_pos hj]
  rw [sumV_yes hk, sumV_yes hk]
  by_cases h0 : a3 = 0
  · subst h0
    rw [Nat.xor_zero, List.set_getElem_self]
    simp
  · have r : ((a3 : Int) == 0) = false := by rw [beq_eq_false_iff_ne]; omega
    rw [r, beq_eq_false_iff_ne]
    intro e
    have e' : sumL W.toNat p f t z bs = sumL W.toNat p f t z (bs.set j (bs[j] ^^^ a3)) := by omega
    rw [e2] at e'
    have e3 : sumL W.toNat p f t z (bs.take j ++ bs[j] :: bs.drop (j + 1)) = sumL W.toNat p f t z (bs.take j ++ (bs[j] ^^^ a3) :: bs.drop (j + 1)) := by rw [← e1]; exact e'
    have e4 := sum_one (by omega) hp hc hd e3
    have e5 : a3 = 0 := by
      have := congrArg (fun v => bs[j] ^^^ v) e4
      simp only [Nat.xor_self, ← Nat.xor_assoc, Nat.zero_xor] at this
      exact this.symm
    exact h0 e5
theorem sumCp {W : Int} {p f : Nat} {t : Bool} {z : Nat} {bs : List Nat} {L : Nat} (hp : p < 4294967296) (hf : f < 4294967296) (hz : z < 4294967296) (hb : AllBytes bs) (hl : bs.length = L) (h3 : (L : Int) ≤ 300) (hk : kindB W p f z = true) : SumCp (kv W p f t z) bs L (sumV W p f t z bs) := by
  intro x g cap h
  have k := sum_any W p f t z _ bs x hp hf hz hb (by omega) h.at
  rw [sumE_yes hk, hl] at k
  exact k
theorem all_set {bs : List Nat} {j u : Nat} (h : AllBytes bs) (hu : u < 256) : AllBytes (bs.set j u) := fun c hc => by
  rcases List.mem_or_eq_of_mem_set hc with h1 | h1
  · exact h c h1
  · rw [h1]; exact hu
theorem wrap_facts {bs : List Nat} {a2 a3 j : Nat} (h3 : a3 < 256) (hb : AllBytes bs) (hj : j < bs.length) : bs[j] ^^^ a3 < 256 ∧ bits .xor .u8 (bs[j] : Int) (a3 : Int) = ((bs[j] ^^^ a3 : Nat) : Int) :=
  have hc : bs[j] < 256 := hb _ (List.getElem_mem hj)
  ⟨Nat.xor_lt_two_pow (n := 8) hc h3, u8_xor_nat _ _ hc h3⟩


set_option maxRecDepth 100000 in
set_option maxHeartbeats 4000000 in
theorem walk (w : World) (a0 : Nat) (h0 : a0 < 256) (v1 : Value) (bs1 : List Nat) (hv1 : BytesV w v1 bs1) (hb1 : AllBytes bs1) (a2 : Nat) (h2 : a2 < 65536) (a3 : Nat) (h3 : a3 < 256) :
    Calls Try.prog 7 #[.int .u8 (a0 : Int), v1, .int .u16 (a2 : Int), .int .u8 (a3 : Int)] w fun e w' => e = .returned (.bool true) ∧ Below w.heap.size w w' := by
  rcases hv1 with ⟨rfl, rfl⟩ | ⟨g, o, cap, rfl, q1, q2, q3, q4⟩
  · exact one_nil w _ _ _ awC
  by_cases hl0 : bs1 = []
  · subst hl0
    exact one_zero w _ _ _ g o cap awC
  have hlp : 0 < bs1.length := List.length_pos_iff.2 hl0
  by_cases hl : (bs1.length : Int) ≤ 300
  · have hv : BytesV w (.slice (some ⟨g, o, none⟩) bs1.length cap) bs1 := .inr ⟨g, o, cap, rfl, q1, q2, q3, q4⟩
    have hj : a2 % bs1.length < bs1.length := Nat.mod_lt _ hlp
    obtain ⟨u1, u2⟩ := wrap_facts (a2 := a2) h3 hb1 hj
    have hr : a0 % 4 = 0 ∨ a0 % 4 = 1 ∨ a0 % 4 = 2 ∨ a0 % 4 = 3 := by omega
    have hs := all_set (j := a2 % bs1.length) hb1 u1
    rcases hr with r | r | r | r
    · have hk : kindB 8 7 0 0 = true := by kernel_rfl
      have cS := sumAt (w := w) (W := 8) (p := 7) (f := 0) (t := false) (z := 0) (by omega) (by omega) (by omega) hv hb1
      rw [sumE_yes hk] at cS
      exact one_n8 w (a0 : Int) (by omega) (by omega) (by omega) g o cap bs1 (by omega) hl q3 q4 (a2 : Int) (a3 : Int) (by omega) (by omega) (by omega) (by omega) (a2 % bs1.length) bs1[a2 % bs1.length] (bs1[a2 % bs1.length] ^^^ a3)
        (by show _ = _; simp) (by omega) ⟨hj, rfl⟩ u2 _ _ (one_fact (W := 8) (p := 7) (f := 0) (t := false) (z := 0) hk (by decide) hb1 hj h3) awC cS (sumCp (W := 8) (p := 7) (f := 0) (t := false) (z := 0) (by omega) (by omega) (by omega) hs (by simp) hl hk)
    · have hk : kindB 16 32773 0 0 = true := by kernel_rfl
      have cS := sumAt (w := w) (W := 16) (p := 32773) (f := 0) (t := true) (z := 0) (by omega) (by omega) (by omega) hv hb1
      rw [sumE_yes hk] at cS
      exact one_n16 w (a0 : Int) (by omega) (by omega) (by omega) g o cap bs1 (by omega) hl q3 q4 (a2 : Int) (a3 : Int) (by omega) (by omega) (by omega) (by omega) (a2 % bs1.length) bs1[a2 % bs1.length] (bs1[a2 % bs1.length] ^^^ a3)
        (by show _ = _; simp) (by omega) ⟨hj, rfl⟩ u2 _ _ (one_fact (W := 16) (p := 32773) (f := 0) (t := true) (z := 0) hk (by decide) hb1 hj h3) awC cS (sumCp (W := 16) (p := 32773) (f := 0) (t := true) (z := 0) (by omega) (by omega) (by omega) hs (by simp) hl hk)
    · have hk : kindB 16 4129 65535 0 = true := by kernel_rfl
      have cS := sumAt (w := w) (W := 16) (p := 4129) (f := 65535) (t := false) (z := 0) (by omega) (by omega) (by omega) hv hb1
      rw [sumE_yes hk] at cS
      exact one_nC w (a0 : Int) (by omega) (by omega) (by omega) g o cap bs1 (by omega) hl q3 q4 (a2 : Int) (a3 : Int) (by omega) (by omega) (by omega) (by omega) (a2 % bs1.length) bs1[a2 % bs1.length] (bs1[a2 % bs1.length] ^^^ a3)
        (by show _ = _; simp) (by omega) ⟨hj, rfl⟩ u2 _ _ (one_fact (W := 16) (p := 4129) (f := 65535) (t := false) (z := 0) hk (by decide) hb1 hj h3) awC cS (sumCp (W := 16) (p := 4129) (f := 65535) (t := false) (z := 0) (by omega) (by omega) (by omega) hs (by simp) hl hk)
    · have hk : kindB 32 79764919 4294967295 4294967295 = true := by kernel_rfl
      have cS := sumAt (w := w) (W := 32) (p := 79764919) (f := 4294967295) (t := true) (z := 4294967295) (by omega) (by omega) (by omega) hv hb1
      rw [sumE_yes hk] at cS
      exact one_n32 w (a0 : Int) (by omega) (by omega) (by omega) g o cap bs1 (by omega) hl q3 q4 (a2 : Int) (a3 : Int) (by omega) (by omega) (by omega) (by omega) (a2 % bs1.length) bs1[a2 % bs1.length] (bs1[a2 % bs1.length] ^^^ a3)
        (by show _ = _; simp) (by omega) ⟨hj, rfl⟩ u2 _ _ (one_fact (W := 32) (p := 79764919) (f := 4294967295) (t := true) (z := 4294967295) hk (by decide) hb1 hj h3) awC cS (sumCp (W := 32) (p := 79764919) (f := 4294967295) (t := true) (z := 4294967295) (by omega) (by omega) (by omega) hs (by simp) hl hk)
  · exact one_long w _ _ _ g o bs1.length cap (by omega) awC

set_option maxRecDepth 100000 in
theorem lifted (os : Os) (started : os.Started) (H : Type) (enc : TypeId × Value → H) :
    ReturnsInHanded {} Try.checked os 7 .any (Rows.crcOneSpec.pre6 enc Try.prog Try.f7 Rows.crcOneRow.domain false) (Rows.crcOneSpec.post enc Try.prog Try.f7 false true false false) := by
  refine returnsInHanded_of_change (C := Try.checked) own started (by kernel_rfl) Try.func7
    (ChangeSpec.witness6 (enc := enc) (C := Try.checked) false ⟨#[], #[.int .u8 0, .slice none 0 0, .int .u16 0, .int .u8 0], []⟩ 8 (by kernel_rfl) (by kernel_rfl) (by kernel_rfl) (by kernel_rfl)) ?_
  intro W base args ds gs before hval0 hW hcnd _
  have hval : ∀ (j : Nat) t v, Try.f7.params[j]? = some t → args[j]? = some v → Value.okWide Try.prog W .any base t v := hval0
  have hW' := hW
  obtain ⟨p, q, hA0, hV, rfl, hfz, hnd⟩ := hW
  have hA : DataW.TrodAll enc Try.prog W 0 (fun _ => true) true Try.f7.params.toList args.toList ds p := hA0
  rw [Try.params7] at hA hval
  obtain ⟨v0, vs0, dd0, ds0, pp0, qq0, hargs, rfl, rfl, hh0, r0⟩ := trodAll_cons hA
  obtain ⟨v1, vs1, dd1, ds1, pp1, qq1, rfl, rfl, rfl, hh1, r1⟩ := trodAll_cons r0
  obtain ⟨v2, vs2, dd2, ds2, pp2, qq2, rfl, rfl, rfl, hh2, r2⟩ := trodAll_cons r1
  obtain ⟨v3, vs3, dd3, ds3, pp3, qq3, rfl, rfl, rfl, hh3, r3⟩ := trodAll_cons r2
  obtain ⟨rfl, rfl, rfl⟩ := trodAll_nil r3
  obtain rfl : args = #[v0, v1, v2, v3] := by cases args; simp_all
  obtain ⟨rfl, rfl⟩ := trodVars_none hV
  have kk0 := hh0
  have lt0 : ∀ x ∈ pp0, x.block < W.heap.size := by obtain ⟨m, hm⟩ := kk0; exact DataW.trod_lt m _ _ _ hm
  have kk1 := hh1
  have lt1 : ∀ x ∈ pp1, x.block < W.heap.size := by obtain ⟨m, hm⟩ := kk1; exact DataW.trod_lt m _ _ _ hm
  have kk2 := hh2
  have lt2 : ∀ x ∈ pp2, x.block < W.heap.size := by obtain ⟨m, hm⟩ := kk2; exact DataW.trod_lt m _ _ _ hm
  have kk3 := hh3
  have lt3 : ∀ x ∈ pp3, x.block < W.heap.size := by obtain ⟨m, hm⟩ := kk3; exact DataW.trod_lt m _ _ _ hm
  obtain ⟨b0, rfl, rfl, rfl, w0⟩ := open_int Try.underlying5 (hval 0 5 v0 rfl rfl) hh0
  have c0 := bd_u8 w0
  obtain ⟨a0, rfl⟩ : ∃ a : Nat, b0 = a := ⟨b0.toNat, by omega⟩
  obtain ⟨bs1, hv1, hb1⟩ := open_bytes (hval 1 25 v1 rfl rfl) hh1
  obtain ⟨b2, rfl, rfl, rfl, w2⟩ := open_int Try.underlying41 (hval 2 41 v2 rfl rfl) hh2
  have c2 := bd_u16 w2
  obtain ⟨a2, rfl⟩ : ∃ a : Nat, b2 = a := ⟨b2.toNat, by omega⟩
  obtain ⟨b3, rfl, rfl, rfl, w3⟩ := open_int Try.underlying5 (hval 3 5 v3 rfl rfl) hh3
  have c3 := bd_u8 w3
  obtain ⟨a3, rfl⟩ : ∃ a : Nat, b3 = a := ⟨b3.toNat, by omega⟩
  clear hA0 hval0
  refine (walk W a0 (by omega) v1 bs1 hv1 hb1 a2 (by omega) a3 (by omega)).mono fun e W' ⟨he, bel⟩ => ?_
  subst he
  exact ⟨_, rfl, _, _, _, [], _, [], hW', trodAll_mk1 (shut_bool Try.underlying4 _), (trodAll_cons_mk (Below.trod laidOut (by kernel_rfl) (of_decide_eq_true (by kernel_rfl)) kk0 bel lt0) (trodAll_cons_mk (Below.trod laidOut (by kernel_rfl) (of_decide_eq_true (by kernel_rfl)) kk1 bel lt1) (trodAll_cons_mk (Below.trod laidOut (by kernel_rfl) (of_decide_eq_true (by kernel_rfl)) kk2 bel lt2) (trodAll_cons_mk (Below.trod laidOut (by kernel_rfl) (of_decide_eq_true (by kernel_rfl)) kk3 bel lt3) trodAll_mk0)))), rfl, bel.frame _, fun h => by cases h⟩

theorem over : Rows.crcOneRow.holds Try.pinned (OpenSpec.ofChange Rows.crcOneSpec) :=
  OpenClaim.holds_of_wide 7 Try.f7 rfl rfl rfl rfl rfl rfl rfl ⟨rfl, rfl, rfl, rfl, rfl⟩ rfl rfl rfl rfl rfl (by kernel_rfl) Try.func7 (by kernel_rfl)
    (of_decide_eq_true (by kernel_rfl)) (by unfold Func.isWrapper; first | (rw [if_pos (by decide +kernel)]; kernel_rfl) | (rw [if_neg (by decide +kernel)]; exact ⟨rfl, rfl⟩))
    (fun os started H enc _ => lifted os started H enc)

/-- THE STATEMENT -/
theorem proved : Rows.CrcOneSaid :=
  over
#print axioms proved
end Go.Proofs.Ytjbgjiodmhpbbaa.crcOne
