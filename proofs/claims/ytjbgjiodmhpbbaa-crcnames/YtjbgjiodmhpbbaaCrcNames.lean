/-
  The statement on lancetlaw04.CrcNames, as given: for every input the law returns true, and the arguments read as before. No conditions.
-/
import Derived.Test.YtjbgjiodmhpbbaaRows
import Derived.Test.YtjbgjiodmhpbbaaCrcNamesA
import Derived.WalkKit
import Derived.ProofKit
import Derived.OpenShut
import Derived.ShutString
import Derived.ChangeOld
import Derived.Below
import Derived.Carry
namespace Go.Proofs.Ytjbgjiodmhpbbaa.crcNames
open Go.ChangeShapes Go.WideShapes Go.ChangeAt Go.RowKit
open Go.ChangeMaps (open_string shut_string)
set_option linter.unusedVariables false

theorem own : ownKnob Try.prog.godebug = none := by kernel_rfl
theorem laidOut : laidOutB Try.prog = true := by kernel_rfl


set_option maxRecDepth 100000 in
set_option maxHeartbeats 4000000 in
theorem walk (w : World) (a0 : ByteArray) (h0 : a0.size ≤ maxLen) (v1 : Value) (bs1 : List Nat) (hv1 : BytesV w v1 bs1) (hb1 : AllBytes bs1) :
    Calls Try.prog 4 #[.string a0, v1] w fun e w' => e = .returned (.bool true) ∧ Below w.heap.size w w' := by
  by_cases e_n8 : a0 = n8
  · subst e_n8
    have hk : kindB 8 7 0 0 = true := by kernel_rfl
    have cS := sumAt (w := w) (W := 8) (p := 7) (f := 0) (t := false) (z := 0) (by omega) (by omega) (by omega) hv1 hb1
    have cT := rsumAt (w := w) (W := 8) (p := 7) (f := 0) (t := false) (z := 0) (by omega) (by omega) (by omega) hv1 hb1 hk
    rw [sumE_yes hk] at cS
    rcases hv1 with ⟨rfl, rfl⟩ | ⟨g, o, cap, rfl, _, _, _, _⟩
    · exact names_n8_nil w _ awC cS cT
    · by_cases hl : (bs1.length : Int) ≤ 300
      · exact names_n8_row w g o bs1.length cap _ hl awC cS cT
      · exact names_long_b w n8 g o bs1.length cap (by omega) awC
  by_cases e_n16 : a0 = n16
  · subst e_n16
    have hk : kindB 16 32773 0 0 = true := by kernel_rfl
    have cS := sumAt (w := w) (W := 16) (p := 32773) (f := 0) (t := true) (z := 0) (by omega) (by omega) (by omega) hv1 hb1
    have cT := rsumAt (w := w) (W := 16) (p := 32773) (f := 0) (t := true) (z := 0) (by omega) (by omega) (by omega) hv1 hb1 hk
    rw [sumE_yes hk] at cS
    rcases hv1 with ⟨rfl, rfl⟩ | ⟨g, o, cap, rfl, _, _, _, _⟩
    · exact names_n16_nil w _ awC cS cT
    · by_cases hl : (bs1.length : Int) ≤ 300
      · exact names_n16_row w g o bs1.length cap _ hl awC cS cT
      · exact names_long_b w n16 g o bs1.length cap (by omega) awC
  by_cases e_nC : a0 = nC
  · subst e_nC
    have hk : kindB 16 4129 65535 0 = true := by kernel_rfl
    have cS := sumAt (w := w) (W := 16) (p := 4129) (f := 65535) (t := false) (z := 0) (by omega) (by omega) (by omega) hv1 hb1
    have cT := rsumAt (w := w) (W := 16) (p := 4129) (f := 65535) (t := false) (z := 0) (by omega) (by omega) (by omega) hv1 hb1 hk
    rw [sumE_yes hk] at cS
    rcases hv1 with ⟨rfl, rfl⟩ | ⟨g, o, cap, rfl, _, _, _, _⟩
    · exact names_nC_nil w _ awC cS cT
    · by_cases hl : (bs1.length : Int) ≤ 300
      · exact names_nC_row w g o bs1.length cap _ hl awC cS cT
      · exact names_long_b w nC g o bs1.length cap (by omega) awC
  by_cases e_n32 : a0 = n32
  · subst e_n32
    have hk : kindB 32 79764919 4294967295 4294967295 = true := by kernel_rfl
    have cS := sumAt (w := w) (W := 32) (p := 79764919) (f := 4294967295) (t := true) (z := 4294967295) (by omega) (by omega) (by omega) hv1 hb1
    have cT := rsumAt (w := w) (W := 32) (p := 79764919) (f := 4294967295) (t := true) (z := 4294967295) (by omega) (by omega) (by omega) hv1 hb1 hk
    rw [sumE_yes hk] at cS
    rcases hv1 with ⟨rfl, rfl⟩ | ⟨g, o, cap, rfl, _, _, _, _⟩
    · exact names_n32_nil w _ awC cS cT
    · by_cases hl : (bs1.length : Int) ≤ 300
      · exact names_n32_row w g o bs1.length cap _ hl awC cS cT
      · exact names_long_b w n32 g o bs1.length cap (by omega) awC
  have hk : kindB 0 0 0 0 = false := by kernel_rfl
  have cS := sumAt (w := w) (W := 0) (p := 0) (f := 0) (t := false) (z := 0) (by omega) (by omega) (by omega) hv1 hb1
  rw [sumE_no hk, sumV_no hk] at cS
  by_cases hs : (a0.size : Int) ≤ 50
  · rcases hv1 with ⟨rfl, rfl⟩ | ⟨g, o, cap, rfl, _, _, _, _⟩
    · exact names_no_nil w a0 hs (not_n8 e_n8) (not_n16 e_n16) (not_nC e_nC) (not_n32 e_n32) awC cS
    · by_cases hl : (bs1.length : Int) ≤ 300
      · exact names_no_row w a0 hs (not_n8 e_n8) (not_n16 e_n16) (not_nC e_nC) (not_n32 e_n32) g o bs1.length cap hl awC cS
      · exact names_long_b w a0 g o bs1.length cap (by omega) awC
  · rcases hv1 with ⟨rfl, rfl⟩ | ⟨g, o, cap, rfl, _, _, _, _⟩
    · exact names_long_s0 w a0 (by omega) awC
    · by_cases hl : (bs1.length : Int) ≤ 300
      · exact names_long_s w a0 g o bs1.length cap hl (by omega) awC
      · exact names_long_b w a0 g o bs1.length cap (by omega) awC

set_option maxRecDepth 100000 in
theorem lifted (os : Os) (started : os.Started) (H : Type) (enc : TypeId × Value → H) :
    ReturnsInHanded {} Try.checked os 4 .any (Rows.crcNamesSpec.pre6 enc Try.prog Try.f4 Rows.crcNamesRow.domain false) (Rows.crcNamesSpec.post enc Try.prog Try.f4 false true false false) := by
  refine returnsInHanded_of_change (C := Try.checked) own started (by kernel_rfl) Try.func4
    (ChangeSpec.witness6 (enc := enc) (C := Try.checked) false ⟨#[], #[.string ByteArray.empty, .slice none 0 0], []⟩ 8 (by kernel_rfl) (by kernel_rfl) (by kernel_rfl) (by kernel_rfl)) ?_
  intro W base args ds gs before hval0 hW hcnd _
  have hval : ∀ (j : Nat) t v, Try.f4.params[j]? = some t → args[j]? = some v → Value.okWide Try.prog W .any base t v := hval0
  have hW' := hW
  obtain ⟨p, q, hA0, hV, rfl, hfz, hnd⟩ := hW
  have hA : DataW.TrodAll enc Try.prog W 0 (fun _ => true) true Try.f4.params.toList args.toList ds p := hA0
  rw [Try.params4] at hA hval
  obtain ⟨v0, vs0, dd0, ds0, pp0, qq0, hargs, rfl, rfl, hh0, r0⟩ := trodAll_cons hA
  obtain ⟨v1, vs1, dd1, ds1, pp1, qq1, rfl, rfl, rfl, hh1, r1⟩ := trodAll_cons r0
  obtain ⟨rfl, rfl, rfl⟩ := trodAll_nil r1
  obtain rfl : args = #[v0, v1] := by cases args; simp_all
  obtain ⟨rfl, rfl⟩ := trodVars_none hV
  have kk0 := hh0
  have lt0 : ∀ x ∈ pp0, x.block < W.heap.size := by obtain ⟨m, hm⟩ := kk0; exact DataW.trod_lt m _ _ _ hm
  have kk1 := hh1
  have lt1 : ∀ x ∈ pp1, x.block < W.heap.size := by obtain ⟨m, hm⟩ := kk1; exact DataW.trod_lt m _ _ _ hm
  obtain ⟨a0, rfl, rfl, rfl, w0⟩ := open_string Try.underlying9 (hval 0 9 v0 rfl rfl) hh0
  obtain ⟨bs1, hv1, hb1⟩ := open_bytes (hval 1 25 v1 rfl rfl) hh1
  clear hA0 hval0
  refine (walk W a0 w0 v1 bs1 hv1 hb1).mono fun e W' ⟨he, bel⟩ => ?_
  subst he
  exact ⟨_, rfl, _, _, _, [], _, [], hW', trodAll_mk1 (shut_bool Try.underlying4 _), (trodAll_cons_mk (Below.trod laidOut (by kernel_rfl) (of_decide_eq_true (by kernel_rfl)) kk0 bel lt0) (trodAll_cons_mk (Below.trod laidOut (by kernel_rfl) (of_decide_eq_true (by kernel_rfl)) kk1 bel lt1) trodAll_mk0)), rfl, bel.frame _, fun h => by cases h⟩

theorem over : Rows.crcNamesRow.holds Try.pinned (OpenSpec.ofChange Rows.crcNamesSpec) :=
  OpenClaim.holds_of_wide 4 Try.f4 rfl rfl rfl rfl rfl rfl rfl ⟨rfl, rfl, rfl, rfl, rfl⟩ rfl rfl rfl rfl rfl (by kernel_rfl) Try.func4 (by kernel_rfl)
    (of_decide_eq_true (by kernel_rfl)) (by unfold Func.isWrapper; first | (rw [if_pos (by decide +kernel)]; kernel_rfl) | (rw [if_neg (by decide +kernel)]; exact ⟨rfl, rfl⟩))
    (fun os started H enc _ => lifted os started H enc)

/-- THE STATEMENT -/
theorem proved : Rows.CrcNamesSaid :=
  over
#print axioms proved
end Go.Proofs.Ytjbgjiodmhpbbaa.crcNames
