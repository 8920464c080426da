/-
  What is proved: for any fraction of numbers of 64 bits and any text the statement RatioTexts (what is written is read as it was; what is read is written as it stands there) returns true. Conditions: none.
-/
import Derived.Test.YtlhjhefbindlkaaRows
import Derived.Test.YtlhjhefbindlkaaLawKit
import Derived.Test.YtlhjhefbindlkaaRatX
import Derived.WalkKit
import Derived.ProofKit
import Derived.OpenShut
import Derived.ShutString
import Derived.ChangeOld
import Derived.Below
import Derived.Lib.SmallJoins
namespace Go.Proofs.Ytlhjhefbindlkaa.ratioTexts
open Go.ChangeShapes Go.WideShapes Go.ChangeAt Go.RowKit Go.Joins
open Go.ChangeMaps (open_string shut_string)
set_option linter.unusedVariables false

theorem own : ownKnob Try.prog.godebug = none := by kernel_rfl
theorem cells28 : Try.prog.cellsOf 28 = 2 := by kernel_rfl

theorem ratT_size (n d : Int) : (ratT n d).size ≤ maxLen := by
  have h : (ratT n d).size = (ratT n d).data.toList.length := by simp
  have l1 := (textL_len n).2
  have l2 := (textL_len d).2
  rw [h, ratT_list]
  unfold maxLen
  simp
  omega

theorem rd_wrong (s : ByteArray) : (rdE s = 0) ∨ ((rdE s = 6 ∨ rdE s = 2 ∨ rdE s = 1) ∧ rdN s = 0 ∧ rdD s = 0) := by
  obtain ⟨_, _, _, _, _, _, h⟩ := rd_ways s
  rcases h with ⟨_, a, b, c⟩ | ⟨_, _, a, b, c⟩ | ⟨_, _, a, b, c⟩ | ⟨_, _, a, b, c⟩ | ⟨_, _, a, b, c⟩ | ⟨_, _, a, b, c⟩ | ⟨_, _, _, a, b, c⟩ | ⟨_, _, _, _, _, c⟩
  · exact .inr ⟨.inl c, a, b⟩
  · exact .inr ⟨.inl c, a, b⟩
  · exact .inr ⟨.inl c, a, b⟩
  · exact .inr ⟨.inr (.inl c), a, b⟩
  · exact .inr ⟨.inr (.inl c), a, b⟩
  · exact .inr ⟨.inr (.inl c), a, b⟩
  · exact .inr ⟨.inr (.inr c), a, b⟩
  · exact .inl c


set_option maxHeartbeats 2000000 in
theorem walk (n0 d0 : Int) (hn0 : I64 n0) (hd0 : I64 d0) (a1 : ByteArray) (hs1 : a1.size ≤ maxLen) (w : World) :
    Calls Try.prog 5 #[rv n0 d0, .string a1] w fun e w' => e = .returned (.bool true) ∧ Below w.heap.size w w' := by
  have NB : Hid (Has (w.alloc (.cells #[.int .i64 n0, .int .i64 d0] 28)) w.heap.size (.int .i64 n0) (.int .i64 d0) ∧ Below w.heap.size w (w.alloc (.cells #[.int .i64 n0, .int .i64 d0] 28))) := ⟨has_new _ _ _ _, (Below.refl _ _).alloc (Nat.le_refl _) _⟩
  by_cases hlen : (200 : Int) < (a1.size : Int)
  · unfold maxLen at hs1
    go_enter Try.func5, Try.ntmps5
    go_wp2_with fail
    refine (awake2_any _).mono ?_
    rintro e w1 ⟨rfl, hb⟩
    have B1 : Hid (Below w.heap.size w w1) := below_trans NB.out.2 hb
    clear hb NB
    go_wp2_with fail
    refine (awake2_any _).mono ?_
    rintro e w2 ⟨rfl, hb⟩
    have B2 : Hid (Below w.heap.size w w2) := below_trans B1.out hb
    clear hb B1
    go_wp2
    go_ret
    exact ⟨rfl, B2.out⟩
  have fT : Hid (∀ w, Calls Try.prog 24 #[rv n0 d0] w fun e w' => e = .returned (.string ((ByteArray.mk (textL n0).toArray ++ ByteArray.mk #[47]) ++ ByteArray.mk (textL d0).toArray)) ∧ Below w.heap.size w w') := fun w => ratText_any n0 d0 w hn0 hd0
  have fR : Hid (∀ w, Calls Try.prog 23 #[.string ((ByteArray.mk (textL n0).toArray ++ ByteArray.mk #[47]) ++ ByteArray.mk (textL d0).toArray)] w fun e w' => e = .returned (.tuple #[rv (rdN (ratT n0 d0)) (rdD (ratT n0 d0)), .int .i64 (rdE (ratT n0 d0))]) ∧ Below w.heap.size w w') := fun w => ratRead_any (ratT n0 d0) w (ratT_size n0 d0)
  have fG : Hid (∀ w, Calls Try.prog 14 #[rv n0 d0] w fun e w' => e = .returned (.bool (rightB n0 d0)) ∧ Below w.heap.size w w') := fun w => rright_any n0 d0 w hn0 hd0
  have fS : Hid (∀ w, Calls Try.prog 23 #[.string a1] w fun e w' => e = .returned (.tuple #[rv (rdN a1) (rdD a1), .int .i64 (rdE a1)]) ∧ Below w.heap.size w w') := fun w => ratRead_any a1 w hs1
  have fU : Hid (rdE a1 = 0 → ∀ w, Calls Try.prog 24 #[rv (rdN a1) (rdD a1)] w fun e w' => e = .returned (.string a1) ∧ Below w.heap.size w w') := fun h w => by
    obtain ⟨q1, q2, q3⟩ := text_rd a1 h
    have := ratText_any (rdN a1) (rdD a1) w q2 q3
    rwa [q1] at this
  have f1 : Hid (∀ w, Calls Try.prog 25 #[.int .i64 n0] w fun e w' => e = .returned (.string (ByteArray.mk (textL n0).toArray)) ∧ Below w.heap.size w w') := fun w => brtext_any n0 w hn0
  have f2 : Hid (∀ w, Calls Try.prog 25 #[.int .i64 d0] w fun e w' => e = .returned (.string (ByteArray.mk (textL d0).toArray)) ∧ Below w.heap.size w w') := fun w => brtext_any d0 w hd0
  have WA := rd_text hn0 hd0
  have WB := rd_wrong a1
  have l1 := (textL_len n0).2
  have l2 := (textL_len d0).2
  generalize textL n0 = ta at *
  generalize textL d0 = tb at *
  generalize rdN (ratT n0 d0) = N at *
  generalize rdD (ratT n0 d0) = D at *
  generalize rdE (ratT n0 d0) = E at *
  generalize rdN a1 = M at *
  generalize rdD a1 = C at *
  generalize rdE a1 = G at *
  generalize rightB n0 d0 = r at *
  have WAH : Hid _ := WA
  have WBH : Hid _ := WB
  unfold maxLen at hs1
  clear WA WB hn0 hd0
  go_enter Try.func5, Try.ntmps5
  go_wp2_with fail
  refine (awake2_any _).mono ?_
  rintro e w1 ⟨rfl, hb⟩
  have B : Hid (Below w.heap.size w w1) := below_trans NB.out.2 hb
  have K : Hid (Has w1 w.heap.size (.int .i64 n0) (.int .i64 d0)) := NB.out.1.below hb
  clear hb NB
  obtain ⟨c0, c1, c2, c3, c4⟩ := K.out
  go_wp2_with fail
  refine (of_any n0 d0 _).mono ?_
  rintro e w2 ⟨rfl, hb⟩
  replace B : Hid (Below w.heap.size w w2) := below_trans B.out hb
  replace K : Hid (Has w2 w.heap.size (.int .i64 n0) (.int .i64 d0)) := K.out.below hb
  clear hb c0 c1 c2 c3 c4
  go_wp2_with fail
  refine (fT.out _).mono ?_
  rintro e w3 ⟨rfl, hb⟩
  replace B : Hid (Below w.heap.size w w3) := below_trans B.out hb
  replace K : Hid (Has w3 w.heap.size (.int .i64 n0) (.int .i64 d0)) := K.out.below hb
  clear hb
  go_wp2_with fail
  refine (fR.out _).mono ?_
  rintro e w4 ⟨rfl, hb⟩
  replace B : Hid (Below w.heap.size w w4) := below_trans B.out hb
  replace K : Hid (Has w4 w.heap.size (.int .i64 n0) (.int .i64 d0)) := K.out.below hb
  clear hb fR
  go_wp2_with fail
  replace B : Hid (Below w.heap.size w (w4.alloc (.cells #[.int .i64 N, .int .i64 D] 24))) := B.out.alloc B.out.size _
  replace K : Hid (Has (w4.alloc (.cells #[.int .i64 N, .int .i64 D] 24)) w.heap.size (.int .i64 n0) (.int .i64 d0)) := K.out.alloc _
  have H5 : Hid (Has (w4.alloc (.cells #[.int .i64 N, .int .i64 D] 24)) w4.heap.size (.int .i64 N) (.int .i64 D)) := has_new _ _ _ _
  generalize w4.alloc (.cells #[.int .i64 N, .int .i64 D] 24) = w5 at *
  have k0 := cell_regrown K.out.1
  have k1 := cell_regrown K.out.2.1
  have k2 := cell_regrown H5.out.1
  have k3 := cell_regrown H5.out.2.1
  rcases WAH.out with ⟨rfl, rfl, rfl, rfl⟩ | ⟨rfl, rfl⟩
  all_goals
    clear WAH
    refine wp_region_quiet_below (by kernel_rfl) (by kernel_rfl) ?_
    repeat (go_big_quiet_step (first
      | (go_at_call 14; with_reducible exact Calls.regrown_of (fG.out _))
      | (go_at_call 17; with_reducible exact Calls.regrown_of (of_any _ _ _))))
    refine wpQuiet_nil ?_
    intro _ hw'
    obtain ⟨⟨dq, osq⟩, hw''⟩ := hw'
    subst hw''
    clear k0 k1 k2 k3 fG H5
    have hb := below_regrown w5 dq osq
    replace B : Hid (Below w.heap.size w (Sort.grow (redrawn w5 dq) osq)) := below_trans B.out hb
    replace K := K.out.below hb
    clear hb
    generalize Sort.grow (redrawn w5 dq) osq = w6 at *
    have K2 : Hid _ := K
    clear K
    go_wp2_with fail
    refine (fS.out _).mono ?_
    rintro e w7 ⟨rfl, hb⟩
    replace B : Hid (Below w.heap.size w w7) := below_trans B.out hb
    have K3 := Has.below K2.out hb
    have K4 : Hid _ := K3
    clear hb K2 K3 fS
    rcases WBH.out with rfl | ⟨rfl | rfl | rfl, rfl, rfl⟩
    · have fV : Hid _ := fU.out rfl
      clear fU WBH
      go_wp2_with fail
      replace B : Hid (Below w.heap.size w (w7.alloc (.cells #[.int .i64 M, .int .i64 C] 24))) := B.out.alloc B.out.size _
      have K5 := Has.alloc (w := w7) K4.out (.cells #[.int .i64 M, .int .i64 C] 24)
      have H7 : Has (w7.alloc (.cells #[.int .i64 M, .int .i64 C] 24)) w7.heap.size (.int .i64 M) (.int .i64 C) := has_new _ _ _ _
      generalize w7.alloc (.cells #[.int .i64 M, .int .i64 C] 24) = w8 at *
      have k0 := cell_regrown K5.1
      have k1 := cell_regrown K5.2.1
      have k2 := cell_regrown H7.1
      have k3 := cell_regrown H7.2.1
      clear K4 K5 H7
      refine wp_region_quiet_below (by kernel_rfl) (by kernel_rfl) ?_
      repeat (go_big_quiet_step (first
        | (go_at_call 24; first | with_reducible exact Calls.regrown_of (fV.out _) | with_reducible exact Calls.regrown_of (fT.out _))
        | (go_at_call 25; first | with_reducible exact Calls.regrown_of (f1.out _) | with_reducible exact Calls.regrown_of (f2.out _))
        | (go_at_call 17; with_reducible exact Calls.regrown_of (of_any _ _ _))))
      refine wpQuiet_nil ?_
      intro _ hw'
      obtain ⟨⟨dq, osq⟩, hw''⟩ := hw'
      subst hw''
      have hb := below_regrown w8 dq osq
      have B9 : Hid (Below w.heap.size w (Sort.grow (redrawn w8 dq) osq)) := below_trans B.out hb
      clear k0 k1 k2 k3 fV fT f1 f2 hb B
      generalize Sort.grow (redrawn w8 dq) osq = w9 at *
      go_wp2
      go_ret
      exact ⟨rfl, B9.out⟩
    all_goals
      clear fU WBH
      go_wp2
      go_ret
      exact ⟨rfl, B.out.alloc B.out.size _⟩

set_option maxRecDepth 100000 in
theorem lifted (os : Os) (started : os.Started) (H : Type) (enc : TypeId × Value → H) :
    ReturnsInHanded {} Try.checked os 5 .any (Rows.ratioTextsSpec.pre6 enc Try.prog Try.f5 Rows.ratioTextsRow.domain false) (Rows.ratioTextsSpec.post enc Try.prog Try.f5 false true false false) := by
  refine returnsInHanded_of_change (C := Try.checked) own started (by kernel_rfl) Try.func5
    (ChangeSpec.witness6 (enc := enc) (C := Try.checked) false ⟨#[], #[.agg #[.int .i64 0, .int .i64 0], .string ByteArray.empty], []⟩ 8 (by kernel_rfl) (by kernel_rfl) (by kernel_rfl) (by kernel_rfl)) ?_
  intro W base args ds gs before hval0 hW hcnd _
  have hval : ∀ (j : Nat) t v, Try.f5.params[j]? = some t → args[j]? = some v → Value.okWide Try.prog W .any base t v := hval0
  have hW' := hW
  obtain ⟨p, q, hA0, hV, rfl, hfz, hnd⟩ := hW
  have hA : DataW.TrodAll enc Try.prog W 0 (fun _ => true) true Try.f5.params.toList args.toList ds p := hA0
  rw [Try.params5] at hA hval
  obtain ⟨v0, vs0, dd0, ds0, p0, q0, hargs, rfl, rfl, hh0, r0⟩ := trodAll_cons hA
  obtain ⟨v1, vs1, dd1, ds1, p1, q1, rfl, rfl, rfl, hh1, r1⟩ := trodAll_cons r0
  obtain ⟨rfl, rfl, rfl⟩ := trodAll_nil r1
  obtain rfl : args = #[v0, v1] := by cases args; simp_all
  obtain ⟨rfl, rfl⟩ := trodVars_none hV
  obtain ⟨c0, e0, y0, z0, m0, rfl, rfl, rfl, hy0, hz0⟩ := open_agg2 Try.underlying28 (by kernel_rfl) cells28 (hval 0 28 v0 rfl rfl) hh0
  obtain ⟨n0, k0, rfl, w0⟩ := DataW.trod_int Try.underlying2 hy0
  obtain ⟨d0, l0, rfl, x0⟩ := DataW.trod_int Try.underlying2 hz0
  simp at k0 l0
  subst k0 l0
  obtain ⟨a1, rfl, rfl, rfl, w1⟩ := open_string Try.underlying9 (hval 1 9 v1 rfl rfl) hh1
  clear hA0 hval0
  have sr0 : ∀ (W' : World) (sp : Nat → Bool), DataW.Trod enc Try.prog W' 0 sp true 28 (.agg #[.int .i64 n0, .int .i64 d0]) (.agg [.lit (.int .i64 n0), .lit (.int .i64 d0)]) [] := fun W' sp =>
    shut_agg2 (y0 := (.lit (.int .i64 n0), [])) (y1 := (.lit (.int .i64 d0), [])) Try.underlying28 (by kernel_rfl) cells28 ⟨1, by simp [DataW.trod, Try.underlying2, w0]⟩ ⟨1, by simp [DataW.trod, Try.underlying2, x0]⟩
  refine (walk n0 d0 (bounds_i64 w0) (bounds_i64 x0) a1 w1 W).mono fun e W' ⟨he, bel⟩ => ?_
  subst he
  exact ⟨_, rfl, _, _, _, [], _, [], hW', trodAll_mk1 (shut_bool Try.underlying4 _), (trodAll_cons_mk (sr0 _ _) (trodAll_cons_mk (shut_string Try.underlying9 w1) trodAll_mk0)), rfl, bel.frame _, fun h => by cases h⟩

theorem over : Rows.ratioTextsRow.holds Try.pinned (OpenSpec.ofChange Rows.ratioTextsSpec) :=
  OpenClaim.holds_of_wide 5 Try.f5 rfl rfl rfl rfl rfl rfl rfl ⟨rfl, rfl, rfl, rfl, rfl⟩ rfl rfl rfl rfl rfl (by kernel_rfl) Try.func5 (by kernel_rfl)
    (of_decide_eq_true (by kernel_rfl)) (by unfold Func.isWrapper; first | (rw [if_pos (by decide +kernel)]; kernel_rfl) | (rw [if_neg (by decide +kernel)]; exact ⟨rfl, rfl⟩))
    (fun os started H enc _ => lifted os started H enc)

/-- THE STATEMENT -/
theorem proved : Rows.RatioTextsSaid :=
  over
#print axioms proved
end Go.Proofs.Ytlhjhefbindlkaa.ratioTexts
