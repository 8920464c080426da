/-
  What is proved: for any two numbers of 64 bits the statement WholeBack (what is added is taken away again; what is multiplied, divided) returns true. Conditions: none.
-/
import Derived.Test.YtaiiimmdhfcnmaaRows
import Derived.Test.YtaiiimmdhfcnmaaInts2
import Derived.WalkKit
import Derived.ProofKit
import Derived.OpenShut
import Derived.ShutString
namespace Go.Proofs.Ytaiiimmdhfcnmaa.wholeBack
open Go.ChangeShapes Go.WideShapes Go.ChangeAt Go.RowKit
open Go.ChangeMaps (open_string shut_string)
set_option linter.unusedVariables false      -- a walk need not use every 'w<i>' (that an integer argument fits its kind)

theorem own : ownKnob Try.prog.godebug = none := by kernel_rfl

theorem back_add (a b : Int) (ha : -9223372036854775808 ≤ a ∧ a ≤ 9223372036854775807) (hb : -9223372036854775808 ≤ b ∧ b ≤ 9223372036854775807) :
    ∃ (S : Int) (OK : Bool) (M : Int) (IS : Bool) (D : Int) (G : Bool), (fitV (a + b) = S ∧ fitB (a + b) = OK) ∧ (fitV (-b) = M ∧ fitB (-b) = IS) ∧ (fitV (S + M) = D ∧ fitB (S + M) = G)
      ∧ (-9223372036854775808 ≤ S ∧ S ≤ 9223372036854775807) ∧ (-9223372036854775808 ≤ M ∧ M ≤ 9223372036854775807)
      ∧ ((OK = false) ∨ (OK = true ∧ IS = false) ∨ (OK = true ∧ IS = true ∧ G = true ∧ (D == a) = true)) := by
  refine ⟨_, _, _, _, _, _, ⟨rfl, rfl⟩, ⟨rfl, rfl⟩, ⟨rfl, rfl⟩, fitV_bd _, fitV_bd _, ?_⟩
  by_cases h1 : -9223372036854775808 ≤ a + b ∧ a + b ≤ 9223372036854775807
  · by_cases h2 : -9223372036854775808 ≤ -b ∧ -b ≤ 9223372036854775807
    · refine .inr (.inr ⟨(fit_yes h1).1, (fit_yes h2).1, ?_, ?_⟩)
      · rw [(fit_yes h1).2, (fit_yes h2).2, show a + b + -b = a by omega]; exact (fit_yes ha).1
      · rw [(fit_yes h1).2, (fit_yes h2).2, show a + b + -b = a by omega, (fit_yes ha).2]; simp
    · exact .inr (.inl ⟨(fit_yes h1).1, (fit_no h2).1⟩)
  · exact .inl (fit_no h1).1

theorem back_mul (a b : Int) (ha : -9223372036854775808 ≤ a ∧ a ≤ 9223372036854775807) :
    ∃ (P : Int) (R : Bool), (fitV (a * b) = P ∧ fitB (a * b) = R) ∧ (fitV (b * a) = P ∧ fitB (b * a) = R)
      ∧ ((R = false) ∨ (R = true ∧ (b == 0) = true) ∨ (R = true ∧ (b == 0) = false ∧ (¬ b = 0) ∧ (wrap64 (P.tdiv b) == a) = true ∧ (P.tmod b == 0) = true)) := by
  refine ⟨_, _, ⟨rfl, rfl⟩, by rw [Int.mul_comm b a]; exact ⟨rfl, rfl⟩, ?_⟩
  by_cases h1 : -9223372036854775808 ≤ a * b ∧ a * b ≤ 9223372036854775807
  · by_cases h2 : b = 0
    · exact .inr (.inl ⟨(fit_yes h1).1, by simp [h2]⟩)
    · refine .inr (.inr ⟨(fit_yes h1).1, by simp [h2], h2, ?_, ?_⟩)
      · rw [(fit_yes h1).2, Int.mul_tdiv_cancel _ h2, Go.IntWalk.wrap64_in _ ha]; simp
      · rw [(fit_yes h1).2, Int.mul_tmod_left]; rfl
  · exact .inl (fit_no h1).1

set_option maxHeartbeats 1000000 in
/-! ### STEP 1: THE WALK: the Go text returns true. 'Grown w w'': the world has at most new blocks (Derived/RowKit3.lean). Part the cases AHEAD of 'go_enter' where a test parts the walk; take each callee by a contract of your own. -/
theorem walk (a0 : Int) (a1 : Int) (w0 : (Lit.int .i64 a0).wf = true) (w1 : (Lit.int .i64 a1).wf = true) (w : World) :
    Calls Try.prog 6 #[.int .i64 a0, .int .i64 a1] w fun e w' => e = .returned (.bool true) ∧ Grown w w' := by
  have ha := bounds_i64 w0
  have hb := bounds_i64 w1
  obtain ⟨S, OK, M, IS, D, G, h1, h2, h3, hS, hM, hc⟩ := back_add a0 a1 ha hb
  obtain ⟨P, R, h4, h5, hd⟩ := back_mul a0 a1 ha
  have f1 : ∀ w, Calls Try.prog 9 #[.int .i64 a0, .int .i64 a1] w fun e w' => e = .returned (.tuple #[.int .i64 S, .bool OK]) ∧ w' = w := fun w => by
    have := add_any a0 a1 w ha hb; rw [h1.1, h1.2] at this; exact this
  have f2 : ∀ w, Calls Try.prog 13 #[.int .i64 a1] w fun e w' => e = .returned (.tuple #[.int .i64 M, .bool IS]) ∧ w' = w := fun w => by
    have := neg_any a1 w hb; rw [h2.1, h2.2] at this; exact this
  have f3 : ∀ w, Calls Try.prog 9 #[.int .i64 S, .int .i64 M] w fun e w' => e = .returned (.tuple #[.int .i64 D, .bool G]) ∧ w' = w := fun w => by
    have := add_any S M w hS hM; rw [h3.1, h3.2] at this; exact this
  have f4 : ∀ w, Calls Try.prog 11 #[.int .i64 a0, .int .i64 a1] w fun e w' => e = .returned (.tuple #[.int .i64 P, .bool R]) ∧ w' = w := fun w => by
    have := mul_any a0 a1 w ha hb; rw [h4.1, h4.2] at this; exact this
  have f5 : ∀ w, Calls Try.prog 11 #[.int .i64 a1, .int .i64 a0] w fun e w' => e = .returned (.tuple #[.int .i64 P, .bool R]) ∧ w' = w := fun w => by
    have := mul_any a1 a0 w hb ha; rw [h5.1, h5.2] at this; exact this
  have F1 : Hid _ := f1
  have F2 : Hid _ := f2
  have F3 : Hid _ := f3
  have F4 : Hid _ := f4
  have F5 : Hid _ := f5
  clear f1 f2 f3 f4 f5 h1 h2 h3 h4 h5 hS hM ha hb
  rcases hc with rfl | ⟨rfl, rfl⟩ | ⟨rfl, rfl, rfl, hc⟩ <;> rcases hd with rfl | ⟨rfl, hd⟩ | ⟨rfl, hd, hd2, hd3, hd4⟩
  all_goals
    go_enter Try.func6, Try.ntmps6
    go_wp2_with fail
    refine (awake_any _).mono ?_
    rintro e w' ⟨rfl, rfl⟩
    go_wp2_with fail
    refine (F1.out _).mono ?_
    rintro e w' ⟨rfl, rfl⟩
    go_wp2_with fail
    refine (F2.out _).mono ?_
    rintro e w' ⟨rfl, rfl⟩
    go_wp2_with fail
    refine (F3.out _).mono ?_
    rintro e w' ⟨rfl, rfl⟩
    go_wp2_with fail
    refine (F4.out _).mono ?_
    rintro e w' ⟨rfl, rfl⟩
    go_wp2_with fail
    refine (F5.out _).mono ?_
    rintro e w' ⟨rfl, rfl⟩
    clear F1 F2 F3 F4 F5
    go_wp2
    go_ret
    exact ⟨rfl, Grown.refl _⟩

/-! ### THE ROW's STEP: WRITTEN OUT: LEAVE IT -/
set_option maxRecDepth 100000 in
theorem lifted (os : Os) (started : os.Started) (H : Type) (enc : TypeId × Value → H) :
    ReturnsInHanded {} Try.checked os 6 .any (Rows.wholeBackSpec.pre6 enc Try.prog Try.f6 Rows.wholeBackRow.domain false) (Rows.wholeBackSpec.post enc Try.prog Try.f6 false true false false) := by
  refine returnsInHanded_of_change (C := Try.checked) own started (by kernel_rfl) Try.func6
    (ChangeSpec.witness6 (enc := enc) (C := Try.checked) false ⟨#[], #[.int .i64 0, .int .i64 0], []⟩ 8 (by kernel_rfl) (by kernel_rfl) (by kernel_rfl) (by kernel_rfl)) ?_
  intro W base args ds gs before hval0 hW hcnd _
  have hval : ∀ (j : Nat) t v, Try.f6.params[j]? = some t → args[j]? = some v → Value.okWide Try.prog W .any base t v := hval0
  have hW' := hW
  obtain ⟨p, q, hA0, hV, rfl, hfz, hnd⟩ := hW
  have hA : DataW.TrodAll enc Try.prog W 0 (fun _ => true) true Try.f6.params.toList args.toList ds p := hA0
  rw [Try.params6] at hA hval
  obtain ⟨v0, vs0, d0, ds0, p0, q0, hargs, rfl, rfl, h0, r0⟩ := trodAll_cons hA
  obtain ⟨v1, vs1, d1, ds1, p1, q1, rfl, rfl, rfl, h1, r1⟩ := trodAll_cons r0
  obtain ⟨rfl, rfl, rfl⟩ := trodAll_nil r1
  obtain rfl : args = #[v0, v1] := by cases args; simp_all
  obtain ⟨rfl, rfl⟩ := trodVars_none hV
  obtain ⟨a0, rfl, rfl, rfl, w0⟩ := open_int Try.underlying2 (hval 0 2 v0 rfl rfl) h0
  obtain ⟨a1, rfl, rfl, rfl, w1⟩ := open_int Try.underlying2 (hval 1 2 v1 rfl rfl) h1
  clear hA0 hval0
  simp only [List.append_nil] at hW'
  refine (walk a0 a1 w0 w1 W).mono fun e W' ⟨he, hg⟩ => ?_
  subst he
  exact ⟨_, rfl, post_of_same (pa := []) (pv := []) hW' (fun _ _ _ => (trodAll_cons_mk (shut_bool Try.underlying4 _) trodAll_mk0)) (fun sp _ => (trodAll_cons_mk (shut_int Try.underlying2 w0) (trodAll_cons_mk (shut_int Try.underlying2 w1) trodAll_mk0))) (fun _ _ => rfl) rfl
    (hg.frame _) hg.2.1 (ok_one (by kernel_rfl) rfl (okWide_bool_mk Try.underlying4 _))⟩

theorem over : Rows.wholeBackRow.holds Try.pinned (OpenSpec.ofChange Rows.wholeBackSpec) :=
  OpenClaim.holds_of_wide 6 Try.f6 rfl rfl rfl rfl rfl rfl rfl ⟨rfl, rfl, rfl, rfl, rfl⟩ rfl rfl rfl rfl rfl (by kernel_rfl) Try.func6 (by kernel_rfl)
    (of_decide_eq_true (by kernel_rfl)) (by unfold Func.isWrapper; first | (rw [if_pos (by decide +kernel)]; kernel_rfl) | (rw [if_neg (by decide +kernel)]; exact ⟨rfl, rfl⟩))
    (fun os started H enc _ => lifted os started H enc)

/-- ████ THE STATEMENT ████ -/
theorem proved : Rows.WholeBackSaid :=
  over
#print axioms proved
end Go.Proofs.Ytaiiimmdhfcnmaa.wholeBack
