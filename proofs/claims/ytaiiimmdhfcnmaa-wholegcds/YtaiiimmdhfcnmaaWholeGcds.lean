/-
  What is proved: for any two numbers of 64 bits the statement WholeGcds (what divides both is the greatest that does) returns true. Conditions: none.
-/
import Derived.Test.YtaiiimmdhfcnmaaRows
import Derived.Test.YtaiiimmdhfcnmaaGcds
import Derived.WalkKit
import Derived.ProofKit
import Derived.OpenShut
import Derived.ShutString
namespace Go.Proofs.Ytaiiimmdhfcnmaa.wholeGcds
open Go.ChangeShapes Go.WideShapes Go.ChangeAt Go.RowKit
open Go.ChangeMaps (open_string shut_string)
set_option linter.unusedVariables false      -- a walk need not use every 'w<i>' (that an integer argument fits its kind)

theorem own : ownKnob Try.prog.godebug = none := by kernel_rfl

theorem gcd_divides (a b : Int) : a.tmod ((Nat.gcd a.natAbs b.natAbs : Nat) : Int) = 0 ∧ b.tmod ((Nat.gcd a.natAbs b.natAbs : Nat) : Int) = 0 := by
  constructor
  · apply Int.tmod_eq_zero_of_dvd
    exact Int.ofNat_dvd_left.2 (Nat.gcd_dvd_left _ _)
  · apply Int.tmod_eq_zero_of_dvd
    exact Int.ofNat_dvd_left.2 (Nat.gcd_dvd_right _ _)

theorem gcd_ways (a b : Int) : ∃ (X : Nat) (V : Int) (F : Bool), Nat.gcd a.natAbs b.natAbs = X ∧ (fitV (X : Int) = V ∧ fitB (X : Int) = F)
    ∧ ((9223372036854775807 < (X : Int) ∧ V = 0 ∧ F = false) ∨ ((X : Int) ≤ 0 ∧ V = 0 ∧ F = true ∧ a = 0 ∧ b = 0) ∨ ((0 : Int) < (X : Int) ∧ (X : Int) ≤ 9223372036854775807 ∧ V = (X : Int) ∧ F = true ∧ a.tmod (X : Int) = 0 ∧ b.tmod (X : Int) = 0)) := by
  refine ⟨_, _, _, rfl, ⟨rfl, rfl⟩, ?_⟩
  have hd := gcd_divides a b
  by_cases h1 : Nat.gcd a.natAbs b.natAbs = 0
  · rw [h1]
    have := Nat.gcd_eq_zero_iff.1 h1
    exact .inr (.inl ⟨by omega, (gcd_small (by omega)).1, (gcd_small (by omega)).2, by omega, by omega⟩)
  · generalize Nat.gcd a.natAbs b.natAbs = X at *
    by_cases h2 : 9223372036854775807 < (X : Int)
    · exact .inl ⟨h2, gcd_big h2⟩
    · exact .inr (.inr ⟨by omega, by omega, (gcd_small (by omega)).1, (gcd_small (by omega)).2, hd⟩)

theorem grown_drewN {W w : World} (h : Grown W w) (n : Nat) : Grown W (w.drewN n) := h

set_option maxHeartbeats 1000000 in
/-! ### STEP 1: THE WALK: the Go text returns true. 'Grown w w'': the world has at most new blocks (Derived/RowKit3.lean). Part the cases AHEAD of 'go_enter' where a test parts the walk; take each callee by a contract of your own. -/
theorem walk (a0 : Int) (a1 : Int) (w0 : (Lit.int .i64 a0).wf = true) (w1 : (Lit.int .i64 a1).wf = true) (w : World) :
    Calls Try.prog 4 #[.int .i64 a0, .int .i64 a1] w fun e w' => e = .returned (.bool true) ∧ Grown w w' := by
  have ha := bounds_i64 w0
  have hb := bounds_i64 w1
  obtain ⟨X, V, F, hX, hV, hc⟩ := gcd_ways a0 a1
  have f1 : Hid (∀ w, Calls Try.prog 14 #[.int .i64 a0, .int .i64 a1] w fun e w' => e = .returned (.tuple #[.int .i64 V, .bool F]) ∧ ∃ n, w' = w.drewN n) := fun w => by
    have := gcd_any a0 a1 w ha hb; rw [hX, hV.1, hV.2] at this; exact this
  have f2 : Hid (∀ w, Calls Try.prog 16 #[.int .i64 a0] w fun e w' => e = .returned (.int .u64 (a0.natAbs : Int)) ∧ w' = w) := fun w => rsize_any a0 w ha
  have f3 : Hid (∀ w, Calls Try.prog 16 #[.int .i64 a1] w fun e w' => e = .returned (.int .u64 (a1.natAbs : Int)) ∧ w' = w) := fun w => rsize_any a1 w hb
  have f4 : Hid (∀ w, Calls Try.prog 15 #[.int .u64 (a0.natAbs : Int), .int .u64 (a1.natAbs : Int)] w fun e w' => e = .returned (.int .u64 (X : Int)) ∧ ∃ n, w' = w.drewN n) := fun w => by
    have := rgcd_any a0.natAbs a1.natAbs w (by omega) (by omega); rw [hX] at this; exact this
  generalize a0.natAbs = p at *
  generalize a1.natAbs = q at *
  clear hX hV ha hb
  rcases hc with ⟨c1, rfl, rfl⟩ | ⟨c1, rfl, rfl, rfl, rfl⟩ | ⟨c1, c2, rfl, rfl, c3, c4⟩
  all_goals
    go_enter Try.func4, Try.ntmps4
    go_wp2_with fail
    refine (awake_any _).mono ?_
    rintro e w' ⟨rfl, rfl⟩
    go_wp2_with fail
    refine (f1.out _).mono ?_
    rintro e w' ⟨rfl, n1, rfl⟩
    go_wp2_with fail
    refine (f2.out _).mono ?_
    rintro e w'' ⟨rfl, rfl⟩
    go_wp2_with fail
    refine (f3.out _).mono ?_
    rintro e w'' ⟨rfl, rfl⟩
    go_wp2_with fail
    refine (f4.out _).mono ?_
    rintro e w'' ⟨rfl, n2, rfl⟩
    clear f1 f2 f3 f4
    go_wp2
    go_ret
    exact ⟨rfl, by repeat (first | exact Grown.refl _ | apply grown_drewN)⟩

/-! ### THE ROW's STEP: WRITTEN OUT: LEAVE IT -/
set_option maxRecDepth 100000 in
theorem lifted (os : Os) (started : os.Started) (H : Type) (enc : TypeId × Value → H) :
    ReturnsInHanded {} Try.checked os 4 .any (Rows.wholeGcdsSpec.pre6 enc Try.prog Try.f4 Rows.wholeGcdsRow.domain false) (Rows.wholeGcdsSpec.post enc Try.prog Try.f4 false true false false) := by
  refine returnsInHanded_of_change (C := Try.checked) own started (by kernel_rfl) Try.func4
    (ChangeSpec.witness6 (enc := enc) (C := Try.checked) false ⟨#[], #[.int .i64 0, .int .i64 0], []⟩ 8 (by kernel_rfl) (by kernel_rfl) (by kernel_rfl) (by kernel_rfl)) ?_
  intro W base args ds gs before hval0 hW hcnd _
  have hval : ∀ (j : Nat) t v, Try.f4.params[j]? = some t → args[j]? = some v → Value.okWide Try.prog W .any base t v := hval0
  have hW' := hW
  obtain ⟨p, q, hA0, hV, rfl, hfz, hnd⟩ := hW
  have hA : DataW.TrodAll enc Try.prog W 0 (fun _ => true) true Try.f4.params.toList args.toList ds p := hA0
  rw [Try.params4] at hA hval
  obtain ⟨v0, vs0, d0, ds0, p0, q0, hargs, rfl, rfl, h0, r0⟩ := trodAll_cons hA
  obtain ⟨v1, vs1, d1, ds1, p1, q1, rfl, rfl, rfl, h1, r1⟩ := trodAll_cons r0
  obtain ⟨rfl, rfl, rfl⟩ := trodAll_nil r1
  obtain rfl : args = #[v0, v1] := by cases args; simp_all
  obtain ⟨rfl, rfl⟩ := trodVars_none hV
  obtain ⟨a0, rfl, rfl, rfl, w0⟩ := open_int Try.underlying2 (hval 0 2 v0 rfl rfl) h0
  obtain ⟨a1, rfl, rfl, rfl, w1⟩ := open_int Try.underlying2 (hval 1 2 v1 rfl rfl) h1
  clear hA0 hval0
  simp only [List.append_nil] at hW'
  refine (walk a0 a1 w0 w1 W).mono fun e W' ⟨he, hg⟩ => ?_
  subst he
  exact ⟨_, rfl, post_of_same (pa := []) (pv := []) hW' (fun _ _ _ => (trodAll_cons_mk (shut_bool Try.underlying4 _) trodAll_mk0)) (fun sp _ => (trodAll_cons_mk (shut_int Try.underlying2 w0) (trodAll_cons_mk (shut_int Try.underlying2 w1) trodAll_mk0))) (fun _ _ => rfl) rfl
    (hg.frame _) hg.2.1 (ok_one (by kernel_rfl) rfl (okWide_bool_mk Try.underlying4 _))⟩

theorem over : Rows.wholeGcdsRow.holds Try.pinned (OpenSpec.ofChange Rows.wholeGcdsSpec) :=
  OpenClaim.holds_of_wide 4 Try.f4 rfl rfl rfl rfl rfl rfl rfl ⟨rfl, rfl, rfl, rfl, rfl⟩ rfl rfl rfl rfl rfl (by kernel_rfl) Try.func4 (by kernel_rfl)
    (of_decide_eq_true (by kernel_rfl)) (by unfold Func.isWrapper; first | (rw [if_pos (by decide +kernel)]; kernel_rfl) | (rw [if_neg (by decide +kernel)]; exact ⟨rfl, rfl⟩))
    (fun os started H enc _ => lifted os started H enc)

/-- ████ THE STATEMENT ████ -/
theorem proved : Rows.WholeGcdsSaid :=
  over
#print axioms proved
end Go.Proofs.Ytaiiimmdhfcnmaa.wholeGcds
