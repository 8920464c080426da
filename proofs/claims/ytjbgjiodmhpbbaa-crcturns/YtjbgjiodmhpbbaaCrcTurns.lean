/-
  The statement on lancetlaw04.CrcTurns, as given: for every input the law returns true, and the arguments read as before. No conditions.
-/
import Derived.Test.YtjbgjiodmhpbbaaRows
import Derived.Test.YtjbgjiodmhpbbaaCrcAwake
import Derived.Lib.QuietBelow
import Derived.BigQuiet
import Derived.WalkKit
import Derived.ProofKit
import Derived.OpenShut
import Derived.ShutString
import Derived.ChangeOld
import Derived.Below
import Derived.Carry
namespace Go.Proofs.Ytjbgjiodmhpbbaa.crcTurns
open Go.ChangeShapes Go.WideShapes Go.ChangeAt Go.RowKit
open Go.ChangeMaps (open_string shut_string)
set_option linter.unusedVariables false

theorem own : ownKnob Try.prog.godebug = none := by kernel_rfl
theorem laidOut : laidOutB Try.prog = true := by kernel_rfl

theorem shift_back (v q m : Nat) (hv : v < 4294967296) (hq : q + m = 32) : IntKind.u32.wrap ((v : Int) * 2 ^ m) / 2 ^ m = ((v % 2 ^ q : Nat) : Int) := by
  have e1 : (v : Int) * 2 ^ m = ((v * 2 ^ m : Nat) : Int) := by simp
  have e2 : (4294967296 : Nat) = 2 ^ q * 2 ^ m := by rw [← Nat.pow_add, hq]
  have e3 : IntKind.u32.wrap ((v * 2 ^ m : Nat) : Int) = ((v * 2 ^ m % 4294967296 : Nat) : Int) := by simp only [IntKind.wrap_u32']; omega
  rw [e1, e3, e2, Nat.mul_mod_mul_right]
  have e4 : ((v % 2 ^ q * 2 ^ m : Nat) : Int) / 2 ^ m = ((v % 2 ^ q * 2 ^ m / 2 ^ m : Nat) : Int) := by simp
  rw [e4, Nat.mul_div_cancel _ (Nat.two_pow_pos m)]


set_option maxRecDepth 100000 in
set_option maxHeartbeats 4000000 in
theorem walk (w : World) (a0 : Nat) (h0 : a0 < 4294967296) (a1 : Int) (h1 : -9223372036854775808 ≤ a1 ∧ a1 ≤ 9223372036854775807) :
    Calls Try.prog 5 #[.int .u32 (a0 : Int), .int .i64 a1] w fun e w' => e = .returned (.bool true) ∧ Below w.heap.size w w' := by
  by_cases hin : 1 ≤ a1 ∧ a1 ≤ 32
  · obtain ⟨q, rfl⟩ : ∃ q : Nat, a1 = q := ⟨a1.toNat, by omega⟩
    obtain ⟨m, hm⟩ : ∃ m : Nat, q + m = 32 := ⟨32 - q, by omega⟩
    have e0 : turnV a0 (q : Int) = turnL a0 q := by unfold turnV; rw [if_pos hin, Int.toNat_natCast]
    have tl : turnL a0 q < 4294967296 := by
      have h1 := turn_lt a0 q
      have h2 : 2 ^ q ≤ 2 ^ 32 := Nat.pow_le_pow_right (by omega) (by omega)
      omega
    have f1 : Hid (∀ w, Calls Try.prog 14 #[.int .u32 (a0 : Int), .int .i64 (q : Int)] w fun e w' => e = .returned (.int .u32 ((turnL a0 q : Nat) : Int)) ∧ w' = w) := fun w => by
      have := turn_any a0 q w h0 h1; rwa [e0] at this
    have f2 : Hid (∀ w, Calls Try.prog 15 #[.int .u32 (a0 : Int), .int .i64 (q : Int)] w fun e w' => e = .returned (.int .u32 ((turnL a0 q : Nat) : Int)) ∧ Below w.heap.size w w') := fun w => by
      have := rturn_any a0 q w h0 h1; rwa [e0] at this
    have f3 : Hid (∀ w, Calls Try.prog 14 #[.int .u32 ((turnL a0 q : Nat) : Int), .int .i64 (q : Int)] w fun e w' => e = .returned (.int .u32 ((a0 % 2 ^ q : Nat) : Int)) ∧ Below w.heap.size w w') := fun w => by
      have := turn_any (turnL a0 q) q w tl h1
      have e1 : turnV (turnL a0 q) (q : Int) = a0 % 2 ^ q := by unfold turnV; rw [if_pos hin, Int.toNat_natCast, turn_turn]
      rw [e1] at this
      exact this.mono fun e w' h => ⟨h.1, by rw [h.2]; exact Below.refl _ _⟩
    have sb : (a0 : Int) * 2 ^ m % 4294967296 / 2 ^ m = ((a0 % 2 ^ q : Nat) : Int) := by have := shift_back a0 q m h0 hm; rwa [IntKind.wrap_u32'] at this
    have sm : (32 : Int) - (q : Int) = (m : Int) := by omega
    generalize turnL a0 q = u at *
    generalize a0 % 2 ^ q = x at *
    clear e0 tl hm
    have i1 := hin.1
    have i2 := hin.2
    clear hin
    go_enter Try.func5, Try.ntmps5
    go_wp2_with fail
    refine (awake_any _).mono ?_
    rintro e w1 ⟨rfl, hb1⟩
    have B : Hid (Below w.heap.size w w1) := hb1
    clear hb1
    go_wp2_with fail
    refine (f1.out _).mono ?_
    rintro e w2 ⟨rfl, rfl⟩
    go_wp2_with fail
    refine wp_region_quiet_below (by kernel_rfl) (by kernel_rfl) ?_
    repeat (go_big_quiet_step (first
      | (go_at_call 15; with_reducible exact Calls.regrown_of (f2.out _))
      | (go_at_call 14; with_reducible exact Calls.regrown_of (f3.out _))))
    refine wpQuiet_nil ?_
    intro _ hw'
    obtain ⟨⟨dq, osq⟩, hw''⟩ := hw'
    subst hw''
    have hb := below_regrown w2 dq osq
    replace B : Hid (Below w.heap.size w (Sort.grow (redrawn w2 dq) osq)) := belowT B.out hb
    clear hb
    go_wp2
    go_ret
    exact ⟨rfl, B.out⟩
  · have e0 : turnV a0 a1 = 0 := by unfold turnV; rw [if_neg hin]
    have f1 : Hid (∀ w, Calls Try.prog 14 #[.int .u32 (a0 : Int), .int .i64 a1] w fun e w' => e = .returned (.int .u32 0) ∧ w' = w) := fun w => by
      have := turn_any a0 a1 w h0 h1; rw [e0] at this; exact this
    clear e0
    have hin2 : a1 < 1 ∨ (1 ≤ a1 ∧ 32 < a1) := by omega
    clear hin
    rcases hin2 with i1 | ⟨i1, i2⟩
    all_goals
      go_enter Try.func5, Try.ntmps5
      go_wp2_with fail
      refine (awake_any _).mono ?_
      rintro e w1 ⟨rfl, hb1⟩
      have B : Hid (Below w.heap.size w w1) := hb1
      clear hb1
      go_wp2_with fail
      refine (f1.out _).mono ?_
      rintro e w2 ⟨rfl, rfl⟩
      go_wp2
      go_ret
      exact ⟨rfl, B.out⟩

set_option maxRecDepth 100000 in
theorem lifted (os : Os) (started : os.Started) (H : Type) (enc : TypeId × Value → H) :
    ReturnsInHanded {} Try.checked os 5 .any (Rows.crcTurnsSpec.pre6 enc Try.prog Try.f5 Rows.crcTurnsRow.domain false) (Rows.crcTurnsSpec.post enc Try.prog Try.f5 false true false false) := by
  refine returnsInHanded_of_change (C := Try.checked) own started (by kernel_rfl) Try.func5
    (ChangeSpec.witness6 (enc := enc) (C := Try.checked) false ⟨#[], #[.int .u32 0, .int .i64 0], []⟩ 8 (by kernel_rfl) (by kernel_rfl) (by kernel_rfl) (by kernel_rfl)) ?_
  intro W base args ds gs before hval0 hW hcnd _
  have hval : ∀ (j : Nat) t v, Try.f5.params[j]? = some t → args[j]? = some v → Value.okWide Try.prog W .any base t v := hval0
  have hW' := hW
  obtain ⟨p, q, hA0, hV, rfl, hfz, hnd⟩ := hW
  have hA : DataW.TrodAll enc Try.prog W 0 (fun _ => true) true Try.f5.params.toList args.toList ds p := hA0
  rw [Try.params5] at hA hval
  obtain ⟨v0, vs0, dd0, ds0, pp0, qq0, hargs, rfl, rfl, hh0, r0⟩ := trodAll_cons hA
  obtain ⟨v1, vs1, dd1, ds1, pp1, qq1, rfl, rfl, rfl, hh1, r1⟩ := trodAll_cons r0
  obtain ⟨rfl, rfl, rfl⟩ := trodAll_nil r1
  obtain rfl : args = #[v0, v1] := by cases args; simp_all
  obtain ⟨rfl, rfl⟩ := trodVars_none hV
  have kk0 := hh0
  have lt0 : ∀ x ∈ pp0, x.block < W.heap.size := by obtain ⟨m, hm⟩ := kk0; exact DataW.trod_lt m _ _ _ hm
  have kk1 := hh1
  have lt1 : ∀ x ∈ pp1, x.block < W.heap.size := by obtain ⟨m, hm⟩ := kk1; exact DataW.trod_lt m _ _ _ hm
  obtain ⟨b0, rfl, rfl, rfl, w0⟩ := open_int Try.underlying22 (hval 0 22 v0 rfl rfl) hh0
  have c0 := bd_u32 w0
  obtain ⟨a0, rfl⟩ : ∃ a : Nat, b0 = a := ⟨b0.toNat, by omega⟩
  obtain ⟨a1, rfl, rfl, rfl, w1⟩ := open_int Try.underlying3 (hval 1 3 v1 rfl rfl) hh1
  clear hA0 hval0
  refine (walk W a0 (by omega) a1 (bd_i64 w1)).mono fun e W' ⟨he, bel⟩ => ?_
  subst he
  exact ⟨_, rfl, _, _, _, [], _, [], hW', trodAll_mk1 (shut_bool Try.underlying4 _), (trodAll_cons_mk (Below.trod laidOut (by kernel_rfl) (of_decide_eq_true (by kernel_rfl)) kk0 bel lt0) (trodAll_cons_mk (Below.trod laidOut (by kernel_rfl) (of_decide_eq_true (by kernel_rfl)) kk1 bel lt1) trodAll_mk0)), rfl, bel.frame _, fun h => by cases h⟩

theorem over : Rows.crcTurnsRow.holds Try.pinned (OpenSpec.ofChange Rows.crcTurnsSpec) :=
  OpenClaim.holds_of_wide 5 Try.f5 rfl rfl rfl rfl rfl rfl rfl ⟨rfl, rfl, rfl, rfl, rfl⟩ rfl rfl rfl rfl rfl (by kernel_rfl) Try.func5 (by kernel_rfl)
    (of_decide_eq_true (by kernel_rfl)) (by unfold Func.isWrapper; first | (rw [if_pos (by decide +kernel)]; kernel_rfl) | (rw [if_neg (by decide +kernel)]; exact ⟨rfl, rfl⟩))
    (fun os started H enc _ => lifted os started H enc)

/-- THE STATEMENT -/
theorem proved : Rows.CrcTurnsSaid :=
  over
#print axioms proved
end Go.Proofs.Ytjbgjiodmhpbbaa.crcTurns
