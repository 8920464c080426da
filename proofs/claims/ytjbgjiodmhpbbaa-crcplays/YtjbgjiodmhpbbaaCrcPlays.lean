/-
  The statement on lancetlaw04.CrcPlays, as given: for every input the law returns true, and the arguments read as before. No conditions.
-/
import Derived.Test.YtjbgjiodmhpbbaaRows
import Derived.Test.YtjbgjiodmhpbbaaCrcKit
import Derived.WalkKit
import Derived.ProofKit
import Derived.OpenShut
import Derived.ShutString
import Derived.ChangeOld
import Derived.Below
import Derived.Carry
namespace Go.Proofs.Ytjbgjiodmhpbbaa.crcPlays
open Go.ChangeShapes Go.WideShapes Go.ChangeAt Go.RowKit
open Go.ChangeMaps (open_string shut_string)
set_option linter.unusedVariables false

theorem own : ownKnob Try.prog.godebug = none := by kernel_rfl
theorem laidOut : laidOutB Try.prog = true := by kernel_rfl


set_option maxRecDepth 100000 in
set_option maxHeartbeats 2000000 in
theorem plays_nil_yes (w : World) (W : Int) (p f : Nat) (t : Bool) (z : Nat) (V : Nat) (aw : AwC) (cO : OfC W p f t z) (cS : SumAt w W p f t z (.slice none 0 0) V 0) (cR : RightC W p f t z true) (cT : RSumAt w W p f t z (.slice none 0 0) V) :
    Calls Try.prog 3 #[kv W p f t z, .slice none 0 0] w fun e w' => e = .returned (.bool true) ∧ Below w.heap.size w w' := by
  have Q : Hid (KBx (w.alloc (.cells #[.int .i64 W, .int .u32 (p : Int), .int .u32 (f : Int), .bool t, .int .u32 (z : Int)] 24)) w.heap.size 24 W p f t z) := KBx.new _ _ _ _ _ _ _
  have B : Hid (Below w.heap.size w (w.alloc (.cells #[.int .i64 W, .int .u32 (p : Int), .int .u32 (f : Int), .bool t, .int .u32 (z : Int)] 24))) := (Below.refl _ _).alloc (Nat.le_refl _) _
  go_enter Try.func3, Try.ntmps3
  go_wp2_with fail
  refine (aw _).mono ?_
  rintro e w1 ⟨rfl, hb⟩
  replace Q : Hid (KBx w1 w.heap.size 24 W p f t z) := Q.out.below hb
  replace B : Hid (Below w.heap.size w w1) := belowT B.out hb
  clear hb
  obtain ⟨c0, c1, c2, c3, c4⟩ := Q.out.cells
  go_wp2_with fail
  refine (cO _).mono ?_
  rintro e w2 ⟨rfl, hb⟩
  replace Q : Hid (KBx w2 w.heap.size 24 W p f t z) := Q.out.below hb
  replace B : Hid (Below w.heap.size w w2) := belowT B.out hb
  clear hb c0 c1 c2 c3 c4
  go_wp2_with fail
  refine (cS _ B.out).mono ?_
  rintro e w3 ⟨rfl, hb⟩
  replace Q : Hid (KBx w3 w.heap.size 24 W p f t z) := Q.out.below hb
  replace B : Hid (Below w.heap.size w w3) := belowT B.out hb
  clear hb
  obtain ⟨c0, c1, c2, c3, c4⟩ := Q.out.cells
  go_wp2_with fail
  refine (cR _).mono ?_
  rintro e w4 ⟨rfl, hb⟩
  replace Q : Hid (KBx w4 w.heap.size 24 W p f t z) := Q.out.below hb
  replace B : Hid (Below w.heap.size w w4) := belowT B.out hb
  clear hb c0 c1 c2 c3 c4
  obtain ⟨c0, c1, c2, c3, c4⟩ := Q.out.cells
  go_wp2_with fail
  refine (cT _ B.out).mono ?_
  rintro e w5 ⟨rfl, hb⟩
  replace B : Hid (Below w.heap.size w w5) := belowT B.out hb
  clear hb c0 c1 c2 c3 c4
  go_wp2
  go_ret
  exact ⟨rfl, B.out⟩

set_option maxRecDepth 100000 in
set_option maxHeartbeats 2000000 in
theorem plays_nil_no (w : World) (W : Int) (p f : Nat) (t : Bool) (z : Nat) (aw : AwC) (cO : OfC W p f t z) (cS : SumAt w W p f t z (.slice none 0 0) 0 1) (cR : RightC W p f t z false) :
    Calls Try.prog 3 #[kv W p f t z, .slice none 0 0] w fun e w' => e = .returned (.bool true) ∧ Below w.heap.size w w' := by
  have Q : Hid (KBx (w.alloc (.cells #[.int .i64 W, .int .u32 (p : Int), .int .u32 (f : Int), .bool t, .int .u32 (z : Int)] 24)) w.heap.size 24 W p f t z) := KBx.new _ _ _ _ _ _ _
  have B : Hid (Below w.heap.size w (w.alloc (.cells #[.int .i64 W, .int .u32 (p : Int), .int .u32 (f : Int), .bool t, .int .u32 (z : Int)] 24))) := (Below.refl _ _).alloc (Nat.le_refl _) _
  go_enter Try.func3, Try.ntmps3
  go_wp2_with fail
  refine (aw _).mono ?_
  rintro e w1 ⟨rfl, hb⟩
  replace Q : Hid (KBx w1 w.heap.size 24 W p f t z) := Q.out.below hb
  replace B : Hid (Below w.heap.size w w1) := belowT B.out hb
  clear hb
  obtain ⟨c0, c1, c2, c3, c4⟩ := Q.out.cells
  go_wp2_with fail
  refine (cO _).mono ?_
  rintro e w2 ⟨rfl, hb⟩
  replace Q : Hid (KBx w2 w.heap.size 24 W p f t z) := Q.out.below hb
  replace B : Hid (Below w.heap.size w w2) := belowT B.out hb
  clear hb c0 c1 c2 c3 c4
  go_wp2_with fail
  refine (cS _ B.out).mono ?_
  rintro e w3 ⟨rfl, hb⟩
  replace Q : Hid (KBx w3 w.heap.size 24 W p f t z) := Q.out.below hb
  replace B : Hid (Below w.heap.size w w3) := belowT B.out hb
  clear hb
  obtain ⟨c0, c1, c2, c3, c4⟩ := Q.out.cells
  go_wp2_with fail
  refine (cR _).mono ?_
  rintro e w4 ⟨rfl, hb⟩
  replace Q : Hid (KBx w4 w.heap.size 24 W p f t z) := Q.out.below hb
  replace B : Hid (Below w.heap.size w w4) := belowT B.out hb
  clear hb c0 c1 c2 c3 c4
  go_wp2
  go_ret
  exact ⟨rfl, B.out⟩

set_option maxRecDepth 100000 in
set_option maxHeartbeats 2000000 in
theorem plays_row_yes (w : World) (W : Int) (p f : Nat) (t : Bool) (z : Nat) (g o L cap : Nat) (V : Nat) (hl : (L : Int) ≤ 300) (aw : AwC) (cO : OfC W p f t z) (cS : SumAt w W p f t z (.slice (some ⟨g, o, none⟩) L cap) V 0) (cR : RightC W p f t z true) (cT : RSumAt w W p f t z (.slice (some ⟨g, o, none⟩) L cap) V) :
    Calls Try.prog 3 #[kv W p f t z, .slice (some ⟨g, o, none⟩) L cap] w fun e w' => e = .returned (.bool true) ∧ Below w.heap.size w w' := by
  have Q : Hid (KBx (w.alloc (.cells #[.int .i64 W, .int .u32 (p : Int), .int .u32 (f : Int), .bool t, .int .u32 (z : Int)] 24)) w.heap.size 24 W p f t z) := KBx.new _ _ _ _ _ _ _
  have B : Hid (Below w.heap.size w (w.alloc (.cells #[.int .i64 W, .int .u32 (p : Int), .int .u32 (f : Int), .bool t, .int .u32 (z : Int)] 24))) := (Below.refl _ _).alloc (Nat.le_refl _) _
  go_enter Try.func3, Try.ntmps3
  go_wp2_with fail
  refine (aw _).mono ?_
  rintro e w1 ⟨rfl, hb⟩
  replace Q : Hid (KBx w1 w.heap.size 24 W p f t z) := Q.out.below hb
  replace B : Hid (Below w.heap.size w w1) := belowT B.out hb
  clear hb
  obtain ⟨c0, c1, c2, c3, c4⟩ := Q.out.cells
  go_wp2_with fail
  refine (cO _).mono ?_
  rintro e w2 ⟨rfl, hb⟩
  replace Q : Hid (KBx w2 w.heap.size 24 W p f t z) := Q.out.below hb
  replace B : Hid (Below w.heap.size w w2) := belowT B.out hb
  clear hb c0 c1 c2 c3 c4
  go_wp2_with fail
  refine (cS _ B.out).mono ?_
  rintro e w3 ⟨rfl, hb⟩
  replace Q : Hid (KBx w3 w.heap.size 24 W p f t z) := Q.out.below hb
  replace B : Hid (Below w.heap.size w w3) := belowT B.out hb
  clear hb
  obtain ⟨c0, c1, c2, c3, c4⟩ := Q.out.cells
  go_wp2_with fail
  refine (cR _).mono ?_
  rintro e w4 ⟨rfl, hb⟩
  replace Q : Hid (KBx w4 w.heap.size 24 W p f t z) := Q.out.below hb
  replace B : Hid (Below w.heap.size w w4) := belowT B.out hb
  clear hb c0 c1 c2 c3 c4
  obtain ⟨c0, c1, c2, c3, c4⟩ := Q.out.cells
  go_wp2_with fail
  refine (cT _ B.out).mono ?_
  rintro e w5 ⟨rfl, hb⟩
  replace B : Hid (Below w.heap.size w w5) := belowT B.out hb
  clear hb c0 c1 c2 c3 c4
  go_wp2
  go_ret
  exact ⟨rfl, B.out⟩

set_option maxRecDepth 100000 in
set_option maxHeartbeats 2000000 in
theorem plays_row_no (w : World) (W : Int) (p f : Nat) (t : Bool) (z : Nat) (g o L cap : Nat) (hl : (L : Int) ≤ 300) (aw : AwC) (cO : OfC W p f t z) (cS : SumAt w W p f t z (.slice (some ⟨g, o, none⟩) L cap) 0 1) (cR : RightC W p f t z false) :
    Calls Try.prog 3 #[kv W p f t z, .slice (some ⟨g, o, none⟩) L cap] w fun e w' => e = .returned (.bool true) ∧ Below w.heap.size w w' := by
  have Q : Hid (KBx (w.alloc (.cells #[.int .i64 W, .int .u32 (p : Int), .int .u32 (f : Int), .bool t, .int .u32 (z : Int)] 24)) w.heap.size 24 W p f t z) := KBx.new _ _ _ _ _ _ _
  have B : Hid (Below w.heap.size w (w.alloc (.cells #[.int .i64 W, .int .u32 (p : Int), .int .u32 (f : Int), .bool t, .int .u32 (z : Int)] 24))) := (Below.refl _ _).alloc (Nat.le_refl _) _
  go_enter Try.func3, Try.ntmps3
  go_wp2_with fail
  refine (aw _).mono ?_
  rintro e w1 ⟨rfl, hb⟩
  replace Q : Hid (KBx w1 w.heap.size 24 W p f t z) := Q.out.below hb
  replace B : Hid (Below w.heap.size w w1) := belowT B.out hb
  clear hb
  obtain ⟨c0, c1, c2, c3, c4⟩ := Q.out.cells
  go_wp2_with fail
  refine (cO _).mono ?_
  rintro e w2 ⟨rfl, hb⟩
  replace Q : Hid (KBx w2 w.heap.size 24 W p f t z) := Q.out.below hb
  replace B : Hid (Below w.heap.size w w2) := belowT B.out hb
  clear hb c0 c1 c2 c3 c4
  go_wp2_with fail
  refine (cS _ B.out).mono ?_
  rintro e w3 ⟨rfl, hb⟩
  replace Q : Hid (KBx w3 w.heap.size 24 W p f t z) := Q.out.below hb
  replace B : Hid (Below w.heap.size w w3) := belowT B.out hb
  clear hb
  obtain ⟨c0, c1, c2, c3, c4⟩ := Q.out.cells
  go_wp2_with fail
  refine (cR _).mono ?_
  rintro e w4 ⟨rfl, hb⟩
  replace Q : Hid (KBx w4 w.heap.size 24 W p f t z) := Q.out.below hb
  replace B : Hid (Below w.heap.size w w4) := belowT B.out hb
  clear hb c0 c1 c2 c3 c4
  go_wp2
  go_ret
  exact ⟨rfl, B.out⟩

set_option maxRecDepth 100000 in
set_option maxHeartbeats 2000000 in
theorem plays_long (w : World) (W : Int) (p f : Nat) (t : Bool) (z : Nat) (g o L cap : Nat) (hl : 300 < (L : Int)) (aw : AwC) :
    Calls Try.prog 3 #[kv W p f t z, .slice (some ⟨g, o, none⟩) L cap] w fun e w' => e = .returned (.bool true) ∧ Below w.heap.size w w' := by
  have B : Hid (Below w.heap.size w (w.alloc (.cells #[.int .i64 W, .int .u32 (p : Int), .int .u32 (f : Int), .bool t, .int .u32 (z : Int)] 24))) := (Below.refl _ _).alloc (Nat.le_refl _) _
  go_enter Try.func3, Try.ntmps3
  go_wp2_with fail
  refine (aw _).mono ?_
  rintro e w1 ⟨rfl, hb⟩
  replace B : Hid (Below w.heap.size w w1) := belowT B.out hb
  clear hb
  go_wp2_with fail
  refine (aw _).mono ?_
  rintro e w2 ⟨rfl, hb⟩
  replace B : Hid (Below w.heap.size w w2) := belowT B.out hb
  clear hb
  go_wp2
  go_ret
  exact ⟨rfl, B.out⟩


set_option maxRecDepth 100000 in
set_option maxHeartbeats 4000000 in
theorem walk (w : World) (W0 : Int) (p0 f0 : Nat) (t0 : Bool) (z0 : Nat) (hk0 : KindV (kv W0 p0 f0 t0 z0) W0 p0 f0 t0 z0) (v1 : Value) (bs1 : List Nat) (hv1 : BytesV w v1 bs1) (hb1 : AllBytes bs1) :
    Calls Try.prog 3 #[kv W0 p0 f0 t0 z0, v1] w fun e w' => e = .returned (.bool true) ∧ Below w.heap.size w w' := by
  have cO := ofC W0 p0 f0 t0 z0
  have cS := sumAt (W := W0) (t := t0) hk0.p hk0.f hk0.z hv1 hb1
  have cR := rightC (t := t0) hk0.W hk0.p hk0.f hk0.z
  cases hR : kindB W0 p0 f0 z0
  · rw [sumV_no hR, sumE_no hR] at cS
    rw [hR] at cR
    rcases hv1 with ⟨rfl, rfl⟩ | ⟨g, o, cap, rfl, _, _, _, _⟩
    · exact plays_nil_no w W0 p0 f0 t0 z0 awC cO cS cR
    · by_cases hl : (bs1.length : Int) ≤ 300
      · exact plays_row_no w W0 p0 f0 t0 z0 g o bs1.length cap hl awC cO cS cR
      · exact plays_long w W0 p0 f0 t0 z0 g o bs1.length cap (by omega) awC
  · rw [sumE_yes hR] at cS
    rw [hR] at cR
    have cT := rsumAt (t := t0) hk0.p hk0.f hk0.z hv1 hb1 hR
    rcases hv1 with ⟨rfl, rfl⟩ | ⟨g, o, cap, rfl, _, _, _, _⟩
    · exact plays_nil_yes w W0 p0 f0 t0 z0 _ awC cO cS cR cT
    · by_cases hl : (bs1.length : Int) ≤ 300
      · exact plays_row_yes w W0 p0 f0 t0 z0 g o bs1.length cap _ hl awC cO cS cR cT
      · exact plays_long w W0 p0 f0 t0 z0 g o bs1.length cap (by omega) awC

set_option maxRecDepth 100000 in
theorem lifted (os : Os) (started : os.Started) (H : Type) (enc : TypeId × Value → H) :
    ReturnsInHanded {} Try.checked os 3 .any (Rows.crcPlaysSpec.pre6 enc Try.prog Try.f3 Rows.crcPlaysRow.domain false) (Rows.crcPlaysSpec.post enc Try.prog Try.f3 false true false false) := by
  refine returnsInHanded_of_change (C := Try.checked) own started (by kernel_rfl) Try.func3
    (ChangeSpec.witness6 (enc := enc) (C := Try.checked) false ⟨#[], #[.agg #[.int .i64 0, .int .u32 0, .int .u32 0, .bool false, .int .u32 0], .slice none 0 0], []⟩ 8 (by kernel_rfl) (by kernel_rfl) (by kernel_rfl) (by kernel_rfl)) ?_
  intro W base args ds gs before hval0 hW hcnd _
  have hval : ∀ (j : Nat) t v, Try.f3.params[j]? = some t → args[j]? = some v → Value.okWide Try.prog W .any base t v := hval0
  have hW' := hW
  obtain ⟨p, q, hA0, hV, rfl, hfz, hnd⟩ := hW
  have hA : DataW.TrodAll enc Try.prog W 0 (fun _ => true) true Try.f3.params.toList args.toList ds p := hA0
  rw [Try.params3] at hA hval
  obtain ⟨v0, vs0, dd0, ds0, pp0, qq0, hargs, rfl, rfl, hh0, r0⟩ := trodAll_cons hA
  obtain ⟨v1, vs1, dd1, ds1, pp1, qq1, rfl, rfl, rfl, hh1, r1⟩ := trodAll_cons r0
  obtain ⟨rfl, rfl, rfl⟩ := trodAll_nil r1
  obtain rfl : args = #[v0, v1] := by cases args; simp_all
  obtain ⟨rfl, rfl⟩ := trodVars_none hV
  have kk0 := hh0
  have lt0 : ∀ x ∈ pp0, x.block < W.heap.size := by obtain ⟨m, hm⟩ := kk0; exact DataW.trod_lt m _ _ _ hm
  have kk1 := hh1
  have lt1 : ∀ x ∈ pp1, x.block < W.heap.size := by obtain ⟨m, hm⟩ := kk1; exact DataW.trod_lt m _ _ _ hm
  obtain ⟨W0, p0, f0, t0, z0, hk0⟩ := open_kind (hval 0 24 v0 rfl rfl) hh0
  obtain rfl := hk0.v
  obtain ⟨bs1, hv1, hb1⟩ := open_bytes (hval 1 25 v1 rfl rfl) hh1
  clear hA0 hval0
  refine (walk W W0 p0 f0 t0 z0 hk0 v1 bs1 hv1 hb1).mono fun e W' ⟨he, bel⟩ => ?_
  subst he
  exact ⟨_, rfl, _, _, _, [], _, [], hW', trodAll_mk1 (shut_bool Try.underlying4 _), (trodAll_cons_mk (Below.trod laidOut (by kernel_rfl) (of_decide_eq_true (by kernel_rfl)) kk0 bel lt0) (trodAll_cons_mk (Below.trod laidOut (by kernel_rfl) (of_decide_eq_true (by kernel_rfl)) kk1 bel lt1) trodAll_mk0)), rfl, bel.frame _, fun h => by cases h⟩

theorem over : Rows.crcPlaysRow.holds Try.pinned (OpenSpec.ofChange Rows.crcPlaysSpec) :=
  OpenClaim.holds_of_wide 3 Try.f3 rfl rfl rfl rfl rfl rfl rfl ⟨rfl, rfl, rfl, rfl, rfl⟩ rfl rfl rfl rfl rfl (by kernel_rfl) Try.func3 (by kernel_rfl)
    (of_decide_eq_true (by kernel_rfl)) (by unfold Func.isWrapper; first | (rw [if_pos (by decide +kernel)]; kernel_rfl) | (rw [if_neg (by decide +kernel)]; exact ⟨rfl, rfl⟩))
    (fun os started H enc _ => lifted os started H enc)

/-- THE STATEMENT -/
theorem proved : Rows.CrcPlaysSaid :=
  over
#print axioms proved
end Go.Proofs.Ytjbgjiodmhpbbaa.crcPlays
