/-
  What unit's steps return: the closures that times, plus, less and over make, and walk over four of them. Conditions: the numbers are of 64 bits; the closures' own fractions lie where they were laid.
-/
import Derived.Test.YtbojdlagacanoaaRatD
import Derived.Test.YtbojdlagacanoaaUnTab
namespace Go.Proofs.Ytbojdlagacanoaa
open Go.RowKit
set_option linter.unusedVariables false

/-- a closure of times that holds n over d -/
def MulC (w : World) (v : Value) (n d : Int) : Prop := ∃ b, v = .func (.func 33) #[] #[.pointer (some ⟨b, 0, none⟩)] ∧ Has w b (.int .i64 n) (.int .i64 d)
/-- a closure of plus that holds n over d -/
def AddC (w : World) (v : Value) (n d : Int) : Prop := ∃ b, v = .func (.func 35) #[] #[.pointer (some ⟨b, 0, none⟩)] ∧ Has w b (.int .i64 n) (.int .i64 d)
theorem MulC.below {w w' : World} {v : Value} {n d : Int} (h : MulC w v n d) (hb : Below w.heap.size w w') : MulC w' v n d := by
  obtain ⟨b, e, k⟩ := h; exact ⟨b, e, k.below hb⟩
theorem AddC.below {w w' : World} {v : Value} {n d : Int} (h : AddC w v n d) (hb : Below w.heap.size w w') : AddC w' v n d := by
  obtain ⟨b, e, k⟩ := h; exact ⟨b, e, k.below hb⟩

set_option maxHeartbeats 1000000 in
theorem times1_any (an ad n d : Int) (b : Nat) (w : World) (h1 : I64 an) (h2 : I64 ad) (h3 : I64 n) (h4 : I64 d) (hb : Has w b (.int .i64 n) (.int .i64 d)) :
    Calls Try.prog 33 #[rv an ad, .pointer (some ⟨b, 0, none⟩)] w fun e w' => e = .returned (.tuple #[rv (mulN an ad n d) (mulD an ad n d), .int .i64 (mulE an ad n d)]) ∧ Below w.heap.size w w' := by
  have f : Hid (∀ w, Calls Try.prog 34 #[rv an ad, rv n d] w fun e w' => e = .returned (.tuple #[rv (mulN an ad n d) (mulD an ad n d), .int .i64 (mulE an ad n d)]) ∧ Below w.heap.size w w') := fun w => fmul_any an ad n d w h1 h2 h3 h4
  have G0 : Hid (Below w.heap.size w ((w.alloc (.cells #[.int .i64 an, .int .i64 ad] 25)).alloc (.cells #[.int .i64 0, .int .i64 0] 25))) := by unfold Hid; go_grown
  have H3 : Hid (Has ((w.alloc (.cells #[.int .i64 an, .int .i64 ad] 25)).alloc (.cells #[.int .i64 0, .int .i64 0] 25)) (w.heap.size + 1) (.int .i64 0) (.int .i64 0)) := has_at _ _ _ (by simp)
  have HB := (hb.alloc (.cells #[.int .i64 an, .int .i64 ad] 25)).alloc (.cells #[.int .i64 0, .int .i64 0] 25)
  obtain ⟨c0, c1, f0, f1, hl⟩ := HB
  clear h1 h2 h3 h4 hb
  generalize mulN an ad n d = N at *
  generalize mulD an ad n d = D at *
  generalize mulE an ad n d = E at *
  go_enter Try.func33, Try.ntmps33
  go_wp2_with fail
  refine (f.out _).mono ?_
  rintro e w1 ⟨rfl, hb1⟩
  have K : Hid (Below w.heap.size w w1) := below_trans G0.out hb1
  have K3 : Hid (Has w1 (w.heap.size + 1) (.int .i64 0) (.int .i64 0)) := H3.out.below hb1
  obtain ⟨e0, e1, g0, g1, gl⟩ := K3.out
  have hq := fun x y => wrote2 (w := w1) (b := w.heap.size + 1) (x := x) (y := y) e0 e1
  clear f G0 H3 c0 c1 f0 f1 hl hb1
  go_wp2
  refine bodyPost_ret (res_pair Try.results33 rfl rfl (hq _ _).1 (hq _ _).2) rfl ?_
  exact ⟨rfl, below_set2 K.out (by simp) (by simp)⟩

set_option maxHeartbeats 1000000 in
theorem plus1_any (an ad n d : Int) (b : Nat) (w : World) (h1 : I64 an) (h2 : I64 ad) (h3 : I64 n) (h4 : I64 d) (hb : Has w b (.int .i64 n) (.int .i64 d)) :
    Calls Try.prog 35 #[rv an ad, .pointer (some ⟨b, 0, none⟩)] w fun e w' => e = .returned (.tuple #[rv (addN an ad n d) (addD an ad n d), .int .i64 (addE an ad n d)]) ∧ Below w.heap.size w w' := by
  have f : Hid (∀ w, Calls Try.prog 36 #[rv an ad, rv n d] w fun e w' => e = .returned (.tuple #[rv (addN an ad n d) (addD an ad n d), .int .i64 (addE an ad n d)]) ∧ Below w.heap.size w w') := fun w => fadd_any an ad n d w h1 h2 h3 h4
  have G0 : Hid (Below w.heap.size w ((w.alloc (.cells #[.int .i64 an, .int .i64 ad] 25)).alloc (.cells #[.int .i64 0, .int .i64 0] 25))) := by unfold Hid; go_grown
  have H3 : Hid (Has ((w.alloc (.cells #[.int .i64 an, .int .i64 ad] 25)).alloc (.cells #[.int .i64 0, .int .i64 0] 25)) (w.heap.size + 1) (.int .i64 0) (.int .i64 0)) := has_at _ _ _ (by simp)
  have HB := (hb.alloc (.cells #[.int .i64 an, .int .i64 ad] 25)).alloc (.cells #[.int .i64 0, .int .i64 0] 25)
  obtain ⟨c0, c1, f0, f1, hl⟩ := HB
  clear h1 h2 h3 h4 hb
  generalize addN an ad n d = N at *
  generalize addD an ad n d = D at *
  generalize addE an ad n d = E at *
  go_enter Try.func35, Try.ntmps35
  go_wp2_with fail
  refine (f.out _).mono ?_
  rintro e w1 ⟨rfl, hb1⟩
  have K : Hid (Below w.heap.size w w1) := below_trans G0.out hb1
  have K3 : Hid (Has w1 (w.heap.size + 1) (.int .i64 0) (.int .i64 0)) := H3.out.below hb1
  obtain ⟨e0, e1, g0, g1, gl⟩ := K3.out
  have hq := fun x y => wrote2 (w := w1) (b := w.heap.size + 1) (x := x) (y := y) e0 e1
  clear f G0 H3 c0 c1 f0 f1 hl hb1
  go_wp2
  refine bodyPost_ret (res_pair Try.results35 rfl rfl (hq _ _).1 (hq _ _).2) rfl ?_
  exact ⟨rfl, below_set2 K.out (by simp) (by simp)⟩

set_option maxHeartbeats 1000000 in
theorem times_any (n d : Int) (w : World) : Calls Try.prog 22 #[rv n d] w fun e w' => ∃ v, e = .returned v ∧ MulC w' v n d ∧ Below w.heap.size w w' := by
  have hmf : ∀ (fn : Fn) (first cap : Array Value) (w : World), (Instr.makeFunc fn first cap).run Try.prog w = .ok (.func fn first cap) w := fun _ _ _ _ => rfl
  go_enter Try.func22, Try.ntmps22
  go_wp2
  go_ret
  exact ⟨_, rfl, ⟨_, rfl, has_new w _ _ _⟩, by go_grown⟩
set_option maxHeartbeats 1000000 in
theorem plus_any (n d : Int) (w : World) : Calls Try.prog 23 #[rv n d] w fun e w' => ∃ v, e = .returned v ∧ AddC w' v n d ∧ Below w.heap.size w w' := by
  have hmf : ∀ (fn : Fn) (first cap : Array Value) (w : World), (Instr.makeFunc fn first cap).run Try.prog w = .ok (.func fn first cap) w := fun _ _ _ _ => rfl
  go_enter Try.func23, Try.ntmps23
  go_wp2
  go_ret
  exact ⟨_, rfl, ⟨_, rfl, has_new w _ _ _⟩, by go_grown⟩
set_option maxHeartbeats 1000000 in
theorem less1_any (n d : Int) (w : World) (hn : -9223372036854775807 ≤ n ∧ n ≤ 9223372036854775807) : Calls Try.prog 24 #[rv n d] w fun e w' => ∃ v, e = .returned v ∧ AddC w' v (-n) d ∧ Below w.heap.size w w' := by
  have f : Hid (∀ w, Calls Try.prog 23 #[rv (-n) d] w fun e w' => ∃ v, e = .returned v ∧ AddC w' v (-n) d ∧ Below w.heap.size w w') := fun w => plus_any _ _ w
  have hneg : wrap64 (-n) = -n := Go.IntWalk.wrap64_in _ ⟨by omega, by omega⟩
  have G0 : Hid (Below w.heap.size w (w.alloc (.cells #[.int .i64 n, .int .i64 d] 25))) := by unfold Hid; go_grown
  go_enter Try.func24, Try.ntmps24
  go_wp2_with fail
  refine (f.out _).mono ?_
  rintro e w1 ⟨v, rfl, hv, hb1⟩
  have K : Hid (AddC w1 v (-n) d ∧ Below w.heap.size w w1) := ⟨hv, below_trans G0.out hb1⟩
  clear f hv hb1 G0
  go_wp2
  go_ret
  exact ⟨_, rfl, K.out.1, K.out.2⟩
set_option maxHeartbeats 1000000 in
theorem over_any (n d : Int) (w : World) : Calls Try.prog 25 #[rv n d] w fun e w' => ∃ v, e = .returned v ∧ MulC w' v d n ∧ Below w.heap.size w w' := by
  have f : Hid (∀ w, Calls Try.prog 22 #[rv d n] w fun e w' => ∃ v, e = .returned v ∧ MulC w' v d n ∧ Below w.heap.size w w') := fun w => times_any _ _ w
  have G0 : Hid (Below w.heap.size w (w.alloc (.cells #[.int .i64 n, .int .i64 d] 25))) := by unfold Hid; go_grown
  go_enter Try.func25, Try.ntmps25
  go_wp2_with fail
  refine (f.out _).mono ?_
  rintro e w1 ⟨v, rfl, hv, hb1⟩
  have K : Hid (MulC w1 v d n ∧ Below w.heap.size w w1) := ⟨hv, below_trans G0.out hb1⟩
  clear f hv hb1 G0
  go_wp2
  go_ret
  exact ⟨_, rfl, K.out.1, K.out.2⟩
end Go.Proofs.Ytbojdlagacanoaa
