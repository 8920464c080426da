/-
  The ways through the law on names (layer 4). Conditions: as each says.
-/
import Derived.Lib.QuietBelow
import Derived.BigQuiet
import Derived.Test.YtjbgjiodmhpbbaaCrcKit
namespace Go.Proofs.Ytjbgjiodmhpbbaa
open Go.RowKit
set_option linter.unusedVariables false

def KBi (x : World) (g : Nat) (ty : TypeId) (c : Array Value) : Prop := x.heap[g]? = some (.cells c ty (0, 0))
theorem KBi.lt {x : World} {g : Nat} {ty : TypeId} {c : Array Value} (h : KBi x g ty c) : g < x.heap.size := (Array.getElem?_eq_some_iff.1 h).1
theorem KBi.below {x y : World} {g : Nat} {ty : TypeId} {c : Array Value} (h : KBi x g ty c) (hb : Below x.heap.size x y) : KBi y g ty c := (hb.block g h.lt).trans h
theorem KBi.cell {x : World} {g : Nat} {ty : TypeId} {c : Array Value} (h : KBi x g ty c) {i : Nat} {v : Value} (hv : c[i]? = some v) : x.cell? ⟨g, i, none⟩ = some v := by
  simp [World.cell?, show x.heap[g]? = _ from h, hv]
theorem KBi.two (w : World) (t u : TypeId) (c d : Array Value) : KBi ((w.alloc (.cells c t)).alloc (.cells d u)) w.heap.size t c ∧ KBi ((w.alloc (.cells c t)).alloc (.cells d u)) (w.heap.size + 1) u d := by
  have h1 : KBi (w.alloc (.cells c t)) w.heap.size t c := World.alloc_heap_new w _
  have h2 : KBi ((w.alloc (.cells c t)).alloc (.cells d u)) (w.alloc (.cells c t)).heap.size u d := World.alloc_heap_new _ _
  rw [World.size_alloc] at h2
  exact ⟨h1.below ((Below.refl _ _).alloc (Nat.le_refl _) _), h2⟩
def SumAtI (w : World) (K : Value) (v : Value) (V : Nat) (E : Int) : Prop :=
  ∀ x, Below w.heap.size w x → Calls Try.prog 9 #[K, v] x fun e w' => e = .returned (.tuple #[.int .u32 (V : Int), .int .i64 E]) ∧ Below x.heap.size x w'
def RSumAtI (w : World) (K : Value) (v : Value) (V : Nat) : Prop :=
  ∀ x, Below w.heap.size w x → Calls Try.prog 12 #[K, v] x fun e w' => e = .returned (.int .u32 (V : Int)) ∧ Below x.heap.size x w'

set_option maxRecDepth 100000 in
set_option maxHeartbeats 4000000 in
theorem names_n8_nil (w : World) (V : Nat) (aw : AwC) (cS : SumAtI w (.agg #[.int .i64 8, .int .u32 7, .int .u32 0, .bool false, .int .u32 0]) (.slice none 0 0) V 0) (cT : RSumAtI w (.agg #[.int .i64 8, .int .u32 7, .int .u32 0, .bool false, .int .u32 0]) (.slice none 0 0) V) :
    Calls Try.prog 4 #[.string n8, .slice none 0 0] w fun e w' => e = .returned (.bool true) ∧ Below w.heap.size w w' := by
  go_enter Try.func4, Try.ntmps4
  go_wp2_with fail
  refine (aw _).mono ?_
  rintro e w1 ⟨rfl, hb⟩
  have B : Hid (Below w.heap.size w w1) := hb
  clear hb
  go_wp2_with fail
  refine (named_n8 _).mono ?_
  rintro e w2 ⟨rfl, hb⟩
  replace B : Hid (Below w.heap.size w w2) := belowT B.out hb
  have B3 : Hid (Below w.heap.size w ((w2.alloc (.cells #[.int .i64 8, .int .u32 7, .int .u32 0, .bool false, .int .u32 0] 30)).alloc (.cells #[.int .i64 8, .int .u32 7, .int .u32 0, .bool false, .int .u32 0] 24))) := (B.out.alloc B.out.size _).alloc (by have := B.out.size; simp; omega) _
  clear hb
  go_wp2_with fail
  refine (cS _ B3.out).mono ?_
  rintro e w4 ⟨rfl, hb⟩
  have KA : Hid (KBi w4 w2.heap.size 30 #[.int .i64 8, .int .u32 7, .int .u32 0, .bool false, .int .u32 0]) := (KBi.two w2 _ _ _ _).1.below hb
  have KB : Hid (KBi w4 (w2.heap.size + 1) 24 #[.int .i64 8, .int .u32 7, .int .u32 0, .bool false, .int .u32 0]) := (KBi.two w2 _ _ _ _).2.below hb
  replace B : Hid (Below w.heap.size w w4) := belowT B3.out hb
  clear hb B3
  go_wp2_with fail
  have a0 := cell_regrown (KBi.cell KA.out (i := 0) rfl)
  have b0 := cell_regrown (KBi.cell KB.out (i := 0) rfl)
  have a1 := cell_regrown (KBi.cell KA.out (i := 1) rfl)
  have b1 := cell_regrown (KBi.cell KB.out (i := 1) rfl)
  have a2 := cell_regrown (KBi.cell KA.out (i := 2) rfl)
  have b2 := cell_regrown (KBi.cell KB.out (i := 2) rfl)
  have a3 := cell_regrown (KBi.cell KA.out (i := 3) rfl)
  have b3 := cell_regrown (KBi.cell KB.out (i := 3) rfl)
  have a4 := cell_regrown (KBi.cell KA.out (i := 4) rfl)
  have b4 := cell_regrown (KBi.cell KB.out (i := 4) rfl)
  have cO2 : Hid (∀ d os, Calls Try.prog 10 #[.agg #[.int .i64 8, .int .u32 7, .int .u32 0, .bool false, .int .u32 0]] (Sort.grow (redrawn w4 d) os) fun e w' => e = .returned (.agg #[.int .i64 8, .int .u32 7, .int .u32 0, .bool false, .int .u32 0]) ∧ Below (Sort.grow (redrawn w4 d) os).heap.size (Sort.grow (redrawn w4 d) os) w') := fun d os => of_any 8 7 0 false 0 _
  have cT2 : Hid (∀ d os, Calls Try.prog 12 #[.agg #[.int .i64 8, .int .u32 7, .int .u32 0, .bool false, .int .u32 0], .slice none 0 0] (Sort.grow (redrawn w4 d) os) fun e w' => e = .returned (.int .u32 (V : Int)) ∧ Below (Sort.grow (redrawn w4 d) os).heap.size (Sort.grow (redrawn w4 d) os) w') := fun d os => cT _ (belowT B.out (below_regrown w4 d os))
  refine wp_region_quiet_below (by kernel_rfl) (by kernel_rfl) ?_
  repeat (go_big_quiet_step (first
    | (go_at_call 10; with_reducible exact Calls.regrown_of (cO2.out _ _))
    | (go_at_call 12; with_reducible exact Calls.regrown_of (cT2.out _ _))))
  refine wpQuiet_nil ?_
  intro _ hw'
  obtain ⟨⟨dq, osq⟩, hw''⟩ := hw'
  subst hw''
  replace B : Hid (Below w.heap.size w (Sort.grow (redrawn w4 dq) osq)) := belowT B.out (below_regrown w4 dq osq)
  go_wp2
  go_ret
  exact ⟨rfl, B.out⟩

set_option maxRecDepth 100000 in
set_option maxHeartbeats 4000000 in
theorem names_n8_row (w : World) (g o L cap : Nat) (V : Nat) (hl : (L : Int) ≤ 300) (aw : AwC) (cS : SumAtI w (.agg #[.int .i64 8, .int .u32 7, .int .u32 0, .bool false, .int .u32 0]) (.slice (some ⟨g, o, none⟩) L cap) V 0) (cT : RSumAtI w (.agg #[.int .i64 8, .int .u32 7, .int .u32 0, .bool false, .int .u32 0]) (.slice (some ⟨g, o, none⟩) L cap) V) :
    Calls Try.prog 4 #[.string n8, .slice (some ⟨g, o, none⟩) L cap] w fun e w' => e = .returned (.bool true) ∧ Below w.heap.size w w' := by
  go_enter Try.func4, Try.ntmps4
  go_wp2_with fail
  refine (aw _).mono ?_
  rintro e w1 ⟨rfl, hb⟩
  have B : Hid (Below w.heap.size w w1) := hb
  clear hb
  go_wp2_with fail
  refine (named_n8 _).mono ?_
  rintro e w2 ⟨rfl, hb⟩
  replace B : Hid (Below w.heap.size w w2) := belowT B.out hb
  have B3 : Hid (Below w.heap.size w ((w2.alloc (.cells #[.int .i64 8, .int .u32 7, .int .u32 0, .bool false, .int .u32 0] 30)).alloc (.cells #[.int .i64 8, .int .u32 7, .int .u32 0, .bool false, .int .u32 0] 24))) := (B.out.alloc B.out.size _).alloc (by have := B.out.size; simp; omega) _
  clear hb
  go_wp2_with fail
  refine (cS _ B3.out).mono ?_
  rintro e w4 ⟨rfl, hb⟩
  have KA : Hid (KBi w4 w2.heap.size 30 #[.int .i64 8, .int .u32 7, .int .u32 0, .bool false, .int .u32 0]) := (KBi.two w2 _ _ _ _).1.below hb
  have KB : Hid (KBi w4 (w2.heap.size + 1) 24 #[.int .i64 8, .int .u32 7, .int .u32 0, .bool false, .int .u32 0]) := (KBi.two w2 _ _ _ _).2.below hb
  replace B : Hid (Below w.heap.size w w4) := belowT B3.out hb
  clear hb B3
  go_wp2_with fail
  have a0 := cell_regrown (KBi.cell KA.out (i := 0) rfl)
  have b0 := cell_regrown (KBi.cell KB.out (i := 0) rfl)
  have a1 := cell_regrown (KBi.cell KA.out (i := 1) rfl)
  have b1 := cell_regrown (KBi.cell KB.out (i := 1) rfl)
  have a2 := cell_regrown (KBi.cell KA.out (i := 2) rfl)
  have b2 := cell_regrown (KBi.cell KB.out (i := 2) rfl)
  have a3 := cell_regrown (KBi.cell KA.out (i := 3) rfl)
  have b3 := cell_regrown (KBi.cell KB.out (i := 3) rfl)
  have a4 := cell_regrown (KBi.cell KA.out (i := 4) rfl)
  have b4 := cell_regrown (KBi.cell KB.out (i := 4) rfl)
  have cO2 : Hid (∀ d os, Calls Try.prog 10 #[.agg #[.int .i64 8, .int .u32 7, .int .u32 0, .bool false, .int .u32 0]] (Sort.grow (redrawn w4 d) os) fun e w' => e = .returned (.agg #[.int .i64 8, .int .u32 7, .int .u32 0, .bool false, .int .u32 0]) ∧ Below (Sort.grow (redrawn w4 d) os).heap.size (Sort.grow (redrawn w4 d) os) w') := fun d os => of_any 8 7 0 false 0 _
  have cT2 : Hid (∀ d os, Calls Try.prog 12 #[.agg #[.int .i64 8, .int .u32 7, .int .u32 0, .bool false, .int .u32 0], .slice (some ⟨g, o, none⟩) L cap] (Sort.grow (redrawn w4 d) os) fun e w' => e = .returned (.int .u32 (V : Int)) ∧ Below (Sort.grow (redrawn w4 d) os).heap.size (Sort.grow (redrawn w4 d) os) w') := fun d os => cT _ (belowT B.out (below_regrown w4 d os))
  refine wp_region_quiet_below (by kernel_rfl) (by kernel_rfl) ?_
  repeat (go_big_quiet_step (first
    | (go_at_call 10; with_reducible exact Calls.regrown_of (cO2.out _ _))
    | (go_at_call 12; with_reducible exact Calls.regrown_of (cT2.out _ _))))
  refine wpQuiet_nil ?_
  intro _ hw'
  obtain ⟨⟨dq, osq⟩, hw''⟩ := hw'
  subst hw''
  replace B : Hid (Below w.heap.size w (Sort.grow (redrawn w4 dq) osq)) := belowT B.out (below_regrown w4 dq osq)
  go_wp2
  go_ret
  exact ⟨rfl, B.out⟩

set_option maxRecDepth 100000 in
set_option maxHeartbeats 4000000 in
theorem names_n16_nil (w : World) (V : Nat) (aw : AwC) (cS : SumAtI w (.agg #[.int .i64 16, .int .u32 32773, .int .u32 0, .bool true, .int .u32 0]) (.slice none 0 0) V 0) (cT : RSumAtI w (.agg #[.int .i64 16, .int .u32 32773, .int .u32 0, .bool true, .int .u32 0]) (.slice none 0 0) V) :
    Calls Try.prog 4 #[.string n16, .slice none 0 0] w fun e w' => e = .returned (.bool true) ∧ Below w.heap.size w w' := by
  go_enter Try.func4, Try.ntmps4
  go_wp2_with fail
  refine (aw _).mono ?_
  rintro e w1 ⟨rfl, hb⟩
  have B : Hid (Below w.heap.size w w1) := hb
  clear hb
  go_wp2_with fail
  refine (named_n16 _).mono ?_
  rintro e w2 ⟨rfl, hb⟩
  replace B : Hid (Below w.heap.size w w2) := belowT B.out hb
  have B3 : Hid (Below w.heap.size w ((w2.alloc (.cells #[.int .i64 16, .int .u32 32773, .int .u32 0, .bool true, .int .u32 0] 30)).alloc (.cells #[.int .i64 16, .int .u32 32773, .int .u32 0, .bool true, .int .u32 0] 24))) := (B.out.alloc B.out.size _).alloc (by have := B.out.size; simp; omega) _
  clear hb
  go_wp2_with fail
  refine (cS _ B3.out).mono ?_
  rintro e w4 ⟨rfl, hb⟩
  have KA : Hid (KBi w4 w2.heap.size 30 #[.int .i64 16, .int .u32 32773, .int .u32 0, .bool true, .int .u32 0]) := (KBi.two w2 _ _ _ _).1.below hb
  have KB : Hid (KBi w4 (w2.heap.size + 1) 24 #[.int .i64 16, .int .u32 32773, .int .u32 0, .bool true, .int .u32 0]) := (KBi.two w2 _ _ _ _).2.below hb
  replace B : Hid (Below w.heap.size w w4) := belowT B3.out hb
  clear hb B3
  go_wp2_with fail
  have a0 := cell_regrown (KBi.cell KA.out (i := 0) rfl)
  have b0 := cell_regrown (KBi.cell KB.out (i := 0) rfl)
  have a1 := cell_regrown (KBi.cell KA.out (i := 1) rfl)
  have b1 := cell_regrown (KBi.cell KB.out (i := 1) rfl)
  have a2 := cell_regrown (KBi.cell KA.out (i := 2) rfl)
  have b2 := cell_regrown (KBi.cell KB.out (i := 2) rfl)
  have a3 := cell_regrown (KBi.cell KA.out (i := 3) rfl)
  have b3 := cell_regrown (KBi.cell KB.out (i := 3) rfl)
  have a4 := cell_regrown (KBi.cell KA.out (i := 4) rfl)
  have b4 := cell_regrown (KBi.cell KB.out (i := 4) rfl)
  have cO2 : Hid (∀ d os, Calls Try.prog 10 #[.agg #[.int .i64 16, .int .u32 32773, .int .u32 0, .bool true, .int .u32 0]] (Sort.grow (redrawn w4 d) os) fun e w' => e = .returned (.agg #[.int .i64 16, .int .u32 32773, .int .u32 0, .bool true, .int .u32 0]) ∧ Below (Sort.grow (redrawn w4 d) os).heap.size (Sort.grow (redrawn w4 d) os) w') := fun d os => of_any 16 32773 0 true 0 _
  have cT2 : Hid (∀ d os, Calls Try.prog 12 #[.agg #[.int .i64 16, .int .u32 32773, .int .u32 0, .bool true, .int .u32 0], .slice none 0 0] (Sort.grow (redrawn w4 d) os) fun e w' => e = .returned (.int .u32 (V : Int)) ∧ Below (Sort.grow (redrawn w4 d) os).heap.size (Sort.grow (redrawn w4 d) os) w') := fun d os => cT _ (belowT B.out (below_regrown w4 d os))
  refine wp_region_quiet_below (by kernel_rfl) (by kernel_rfl) ?_
  repeat (go_big_quiet_step (first
    | (go_at_call 10; with_reducible exact Calls.regrown_of (cO2.out _ _))
    | (go_at_call 12; with_reducible exact Calls.regrown_of (cT2.out _ _))))
  refine wpQuiet_nil ?_
  intro _ hw'
  obtain ⟨⟨dq, osq⟩, hw''⟩ := hw'
  subst hw''
  replace B : Hid (Below w.heap.size w (Sort.grow (redrawn w4 dq) osq)) := belowT B.out (below_regrown w4 dq osq)
  go_wp2
  go_ret
  exact ⟨rfl, B.out⟩

set_option maxRecDepth 100000 in
set_option maxHeartbeats 4000000 in
theorem names_n16_row (w : World) (g o L cap : Nat) (V : Nat) (hl : (L : Int) ≤ 300) (aw : AwC) (cS : SumAtI w (.agg #[.int .i64 16, .int .u32 32773, .int .u32 0, .bool true, .int .u32 0]) (.slice (some ⟨g, o, none⟩) L cap) V 0) (cT : RSumAtI w (.agg #[.int .i64 16, .int .u32 32773, .int .u32 0, .bool true, .int .u32 0]) (.slice (some ⟨g, o, none⟩) L cap) V) :
    Calls Try.prog 4 #[.string n16, .slice (some ⟨g, o, none⟩) L cap] w fun e w' => e = .returned (.bool true) ∧ Below w.heap.size w w' := by
  go_enter Try.func4, Try.ntmps4
  go_wp2_with fail
  refine (aw _).mono ?_
  rintro e w1 ⟨rfl, hb⟩
  have B : Hid (Below w.heap.size w w1) := hb
  clear hb
  go_wp2_with fail
  refine (named_n16 _).mono ?_
  rintro e w2 ⟨rfl, hb⟩
  replace B : Hid (Below w.heap.size w w2) := belowT B.out hb
  have B3 : Hid (Below w.heap.size w ((w2.alloc (.cells #[.int .i64 16, .int .u32 32773, .int .u32 0, .bool true, .int .u32 0] 30)).alloc (.cells #[.int .i64 16, .int .u32 32773, .int .u32 0, .bool true, .int .u32 0] 24))) := (B.out.alloc B.out.size _).alloc (by have := B.out.size; simp; omega) _
  clear hb
  go_wp2_with fail
  refine (cS _ B3.out).mono ?_
  rintro e w4 ⟨rfl, hb⟩
  have KA : Hid (KBi w4 w2.heap.size 30 #[.int .i64 16, .int .u32 32773, .int .u32 0, .bool true, .int .u32 0]) := (KBi.two w2 _ _ _ _).1.below hb
  have KB : Hid (KBi w4 (w2.heap.size + 1) 24 #[.int .i64 16, .int .u32 32773, .int .u32 0, .bool true, .int .u32 0]) := (KBi.two w2 _ _ _ _).2.below hb
  replace B : Hid (Below w.heap.size w w4) := belowT B3.out hb
  clear hb B3
  go_wp2_with fail
  have a0 := cell_regrown (KBi.cell KA.out (i := 0) rfl)
  have b0 := cell_regrown (KBi.cell KB.out (i := 0) rfl)
  have a1 := cell_regrown (KBi.cell KA.out (i := 1) rfl)
  have b1 := cell_regrown (KBi.cell KB.out (i := 1) rfl)
  have a2 := cell_regrown (KBi.cell KA.out (i := 2) rfl)
  have b2 := cell_regrown (KBi.cell KB.out (i := 2) rfl)
  have a3 := cell_regrown (KBi.cell KA.out (i := 3) rfl)
  have b3 := cell_regrown (KBi.cell KB.out (i := 3) rfl)
  have a4 := cell_regrown (KBi.cell KA.out (i := 4) rfl)
  have b4 := cell_regrown (KBi.cell KB.out (i := 4) rfl)
  have cO2 : Hid (∀ d os, Calls Try.prog 10 #[.agg #[.int .i64 16, .int .u32 32773, .int .u32 0, .bool true, .int .u32 0]] (Sort.grow (redrawn w4 d) os) fun e w' => e = .returned (.agg #[.int .i64 16, .int .u32 32773, .int .u32 0, .bool true, .int .u32 0]) ∧ Below (Sort.grow (redrawn w4 d) os).heap.size (Sort.grow (redrawn w4 d) os) w') := fun d os => of_any 16 32773 0 true 0 _
  have cT2 : Hid (∀ d os, Calls Try.prog 12 #[.agg #[.int .i64 16, .int .u32 32773, .int .u32 0, .bool true, .int .u32 0], .slice (some ⟨g, o, none⟩) L cap] (Sort.grow (redrawn w4 d) os) fun e w' => e = .returned (.int .u32 (V : Int)) ∧ Below (Sort.grow (redrawn w4 d) os).heap.size (Sort.grow (redrawn w4 d) os) w') := fun d os => cT _ (belowT B.out (below_regrown w4 d os))
  refine wp_region_quiet_below (by kernel_rfl) (by kernel_rfl) ?_
  repeat (go_big_quiet_step (first
    | (go_at_call 10; with_reducible exact Calls.regrown_of (cO2.out _ _))
    | (go_at_call 12; with_reducible exact Calls.regrown_of (cT2.out _ _))))
  refine wpQuiet_nil ?_
  intro _ hw'
  obtain ⟨⟨dq, osq⟩, hw''⟩ := hw'
  subst hw''
  replace B : Hid (Below w.heap.size w (Sort.grow (redrawn w4 dq) osq)) := belowT B.out (below_regrown w4 dq osq)
  go_wp2
  go_ret
  exact ⟨rfl, B.out⟩

set_option maxRecDepth 100000 in
set_option maxHeartbeats 4000000 in
theorem names_nC_nil (w : World) (V : Nat) (aw : AwC) (cS : SumAtI w (.agg #[.int .i64 16, .int .u32 4129, .int .u32 65535, .bool false, .int .u32 0]) (.slice none 0 0) V 0) (cT : RSumAtI w (.agg #[.int .i64 16, .int .u32 4129, .int .u32 65535, .bool false, .int .u32 0]) (.slice none 0 0) V) :
    Calls Try.prog 4 #[.string nC, .slice none 0 0] w fun e w' => e = .returned (.bool true) ∧ Below w.heap.size w w' := by
  go_enter Try.func4, Try.ntmps4
  go_wp2_with fail
  refine (aw _).mono ?_
  rintro e w1 ⟨rfl, hb⟩
  have B : Hid (Below w.heap.size w w1) := hb
  clear hb
  go_wp2_with fail
  refine (named_nC _).mono ?_
  rintro e w2 ⟨rfl, hb⟩
  replace B : Hid (Below w.heap.size w w2) := belowT B.out hb
  have B3 : Hid (Below w.heap.size w ((w2.alloc (.cells #[.int .i64 16, .int .u32 4129, .int .u32 65535, .bool false, .int .u32 0] 30)).alloc (.cells #[.int .i64 16, .int .u32 4129, .int .u32 65535, .bool false, .int .u32 0] 24))) := (B.out.alloc B.out.size _).alloc (by have := B.out.size; simp; omega) _
  clear hb
  go_wp2_with fail
  refine (cS _ B3.out).mono ?_
  rintro e w4 ⟨rfl, hb⟩
  have KA : Hid (KBi w4 w2.heap.size 30 #[.int .i64 16, .int .u32 4129, .int .u32 65535, .bool false, .int .u32 0]) := (KBi.two w2 _ _ _ _).1.below hb
  have KB : Hid (KBi w4 (w2.heap.size + 1) 24 #[.int .i64 16, .int .u32 4129, .int .u32 65535, .bool false, .int .u32 0]) := (KBi.two w2 _ _ _ _).2.below hb
  replace B : Hid (Below w.heap.size w w4) := belowT B3.out hb
  clear hb B3
  go_wp2_with fail
  have a0 := cell_regrown (KBi.cell KA.out (i := 0) rfl)
  have b0 := cell_regrown (KBi.cell KB.out (i := 0) rfl)
  have a1 := cell_regrown (KBi.cell KA.out (i := 1) rfl)
  have b1 := cell_regrown (KBi.cell KB.out (i := 1) rfl)
  have a2 := cell_regrown (KBi.cell KA.out (i := 2) rfl)
  have b2 := cell_regrown (KBi.cell KB.out (i := 2) rfl)
  have a3 := cell_regrown (KBi.cell KA.out (i := 3) rfl)
  have b3 := cell_regrown (KBi.cell KB.out (i := 3) rfl)
  have a4 := cell_regrown (KBi.cell KA.out (i := 4) rfl)
  have b4 := cell_regrown (KBi.cell KB.out (i := 4) rfl)
  have cO2 : Hid (∀ d os, Calls Try.prog 10 #[.agg #[.int .i64 16, .int .u32 4129, .int .u32 65535, .bool false, .int .u32 0]] (Sort.grow (redrawn w4 d) os) fun e w' => e = .returned (.agg #[.int .i64 16, .int .u32 4129, .int .u32 65535, .bool false, .int .u32 0]) ∧ Below (Sort.grow (redrawn w4 d) os).heap.size (Sort.grow (redrawn w4 d) os) w') := fun d os => of_any 16 4129 65535 false 0 _
  have cT2 : Hid (∀ d os, Calls Try.prog 12 #[.agg #[.int .i64 16, .int .u32 4129, .int .u32 65535, .bool false, .int .u32 0], .slice none 0 0] (Sort.grow (redrawn w4 d) os) fun e w' => e = .returned (.int .u32 (V : Int)) ∧ Below (Sort.grow (redrawn w4 d) os).heap.size (Sort.grow (redrawn w4 d) os) w') := fun d os => cT _ (belowT B.out (below_regrown w4 d os))
  refine wp_region_quiet_below (by kernel_rfl) (by kernel_rfl) ?_
  repeat (go_big_quiet_step (first
    | (go_at_call 10; with_reducible exact Calls.regrown_of (cO2.out _ _))
    | (go_at_call 12; with_reducible exact Calls.regrown_of (cT2.out _ _))))
  refine wpQuiet_nil ?_
  intro _ hw'
  obtain ⟨⟨dq, osq⟩, hw''⟩ := hw'
  subst hw''
  replace B : Hid (Below w.heap.size w (Sort.grow (redrawn w4 dq) osq)) := belowT B.out (below_regrown w4 dq osq)
  go_wp2
  go_ret
  exact ⟨rfl, B.out⟩

set_option maxRecDepth 100000 in
set_option maxHeartbeats 4000000 in
theorem names_nC_row (w : World) (g o L cap : Nat) (V : Nat) (hl : (L : Int) ≤ 300) (aw : AwC) (cS : SumAtI w (.agg #[.int .i64 16, .int .u32 4129, .int .u32 65535, .bool false, .int .u32 0]) (.slice (some ⟨g, o, none⟩) L cap) V 0) (cT : RSumAtI w (.agg #[.int .i64 16, .int .u32 4129, .int .u32 65535, .bool false, .int .u32 0]) (.slice (some ⟨g, o, none⟩) L cap) V) :
    Calls Try.prog 4 #[.string nC, .slice (some ⟨g, o, none⟩) L cap] w fun e w' => e = .returned (.bool true) ∧ Below w.heap.size w w' := by
  go_enter Try.func4, Try.ntmps4
  go_wp2_with fail
  refine (aw _).mono ?_
  rintro e w1 ⟨rfl, hb⟩
  have B : Hid (Below w.heap.size w w1) := hb
  clear hb
  go_wp2_with fail
  refine (named_nC _).mono ?_
  rintro e w2 ⟨rfl, hb⟩
  replace B : Hid (Below w.heap.size w w2) := belowT B.out hb
  have B3 : Hid (Below w.heap.size w ((w2.alloc (.cells #[.int .i64 16, .int .u32 4129, .int .u32 65535, .bool false, .int .u32 0] 30)).alloc (.cells #[.int .i64 16, .int .u32 4129, .int .u32 65535, .bool false, .int .u32 0] 24))) := (B.out.alloc B.out.size _).alloc (by have := B.out.size; simp; omega) _
  clear hb
  go_wp2_with fail
  refine (cS _ B3.out).mono ?_
  rintro e w4 ⟨rfl, hb⟩
  have KA : Hid (KBi w4 w2.heap.size 30 #[.int .i64 16, .int .u32 4129, .int .u32 65535, .bool false, .int .u32 0]) := (KBi.two w2 _ _ _ _).1.below hb
  have KB : Hid (KBi w4 (w2.heap.size + 1) 24 #[.int .i64 16, .int .u32 4129, .int .u32 65535, .bool false, .int .u32 0]) := (KBi.two w2 _ _ _ _).2.below hb
  replace B : Hid (Below w.heap.size w w4) := belowT B3.out hb
  clear hb B3
  go_wp2_with fail
  have a0 := cell_regrown (KBi.cell KA.out (i := 0) rfl)
  have b0 := cell_regrown (KBi.cell KB.out (i := 0) rfl)
  have a1 := cell_regrown (KBi.cell KA.out (i := 1) rfl)
  have b1 := cell_regrown (KBi.cell KB.out (i := 1) rfl)
  have a2 := cell_regrown (KBi.cell KA.out (i := 2) rfl)
  have b2 := cell_regrown (KBi.cell KB.out (i := 2) rfl)
  have a3 := cell_regrown (KBi.cell KA.out (i := 3) rfl)
  have b3 := cell_regrown (KBi.cell KB.out (i := 3) rfl)
  have a4 := cell_regrown (KBi.cell KA.out (i := 4) rfl)
  have b4 := cell_regrown (KBi.cell KB.out (i := 4) rfl)
  have cO2 : Hid (∀ d os, Calls Try.prog 10 #[.agg #[.int .i64 16, .int .u32 4129, .int .u32 65535, .bool false, .int .u32 0]] (Sort.grow (redrawn w4 d) os) fun e w' => e = .returned (.agg #[.int .i64 16, .int .u32 4129, .int .u32 65535, .bool false, .int .u32 0]) ∧ Below (Sort.grow (redrawn w4 d) os).heap.size (Sort.grow (redrawn w4 d) os) w') := fun d os => of_any 16 4129 65535 false 0 _
  have cT2 : Hid (∀ d os, Calls Try.prog 12 #[.agg #[.int .i64 16, .int .u32 4129, .int .u32 65535, .bool false, .int .u32 0], .slice (some ⟨g, o, none⟩) L cap] (Sort.grow (redrawn w4 d) os) fun e w' => e = .returned (.int .u32 (V : Int)) ∧ Below (Sort.grow (redrawn w4 d) os).heap.size (Sort.grow (redrawn w4 d) os) w') := fun d os => cT _ (belowT B.out (below_regrown w4 d os))
  refine wp_region_quiet_below (by kernel_rfl) (by kernel_rfl) ?_
  repeat (go_big_quiet_step (first
    | (go_at_call 10; with_reducible exact Calls.regrown_of (cO2.out _ _))
    | (go_at_call 12; with_reducible exact Calls.regrown_of (cT2.out _ _))))
  refine wpQuiet_nil ?_
  intro _ hw'
  obtain ⟨⟨dq, osq⟩, hw''⟩ := hw'
  subst hw''
  replace B : Hid (Below w.heap.size w (Sort.grow (redrawn w4 dq) osq)) := belowT B.out (below_regrown w4 dq osq)
  go_wp2
  go_ret
  exact ⟨rfl, B.out⟩

set_option maxRecDepth 100000 in
set_option maxHeartbeats 4000000 in
theorem names_n32_nil (w : World) (V : Nat) (aw : AwC) (cS : SumAtI w (.agg #[.int .i64 32, .int .u32 79764919, .int .u32 4294967295, .bool true, .int .u32 4294967295]) (.slice none 0 0) V 0) (cT : RSumAtI w (.agg #[.int .i64 32, .int .u32 79764919, .int .u32 4294967295, .bool true, .int .u32 4294967295]) (.slice none 0 0) V) :
    Calls Try.prog 4 #[.string n32, .slice none 0 0] w fun e w' => e = .returned (.bool true) ∧ Below w.heap.size w w' := by
  go_enter Try.func4, Try.ntmps4
  go_wp2_with fail
  refine (aw _).mono ?_
  rintro e w1 ⟨rfl, hb⟩
  have B : Hid (Below w.heap.size w w1) := hb
  clear hb
  go_wp2_with fail
  refine (named_n32 _).mono ?_
  rintro e w2 ⟨rfl, hb⟩
  replace B : Hid (Below w.heap.size w w2) := belowT B.out hb
  have B3 : Hid (Below w.heap.size w ((w2.alloc (.cells #[.int .i64 32, .int .u32 79764919, .int .u32 4294967295, .bool true, .int .u32 4294967295] 30)).alloc (.cells #[.int .i64 32, .int .u32 79764919, .int .u32 4294967295, .bool true, .int .u32 4294967295] 24))) := (B.out.alloc B.out.size _).alloc (by have := B.out.size; simp; omega) _
  clear hb
  go_wp2_with fail
  refine (cS _ B3.out).mono ?_
  rintro e w4 ⟨rfl, hb⟩
  have KA : Hid (KBi w4 w2.heap.size 30 #[.int .i64 32, .int .u32 79764919, .int .u32 4294967295, .bool true, .int .u32 4294967295]) := (KBi.two w2 _ _ _ _).1.below hb
  have KB : Hid (KBi w4 (w2.heap.size + 1) 24 #[.int .i64 32, .int .u32 79764919, .int .u32 4294967295, .bool true, .int .u32 4294967295]) := (KBi.two w2 _ _ _ _).2.below hb
  replace B : Hid (Below w.heap.size w w4) := belowT B3.out hb
  clear hb B3
  go_wp2_with fail
  have a0 := cell_regrown (KBi.cell KA.out (i := 0) rfl)
  have b0 := cell_regrown (KBi.cell KB.out (i := 0) rfl)
  have a1 := cell_regrown (KBi.cell KA.out (i := 1) rfl)
  have b1 := cell_regrown (KBi.cell KB.out (i := 1) rfl)
  have a2 := cell_regrown (KBi.cell KA.out (i := 2) rfl)
  have b2 := cell_regrown (KBi.cell KB.out (i := 2) rfl)
  have a3 := cell_regrown (KBi.cell KA.out (i := 3) rfl)
  have b3 := cell_regrown (KBi.cell KB.out (i := 3) rfl)
  have a4 := cell_regrown (KBi.cell KA.out (i := 4) rfl)
  have b4 := cell_regrown (KBi.cell KB.out (i := 4) rfl)
  have cO2 : Hid (∀ d os, Calls Try.prog 10 #[.agg #[.int .i64 32, .int .u32 79764919, .int .u32 4294967295, .bool true, .int .u32 4294967295]] (Sort.grow (redrawn w4 d) os) fun e w' => e = .returned (.agg #[.int .i64 32, .int .u32 79764919, .int .u32 4294967295, .bool true, .int .u32 4294967295]) ∧ Below (Sort.grow (redrawn w4 d) os).heap.size (Sort.grow (redrawn w4 d) os) w') := fun d os => of_any 32 79764919 4294967295 true 4294967295 _
  have cT2 : Hid (∀ d os, Calls Try.prog 12 #[.agg #[.int .i64 32, .int .u32 79764919, .int .u32 4294967295, .bool true, .int .u32 4294967295], .slice none 0 0] (Sort.grow (redrawn w4 d) os) fun e w' => e = .returned (.int .u32 (V : Int)) ∧ Below (Sort.grow (redrawn w4 d) os).heap.size (Sort.grow (redrawn w4 d) os) w') := fun d os => cT _ (belowT B.out (below_regrown w4 d os))
  refine wp_region_quiet_below (by kernel_rfl) (by kernel_rfl) ?_
  repeat (go_big_quiet_step (first
    | (go_at_call 10; with_reducible exact Calls.regrown_of (cO2.out _ _))
    | (go_at_call 12; with_reducible exact Calls.regrown_of (cT2.out _ _))))
  refine wpQuiet_nil ?_
  intro _ hw'
  obtain ⟨⟨dq, osq⟩, hw''⟩ := hw'
  subst hw''
  replace B : Hid (Below w.heap.size w (Sort.grow (redrawn w4 dq) osq)) := belowT B.out (below_regrown w4 dq osq)
  go_wp2
  go_ret
  exact ⟨rfl, B.out⟩

set_option maxRecDepth 100000 in
set_option maxHeartbeats 4000000 in
theorem names_n32_row (w : World) (g o L cap : Nat) (V : Nat) (hl : (L : Int) ≤ 300) (aw : AwC) (cS : SumAtI w (.agg #[.int .i64 32, .int .u32 79764919, .int .u32 4294967295, .bool true, .int .u32 4294967295]) (.slice (some ⟨g, o, none⟩) L cap) V 0) (cT : RSumAtI w (.agg #[.int .i64 32, .int .u32 79764919, .int .u32 4294967295, .bool true, .int .u32 4294967295]) (.slice (some ⟨g, o, none⟩) L cap) V) :
    Calls Try.prog 4 #[.string n32, .slice (some ⟨g, o, none⟩) L cap] w fun e w' => e = .returned (.bool true) ∧ Below w.heap.size w w' := by
  go_enter Try.func4, Try.ntmps4
  go_wp2_with fail
  refine (aw _).mono ?_
  rintro e w1 ⟨rfl, hb⟩
  have B : Hid (Below w.heap.size w w1) := hb
  clear hb
  go_wp2_with fail
  refine (named_n32 _).mono ?_
  rintro e w2 ⟨rfl, hb⟩
  replace B : Hid (Below w.heap.size w w2) := belowT B.out hb
  have B3 : Hid (Below w.heap.size w ((w2.alloc (.cells #[.int .i64 32, .int .u32 79764919, .int .u32 4294967295, .bool true, .int .u32 4294967295] 30)).alloc (.cells #[.int .i64 32, .int .u32 79764919, .int .u32 4294967295, .bool true, .int .u32 4294967295] 24))) := (B.out.alloc B.out.size _).alloc (by have := B.out.size; simp; omega) _
  clear hb
  go_wp2_with fail
  refine (cS _ B3.out).mono ?_
  rintro e w4 ⟨rfl, hb⟩
  have KA : Hid (KBi w4 w2.heap.size 30 #[.int .i64 32, .int .u32 79764919, .int .u32 4294967295, .bool true, .int .u32 4294967295]) := (KBi.two w2 _ _ _ _).1.below hb
  have KB : Hid (KBi w4 (w2.heap.size + 1) 24 #[.int .i64 32, .int .u32 79764919, .int .u32 4294967295, .bool true, .int .u32 4294967295]) := (KBi.two w2 _ _ _ _).2.below hb
  replace B : Hid (Below w.heap.size w w4) := belowT B3.out hb
  clear hb B3
  go_wp2_with fail
  have a0 := cell_regrown (KBi.cell KA.out (i := 0) rfl)
  have b0 := cell_regrown (KBi.cell KB.out (i := 0) rfl)
  have a1 := cell_regrown (KBi.cell KA.out (i := 1) rfl)
  have b1 := cell_regrown (KBi.cell KB.out (i := 1) rfl)
  have a2 := cell_regrown (KBi.cell KA.out (i := 2) rfl)
  have b2 := cell_regrown (KBi.cell KB.out (i := 2) rfl)
  have a3 := cell_regrown (KBi.cell KA.out (i := 3) rfl)
  have b3 := cell_regrown (KBi.cell KB.out (i := 3) rfl)
  have a4 := cell_regrown (KBi.cell KA.out (i := 4) rfl)
  have b4 := cell_regrown (KBi.cell KB.out (i := 4) rfl)
  have cO2 : Hid (∀ d os, Calls Try.prog 10 #[.agg #[.int .i64 32, .int .u32 79764919, .int .u32 4294967295, .bool true, .int .u32 4294967295]] (Sort.grow (redrawn w4 d) os) fun e w' => e = .returned (.agg #[.int .i64 32, .int .u32 79764919, .int .u32 4294967295, .bool true, .int .u32 4294967295]) ∧ Below (Sort.grow (redrawn w4 d) os).heap.size (Sort.grow (redrawn w4 d) os) w') := fun d os => of_any 32 79764919 4294967295 true 4294967295 _
  have cT2 : Hid (∀ d os, Calls Try.prog 12 #[.agg #[.int .i64 32, .int .u32 79764919, .int .u32 4294967295, .bool true, .int .u32 4294967295], .slice (some ⟨g, o, none⟩) L cap] (Sort.grow (redrawn w4 d) os) fun e w' => e = .returned (.int .u32 (V : Int)) ∧ Below (Sort.grow (redrawn w4 d) os).heap.size (Sort.grow (redrawn w4 d) os) w') := fun d os => cT _ (belowT B.out (below_regrown w4 d os))
  refine wp_region_quiet_below (by kernel_rfl) (by kernel_rfl) ?_
  repeat (go_big_quiet_step (first
    | (go_at_call 10; with_reducible exact Calls.regrown_of (cO2.out _ _))
    | (go_at_call 12; with_reducible exact Calls.regrown_of (cT2.out _ _))))
  refine wpQuiet_nil ?_
  intro _ hw'
  obtain ⟨⟨dq, osq⟩, hw''⟩ := hw'
  subst hw''
  replace B : Hid (Below w.heap.size w (Sort.grow (redrawn w4 dq) osq)) := belowT B.out (below_regrown w4 dq osq)
  go_wp2
  go_ret
  exact ⟨rfl, B.out⟩

set_option maxRecDepth 100000 in
set_option maxHeartbeats 4000000 in
theorem names_no_nil (w : World) (s : ByteArray) (hs : (s.size : Int) ≤ 50) (h1 : (s.toList == [99, 114, 99, 56]) = false) (h2 : (s.toList == [99, 114, 99, 49, 54]) = false) (h3 : (s.toList == [99, 99, 105, 116, 116]) = false) (h4 : (s.toList == [99, 114, 99, 51, 50]) = false) (aw : AwC) (cS : SumAtI w (.agg #[.int .i64 0, .int .u32 0, .int .u32 0, .bool false, .int .u32 0]) (.slice none 0 0) 0 1) :
    Calls Try.prog 4 #[.string s, .slice none 0 0] w fun e w' => e = .returned (.bool true) ∧ Below w.heap.size w w' := by
  go_enter Try.func4, Try.ntmps4
  go_wp2_with fail
  refine (aw _).mono ?_
  rintro e w1 ⟨rfl, hb⟩
  have B : Hid (Below w.heap.size w w1) := hb
  clear hb
  go_wp2_with fail
  refine (named_no s _ h1 h2 h3 h4).mono ?_
  rintro e w2 ⟨rfl, hb⟩
  replace B : Hid (Below w.heap.size w w2) := belowT B.out hb
  have B3 : Hid (Below w.heap.size w ((w2.alloc (.cells #[.int .i64 0, .int .u32 0, .int .u32 0, .bool false, .int .u32 0] 30)).alloc (.cells #[.int .i64 0, .int .u32 0, .int .u32 0, .bool false, .int .u32 0] 24))) := (B.out.alloc B.out.size _).alloc (by have := B.out.size; simp; omega) _
  clear hb
  go_wp2_with fail
  refine (cS _ B3.out).mono ?_
  rintro e w4 ⟨rfl, hb⟩
  have KA : Hid (KBi w4 w2.heap.size 30 #[.int .i64 0, .int .u32 0, .int .u32 0, .bool false, .int .u32 0]) := (KBi.two w2 _ _ _ _).1.below hb
  have KB : Hid (KBi w4 (w2.heap.size + 1) 24 #[.int .i64 0, .int .u32 0, .int .u32 0, .bool false, .int .u32 0]) := (KBi.two w2 _ _ _ _).2.below hb
  replace B : Hid (Below w.heap.size w w4) := belowT B3.out hb
  clear hb B3
  go_wp2_with fail
  have a0 := cell_regrown (KBi.cell KA.out (i := 0) rfl)
  have b0 := cell_regrown (KBi.cell KB.out (i := 0) rfl)
  have a1 := cell_regrown (KBi.cell KA.out (i := 1) rfl)
  have b1 := cell_regrown (KBi.cell KB.out (i := 1) rfl)
  have a2 := cell_regrown (KBi.cell KA.out (i := 2) rfl)
  have b2 := cell_regrown (KBi.cell KB.out (i := 2) rfl)
  have a3 := cell_regrown (KBi.cell KA.out (i := 3) rfl)
  have b3 := cell_regrown (KBi.cell KB.out (i := 3) rfl)
  have a4 := cell_regrown (KBi.cell KA.out (i := 4) rfl)
  have b4 := cell_regrown (KBi.cell KB.out (i := 4) rfl)
  have cO2 : Hid (∀ d os, Calls Try.prog 10 #[.agg #[.int .i64 0, .int .u32 0, .int .u32 0, .bool false, .int .u32 0]] (Sort.grow (redrawn w4 d) os) fun e w' => e = .returned (.agg #[.int .i64 0, .int .u32 0, .int .u32 0, .bool false, .int .u32 0]) ∧ Below (Sort.grow (redrawn w4 d) os).heap.size (Sort.grow (redrawn w4 d) os) w') := fun d os => of_any 0 0 0 false 0 _
  refine wp_region_quiet_below (by kernel_rfl) (by kernel_rfl) ?_
  repeat (go_big_quiet_step (first
    | (go_at_call 10; with_reducible exact Calls.regrown_of (cO2.out _ _))))
  refine wpQuiet_nil ?_
  intro _ hw'
  obtain ⟨⟨dq, osq⟩, hw''⟩ := hw'
  subst hw''
  replace B : Hid (Below w.heap.size w (Sort.grow (redrawn w4 dq) osq)) := belowT B.out (below_regrown w4 dq osq)
  go_wp2
  go_ret
  exact ⟨rfl, B.out⟩

set_option maxRecDepth 100000 in
set_option maxHeartbeats 4000000 in
theorem names_no_row (w : World) (s : ByteArray) (hs : (s.size : Int) ≤ 50) (h1 : (s.toList == [99, 114, 99, 56]) = false) (h2 : (s.toList == [99, 114, 99, 49, 54]) = false) (h3 : (s.toList == [99, 99, 105, 116, 116]) = false) (h4 : (s.toList == [99, 114, 99, 51, 50]) = false) (g o L cap : Nat) (hl : (L : Int) ≤ 300) (aw : AwC) (cS : SumAtI w (.agg #[.int .i64 0, .int .u32 0, .int .u32 0, .bool false, .int .u32 0]) (.slice (some ⟨g, o, none⟩) L cap) 0 1) :
    Calls Try.prog 4 #[.string s, .slice (some ⟨g, o, none⟩) L cap] w fun e w' => e = .returned (.bool true) ∧ Below w.heap.size w w' := by
  go_enter Try.func4, Try.ntmps4
  go_wp2_with fail
  refine (aw _).mono ?_
  rintro e w1 ⟨rfl, hb⟩
  have B : Hid (Below w.heap.size w w1) := hb
  clear hb
  go_wp2_with fail
  refine (named_no s _ h1 h2 h3 h4).mono ?_
  rintro e w2 ⟨rfl, hb⟩
  replace B : Hid (Below w.heap.size w w2) := belowT B.out hb
  have B3 : Hid (Below w.heap.size w ((w2.alloc (.cells #[.int .i64 0, .int .u32 0, .int .u32 0, .bool false, .int .u32 0] 30)).alloc (.cells #[.int .i64 0, .int .u32 0, .int .u32 0, .bool false, .int .u32 0] 24))) := (B.out.alloc B.out.size _).alloc (by have := B.out.size; simp; omega) _
  clear hb
  go_wp2_with fail
  refine (cS _ B3.out).mono ?_
  rintro e w4 ⟨rfl, hb⟩
  have KA : Hid (KBi w4 w2.heap.size 30 #[.int .i64 0, .int .u32 0, .int .u32 0, .bool false, .int .u32 0]) := (KBi.two w2 _ _ _ _).1.below hb
  have KB : Hid (KBi w4 (w2.heap.size + 1) 24 #[.int .i64 0, .int .u32 0, .int .u32 0, .bool false, .int .u32 0]) := (KBi.two w2 _ _ _ _).2.below hb
  replace B : Hid (Below w.heap.size w w4) := belowT B3.out hb
  clear hb B3
  go_wp2_with fail
  have a0 := cell_regrown (KBi.cell KA.out (i := 0) rfl)
  have b0 := cell_regrown (KBi.cell KB.out (i := 0) rfl)
  have a1 := cell_regrown (KBi.cell KA.out (i := 1) rfl)
  have b1 := cell_regrown (KBi.cell KB.out (i := 1) rfl)
  have a2 := cell_regrown (KBi.cell KA.out (i := 2) rfl)
  have b2 := cell_regrown (KBi.cell KB.out (i := 2) rfl)
  have a3 := cell_regrown (KBi.cell KA.out (i := 3) rfl)
  have b3 := cell_regrown (KBi.cell KB.out (i := 3) rfl)
  have a4 := cell_regrown (KBi.cell KA.out (i := 4) rfl)
  have b4 := cell_regrown (KBi.cell KB.out (i := 4) rfl)
  have cO2 : Hid (∀ d os, Calls Try.prog 10 #[.agg #[.int .i64 0, .int .u32 0, .int .u32 0, .bool false, .int .u32 0]] (Sort.grow (redrawn w4 d) os) fun e w' => e = .returned (.agg #[.int .i64 0, .int .u32 0, .int .u32 0, .bool false, .int .u32 0]) ∧ Below (Sort.grow (redrawn w4 d) os).heap.size (Sort.grow (redrawn w4 d) os) w') := fun d os => of_any 0 0 0 false 0 _
  refine wp_region_quiet_below (by kernel_rfl) (by kernel_rfl) ?_
  repeat (go_big_quiet_step (first
    | (go_at_call 10; with_reducible exact Calls.regrown_of (cO2.out _ _))))
  refine wpQuiet_nil ?_
  intro _ hw'
  obtain ⟨⟨dq, osq⟩, hw''⟩ := hw'
  subst hw''
  replace B : Hid (Below w.heap.size w (Sort.grow (redrawn w4 dq) osq)) := belowT B.out (below_regrown w4 dq osq)
  go_wp2
  go_ret
  exact ⟨rfl, B.out⟩

set_option maxRecDepth 100000 in
set_option maxHeartbeats 2000000 in
theorem names_long_b (w : World) (s : ByteArray) (g o L cap : Nat) (hl : 300 < (L : Int)) (aw : AwC) : Calls Try.prog 4 #[.string s, .slice (some ⟨g, o, none⟩) L cap] w fun e w' => e = .returned (.bool true) ∧ Below w.heap.size w w' := by
  go_enter Try.func4, Try.ntmps4
  go_wp2_with fail
  refine (aw _).mono ?_
  rintro e w1 ⟨rfl, hb⟩
  have B : Hid (Below w.heap.size w w1) := hb
  clear hb
  go_wp2_with fail
  refine (aw _).mono ?_
  rintro e w2 ⟨rfl, hb⟩
  replace B : Hid (Below w.heap.size w w2) := belowT B.out hb
  clear hb
  go_wp2
  go_ret
  exact ⟨rfl, B.out⟩

set_option maxRecDepth 100000 in
set_option maxHeartbeats 2000000 in
theorem names_long_s0 (w : World) (s : ByteArray) (hl : 50 < (s.size : Int)) (aw : AwC) : Calls Try.prog 4 #[.string s, .slice none 0 0] w fun e w' => e = .returned (.bool true) ∧ Below w.heap.size w w' := by
  go_enter Try.func4, Try.ntmps4
  go_wp2_with fail
  refine (aw _).mono ?_
  rintro e w1 ⟨rfl, hb⟩
  have B : Hid (Below w.heap.size w w1) := hb
  clear hb
  go_wp2_with fail
  refine (aw _).mono ?_
  rintro e w2 ⟨rfl, hb⟩
  replace B : Hid (Below w.heap.size w w2) := belowT B.out hb
  clear hb
  go_wp2
  go_ret
  exact ⟨rfl, B.out⟩

set_option maxRecDepth 100000 in
set_option maxHeartbeats 2000000 in
theorem names_long_s (w : World) (s : ByteArray) (g o L cap : Nat) (hl : (L : Int) ≤ 300) (hs : 50 < (s.size : Int)) (aw : AwC) : Calls Try.prog 4 #[.string s, .slice (some ⟨g, o, none⟩) L cap] w fun e w' => e = .returned (.bool true) ∧ Below w.heap.size w w' := by
  go_enter Try.func4, Try.ntmps4
  go_wp2_with fail
  refine (aw _).mono ?_
  rintro e w1 ⟨rfl, hb⟩
  have B : Hid (Below w.heap.size w w1) := hb
  clear hb
  go_wp2_with fail
  refine (aw _).mono ?_
  rintro e w2 ⟨rfl, hb⟩
  replace B : Hid (Below w.heap.size w w2) := belowT B.out hb
  clear hb
  go_wp2
  go_ret
  exact ⟨rfl, B.out⟩
end Go.Proofs.Ytjbgjiodmhpbbaa
