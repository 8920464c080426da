/-
  What the program's own divided makes, and what its closures return (layer 5). Conditions: the closure's text lies where it was laid; the bytes lie in memory that was there before, at most 300.
-/
import Derived.Test.YtoocppfdcalmfaaSumCon
namespace Go.Proofs.Ytoocppfdcalmfaa
open Go.RowKit
set_option linter.unusedVariables false

set_option maxHeartbeats 1000000 in
theorem divided_any (s : ByteArray) (w : World) : Calls Try.prog 23 #[.string s] w fun e w' => e = .returned (.func (.func 27) #[] #[.pointer (some ⟨w.heap.size, 0, none⟩)]) ∧ w' = w.alloc (.cells #[.string s] 9) := by
  have hmf : ∀ (fn : Fn) (first cap : Array Value) (w : World), (Instr.makeFunc fn first cap).run Try.prog w = .ok (.func fn first cap) w := fun _ _ _ _ => rfl
  go_enter Try.func23, Try.ntmps23
  go_wp2
  go_ret
  exact ⟨rfl, rfl⟩

/-- the sum, over every world behind w -/
def SumAtL (w : World) (W : Int) (p f : Nat) (t : Bool) (z : Nat) (v : Value) (V : Nat) (E : Int) : Prop := SumAt w W p f t z v V E
theorem SumAtL.out {w : World} {W : Int} {p f : Nat} {t : Bool} {z : Nat} {v : Value} {V : Nat} {E : Int} (h : SumAtL w W p f t z v V E) : SumAt w W p f t z v V E := h
theorem sumAtL {w : World} {W : Int} {p f : Nat} {t : Bool} {z : Nat} {v : Value} {bs : List Nat} (hp : p < 4294967296) (hf : f < 4294967296) (hz : z < 4294967296) (hv : BytesAt w v bs) (hl : (bs.length : Int) ≤ 9223372036854775807) (hb : AllBytes bs) : SumAtL w W p f t z v (sumV W p f t z bs) (sumE W p f z) :=
  fun x hx => sum_any W p f t z v bs x hp hf hz hb hl (hv.below hx)

set_option maxRecDepth 100000 in
set_option maxHeartbeats 2000000 in
theorem clo_5 (g : Nat) (v : Value) (bs : List Nat) (w : World) (hs : w.cell? ⟨g, 0, none⟩ = some (.string n8)) (hv : BytesAt w v bs) (hl : (bs.length : Int) ≤ 300) (hb : AllBytes bs) :
    Calls Try.prog 27 #[v, .pointer (some ⟨g, 0, none⟩)] w fun e w' => e = .returned (.int .u32 ((sumV 8 7 0 false 0 bs : Nat) : Int)) ∧ Below w.heap.size w w' := by
  have nm : Hid (∀ w, Calls Try.prog 28 #[.string n8] w fun e w' => e = .returned (.tuple #[kv 8 7 0 false 0, .bool true]) ∧ Below w.heap.size w w') := named_n8
  have sm : Hid (SumAtL w 8 7 0 false 0 v (sumV 8 7 0 false 0 bs) 0) := by
    have e : sumE 8 7 0 0 = 0 := sumE_yes kind_ok.1
    have k := sumAtL (W := 8) (p := 7) (f := 0) (t := false) (z := 0) (by omega) (by omega) (by omega) hv (by omega) hb
    rwa [e] at k
  clear hv hl hb
  generalize sumV 8 7 0 false 0 bs = V at *
  go_enter Try.func27, Try.ntmps27
  go_wp2_with fail
  refine (nm.out _).mono ?_
  rintro e w1 ⟨rfl, hb1⟩
  have B1 : Hid (Below w.heap.size w w1) := hb1
  have B2 : Hid (Below w.heap.size w (w1.alloc (.cells #[.int .i64 8, .int .u32 7, .int .u32 0, .bool false, .int .u32 0] 56))) := hb1.alloc hb1.size _
  clear hb1 nm hs
  go_wp2_with fail
  refine (sm.out _ B2.out).mono ?_
  rintro e w2 ⟨rfl, hb2⟩
  have B3 : Hid (Below w.heap.size w w2) := belowT B2.out hb2
  clear hb2 sm B1 B2
  go_wp2
  go_ret
  exact ⟨rfl, B3.out⟩

set_option maxRecDepth 100000 in
set_option maxHeartbeats 2000000 in
theorem clo_6 (g : Nat) (v : Value) (bs : List Nat) (w : World) (hs : w.cell? ⟨g, 0, none⟩ = some (.string n16)) (hv : BytesAt w v bs) (hl : (bs.length : Int) ≤ 300) (hb : AllBytes bs) :
    Calls Try.prog 27 #[v, .pointer (some ⟨g, 0, none⟩)] w fun e w' => e = .returned (.int .u32 ((sumV 16 32773 0 true 0 bs : Nat) : Int)) ∧ Below w.heap.size w w' := by
  have nm : Hid (∀ w, Calls Try.prog 28 #[.string n16] w fun e w' => e = .returned (.tuple #[kv 16 32773 0 true 0, .bool true]) ∧ Below w.heap.size w w') := named_n16
  have sm : Hid (SumAtL w 16 32773 0 true 0 v (sumV 16 32773 0 true 0 bs) 0) := by
    have e : sumE 16 32773 0 0 = 0 := sumE_yes kind_ok.2.1
    have k := sumAtL (W := 16) (p := 32773) (f := 0) (t := true) (z := 0) (by omega) (by omega) (by omega) hv (by omega) hb
    rwa [e] at k
  clear hv hl hb
  generalize sumV 16 32773 0 true 0 bs = V at *
  go_enter Try.func27, Try.ntmps27
  go_wp2_with fail
  refine (nm.out _).mono ?_
  rintro e w1 ⟨rfl, hb1⟩
  have B1 : Hid (Below w.heap.size w w1) := hb1
  have B2 : Hid (Below w.heap.size w (w1.alloc (.cells #[.int .i64 16, .int .u32 32773, .int .u32 0, .bool true, .int .u32 0] 56))) := hb1.alloc hb1.size _
  clear hb1 nm hs
  go_wp2_with fail
  refine (sm.out _ B2.out).mono ?_
  rintro e w2 ⟨rfl, hb2⟩
  have B3 : Hid (Below w.heap.size w w2) := belowT B2.out hb2
  clear hb2 sm B1 B2
  go_wp2
  go_ret
  exact ⟨rfl, B3.out⟩

set_option maxRecDepth 100000 in
set_option maxHeartbeats 2000000 in
theorem clo_7 (g : Nat) (v : Value) (bs : List Nat) (w : World) (hs : w.cell? ⟨g, 0, none⟩ = some (.string nC)) (hv : BytesAt w v bs) (hl : (bs.length : Int) ≤ 300) (hb : AllBytes bs) :
    Calls Try.prog 27 #[v, .pointer (some ⟨g, 0, none⟩)] w fun e w' => e = .returned (.int .u32 ((sumV 16 4129 65535 false 0 bs : Nat) : Int)) ∧ Below w.heap.size w w' := by
  have nm : Hid (∀ w, Calls Try.prog 28 #[.string nC] w fun e w' => e = .returned (.tuple #[kv 16 4129 65535 false 0, .bool true]) ∧ Below w.heap.size w w') := named_nC
  have sm : Hid (SumAtL w 16 4129 65535 false 0 v (sumV 16 4129 65535 false 0 bs) 0) := by
    have e : sumE 16 4129 65535 0 = 0 := sumE_yes kind_ok.2.2.1
    have k := sumAtL (W := 16) (p := 4129) (f := 65535) (t := false) (z := 0) (by omega) (by omega) (by omega) hv (by omega) hb
    rwa [e] at k
  clear hv hl hb
  generalize sumV 16 4129 65535 false 0 bs = V at *
  go_enter Try.func27, Try.ntmps27
  go_wp2_with fail
  refine (nm.out _).mono ?_
  rintro e w1 ⟨rfl, hb1⟩
  have B1 : Hid (Below w.heap.size w w1) := hb1
  have B2 : Hid (Below w.heap.size w (w1.alloc (.cells #[.int .i64 16, .int .u32 4129, .int .u32 65535, .bool false, .int .u32 0] 56))) := hb1.alloc hb1.size _
  clear hb1 nm hs
  go_wp2_with fail
  refine (sm.out _ B2.out).mono ?_
  rintro e w2 ⟨rfl, hb2⟩
  have B3 : Hid (Below w.heap.size w w2) := belowT B2.out hb2
  clear hb2 sm B1 B2
  go_wp2
  go_ret
  exact ⟨rfl, B3.out⟩

set_option maxRecDepth 100000 in
set_option maxHeartbeats 2000000 in
theorem clo_8 (g : Nat) (v : Value) (bs : List Nat) (w : World) (hs : w.cell? ⟨g, 0, none⟩ = some (.string n32)) (hv : BytesAt w v bs) (hl : (bs.length : Int) ≤ 300) (hb : AllBytes bs) :
    Calls Try.prog 27 #[v, .pointer (some ⟨g, 0, none⟩)] w fun e w' => e = .returned (.int .u32 ((sumV 32 79764919 4294967295 true 4294967295 bs : Nat) : Int)) ∧ Below w.heap.size w w' := by
  have nm : Hid (∀ w, Calls Try.prog 28 #[.string n32] w fun e w' => e = .returned (.tuple #[kv 32 79764919 4294967295 true 4294967295, .bool true]) ∧ Below w.heap.size w w') := named_n32
  have sm : Hid (SumAtL w 32 79764919 4294967295 true 4294967295 v (sumV 32 79764919 4294967295 true 4294967295 bs) 0) := by
    have e : sumE 32 79764919 4294967295 4294967295 = 0 := sumE_yes kind_ok.2.2.2
    have k := sumAtL (W := 32) (p := 79764919) (f := 4294967295) (t := true) (z := 4294967295) (by omega) (by omega) (by omega) hv (by omega) hb
    rwa [e] at k
  clear hv hl hb
  generalize sumV 32 79764919 4294967295 true 4294967295 bs = V at *
  go_enter Try.func27, Try.ntmps27
  go_wp2_with fail
  refine (nm.out _).mono ?_
  rintro e w1 ⟨rfl, hb1⟩
  have B1 : Hid (Below w.heap.size w w1) := hb1
  have B2 : Hid (Below w.heap.size w (w1.alloc (.cells #[.int .i64 32, .int .u32 79764919, .int .u32 4294967295, .bool true, .int .u32 4294967295] 56))) := hb1.alloc hb1.size _
  clear hb1 nm hs
  go_wp2_with fail
  refine (sm.out _ B2.out).mono ?_
  rintro e w2 ⟨rfl, hb2⟩
  have B3 : Hid (Below w.heap.size w w2) := belowT B2.out hb2
  clear hb2 sm B1 B2
  go_wp2
  go_ret
  exact ⟨rfl, B3.out⟩
end Go.Proofs.Ytoocppfdcalmfaa
