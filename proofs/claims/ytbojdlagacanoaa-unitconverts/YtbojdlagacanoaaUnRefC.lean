/-
  What the document's own Convert returns, called with a right fraction and two of the table's units. Conditions: the fraction is right, of numbers of 64 bits; the units' numbers are as the table has them.
-/
import Derived.Test.YtbojdlagacanoaaRatT
import Derived.Test.YtbojdlagacanoaaUnConvK
namespace Go.Proofs.Ytbojdlagacanoaa
open Go.RowKit
set_option linter.unusedVariables false

/-- what stays: v, the two units, the answer's place -/
def StayR (w : World) (n d : Int) (u v : U) (x : World) : Prop :=
  Has x w.heap.size (.int .i64 n) (.int .i64 d) ∧ HasU x (w.heap.size + 1) 32 u ∧ HasU x (w.heap.size + 1 + 1) 32 v ∧ Has x (w.heap.size + 1 + 1 + 1) (.int .i64 0) (.int .i64 0) ∧ Below w.heap.size w x
theorem StayR.below {w y x : World} {n d : Int} {u v : U} (h : StayR w n d u v y) (hb : Below y.heap.size y x) : StayR w n d u v x :=
  ⟨h.1.below hb, h.2.1.below hb, h.2.2.1.below hb, h.2.2.2.1.below hb, below_trans h.2.2.2.2 hb⟩
theorem StayR.alloc {w y : World} {n d : Int} {u v : U} (h : StayR w n d u v y) (o : Obj) : StayR w n d u v (y.alloc o) := h.below ((Below.refl _ _).alloc (Nat.le_refl _) _)
theorem hasU_at {w : World} {b : Nat} (t : TypeId) (u : U) (h : b = w.heap.size) : HasU (w.alloc (.cells #[.string u.nm, .int .i64 u.m, .int .i64 u.l, .int .i64 u.t, .int .i64 u.k, .int .i64 u.fn, .int .i64 u.fd, .int .i64 u.on, .int .i64 u.od, .int .i64 u.code] t)) b t u := by subst h; exact hasU_new w t u
theorem stayR_new (w : World) (n d : Int) (u v : U) : StayR w n d u v ((((w.alloc (.cells #[.int .i64 n, .int .i64 d] 30)).alloc (.cells #[.string u.nm, .int .i64 u.m, .int .i64 u.l, .int .i64 u.t, .int .i64 u.k, .int .i64 u.fn, .int .i64 u.fd, .int .i64 u.on, .int .i64 u.od, .int .i64 u.code] 32)).alloc (.cells #[.string v.nm, .int .i64 v.m, .int .i64 v.l, .int .i64 v.t, .int .i64 v.k, .int .i64 v.fn, .int .i64 v.fd, .int .i64 v.on, .int .i64 v.od, .int .i64 v.code] 32)).alloc (.cells #[.int .i64 0, .int .i64 0] 30)) :=
  ⟨(((has_new w _ _ _).alloc _).alloc _).alloc _, ((hasU_at _ u (by simp)).alloc _).alloc _, (hasU_at _ v (by simp)).alloc _, has_at _ _ _ (by simp), by go_grown⟩

set_option maxRecDepth 100000 in
set_option maxHeartbeats 4000000 in
theorem rconv_self (n d : Int) (u v : U) (w : World) (hs : (u.nm.toList == v.nm.toList) = true) :
    Calls Try.prog 17 #[rv n d, encU u, encU v] w fun e w' => e = .returned (.tuple #[rv n d, .bool true]) ∧ Below w.heap.size w w' := by
  have S : Hid (StayR w n d u v ((((w.alloc (.cells #[.int .i64 n, .int .i64 d] 30)).alloc (.cells #[.string u.nm, .int .i64 u.m, .int .i64 u.l, .int .i64 u.t, .int .i64 u.k, .int .i64 u.fn, .int .i64 u.fd, .int .i64 u.on, .int .i64 u.od, .int .i64 u.code] 32)).alloc (.cells #[.string v.nm, .int .i64 v.m, .int .i64 v.l, .int .i64 v.t, .int .i64 v.k, .int .i64 v.fn, .int .i64 v.fd, .int .i64 v.on, .int .i64 v.od, .int .i64 v.code] 32)).alloc (.cells #[.int .i64 0, .int .i64 0] 30))) := stayR_new w n d u v
  obtain ⟨x0, -⟩ := S.out.2.1.cells
  obtain ⟨y0, -⟩ := S.out.2.2.1.cells
  obtain ⟨v0, v1, -, -, -⟩ := S.out.1
  obtain ⟨q0, q1, r0, r1, rl⟩ := S.out.2.2.2.1
  go_enter Try.func17, Try.ntmps17
  go_wp2
  go_returns
  exact ⟨rfl, by go_grown⟩

set_option maxRecDepth 100000 in
set_option maxHeartbeats 4000000 in
theorem rconv_f1 (n d N1 D1 : Int) (u v : U) (w : World) (hv : -9223372036854775807 ≤ v.on ∧ v.on ≤ 9223372036854775807) (hs : (u.nm.toList == v.nm.toList) = false) (f1 : Hid (∀ w, Calls Try.prog 28 #[rv n d, rv u.fn u.fd] w fun e w' => e = .returned (.tuple #[rv N1 D1, .bool false]) ∧ Below w.heap.size w w')) :
    Calls Try.prog 17 #[rv n d, encU u, encU v] w fun e w' => e = .returned (.tuple #[rv 0 0, .bool false]) ∧ Below w.heap.size w w' := by
  have S : Hid (StayR w n d u v ((((w.alloc (.cells #[.int .i64 n, .int .i64 d] 30)).alloc (.cells #[.string u.nm, .int .i64 u.m, .int .i64 u.l, .int .i64 u.t, .int .i64 u.k, .int .i64 u.fn, .int .i64 u.fd, .int .i64 u.on, .int .i64 u.od, .int .i64 u.code] 32)).alloc (.cells #[.string v.nm, .int .i64 v.m, .int .i64 v.l, .int .i64 v.t, .int .i64 v.k, .int .i64 v.fn, .int .i64 v.fd, .int .i64 v.on, .int .i64 v.od, .int .i64 v.code] 32)).alloc (.cells #[.int .i64 0, .int .i64 0] 30))) := stayR_new w n d u v
  have hneg : wrap64 (-v.on) = -v.on := Go.IntWalk.wrap64_in _ ⟨by omega, by omega⟩
  clear hv
  obtain ⟨x0, -⟩ := S.out.2.1.cells
  obtain ⟨y0, -⟩ := S.out.2.2.1.cells
  obtain ⟨v0, v1, -, -, -⟩ := S.out.1
  obtain ⟨-, -, -, -, -, x5, x6, -⟩ := S.out.2.1.cells
  go_enter Try.func17, Try.ntmps17
  go_wp2_with fail
  refine (f1.out _).mono ?_
  rintro e w1 ⟨rfl, hb⟩
  clear x0 y0 v0 v1 x5 x6
  have S : Hid (StayR w n d u v (w1.alloc (.cells #[.int .i64 N1, .int .i64 D1] 30))) := (S.out.below hb).alloc _
  clear f1 hb
  obtain ⟨q0, q1, r0, r1, rl⟩ := S.out.2.2.2.1
  go_wp2
  have hq := fun x y => wrote2 (x := x) (y := y) q0 q1
  refine bodyPost_ret (res_rpair Try.results17 rfl rfl (hq _ _).1 (hq _ _).2) rfl ?_
  exact ⟨rfl, below_set2 S.out.2.2.2.2 (by simp; omega) (by simp; omega)⟩

set_option maxRecDepth 100000 in
set_option maxHeartbeats 4000000 in
theorem rconv_f2 (n d N1 D1 N2 D2 : Int) (u v : U) (w : World) (hv : -9223372036854775807 ≤ v.on ∧ v.on ≤ 9223372036854775807) (hs : (u.nm.toList == v.nm.toList) = false) (f1 : Hid (∀ w, Calls Try.prog 28 #[rv n d, rv u.fn u.fd] w fun e w' => e = .returned (.tuple #[rv N1 D1, .bool true]) ∧ Below w.heap.size w w')) (f2 : Hid (∀ w, Calls Try.prog 29 #[rv N1 D1, rv u.on u.od] w fun e w' => e = .returned (.tuple #[rv N2 D2, .bool false]) ∧ Below w.heap.size w w')) :
    Calls Try.prog 17 #[rv n d, encU u, encU v] w fun e w' => e = .returned (.tuple #[rv 0 0, .bool false]) ∧ Below w.heap.size w w' := by
  have S : Hid (StayR w n d u v ((((w.alloc (.cells #[.int .i64 n, .int .i64 d] 30)).alloc (.cells #[.string u.nm, .int .i64 u.m, .int .i64 u.l, .int .i64 u.t, .int .i64 u.k, .int .i64 u.fn, .int .i64 u.fd, .int .i64 u.on, .int .i64 u.od, .int .i64 u.code] 32)).alloc (.cells #[.string v.nm, .int .i64 v.m, .int .i64 v.l, .int .i64 v.t, .int .i64 v.k, .int .i64 v.fn, .int .i64 v.fd, .int .i64 v.on, .int .i64 v.od, .int .i64 v.code] 32)).alloc (.cells #[.int .i64 0, .int .i64 0] 30))) := stayR_new w n d u v
  have hneg : wrap64 (-v.on) = -v.on := Go.IntWalk.wrap64_in _ ⟨by omega, by omega⟩
  clear hv
  obtain ⟨x0, -⟩ := S.out.2.1.cells
  obtain ⟨y0, -⟩ := S.out.2.2.1.cells
  obtain ⟨v0, v1, -, -, -⟩ := S.out.1
  obtain ⟨-, -, -, -, -, x5, x6, -⟩ := S.out.2.1.cells
  go_enter Try.func17, Try.ntmps17
  go_wp2_with fail
  refine (f1.out _).mono ?_
  rintro e w1 ⟨rfl, hb⟩
  clear x0 y0 v0 v1 x5 x6
  have S : Hid (StayR w n d u v (w1.alloc (.cells #[.int .i64 N1, .int .i64 D1] 30))) := (S.out.below hb).alloc _
  clear f1 hb
  obtain ⟨-, -, -, -, -, -, -, x7, x8, -⟩ := S.out.2.1.cells
  go_wp2_with fail
  refine (f2.out _).mono ?_
  rintro e w2 ⟨rfl, hb⟩
  clear x7 x8
  have S : Hid (StayR w n d u v (w2.alloc (.cells #[.int .i64 N2, .int .i64 D2] 30))) := (S.out.below hb).alloc _
  clear f2 hb
  obtain ⟨q0, q1, r0, r1, rl⟩ := S.out.2.2.2.1
  go_wp2
  have hq := fun x y => wrote2 (x := x) (y := y) q0 q1
  refine bodyPost_ret (res_rpair Try.results17 rfl rfl (hq _ _).1 (hq _ _).2) rfl ?_
  exact ⟨rfl, below_set2 S.out.2.2.2.2 (by simp; omega) (by simp; omega)⟩

set_option maxRecDepth 100000 in
set_option maxHeartbeats 4000000 in
theorem rconv_f3 (n d N1 D1 N2 D2 N3 D3 : Int) (u v : U) (w : World) (hv : -9223372036854775807 ≤ v.on ∧ v.on ≤ 9223372036854775807) (hs : (u.nm.toList == v.nm.toList) = false) (f1 : Hid (∀ w, Calls Try.prog 28 #[rv n d, rv u.fn u.fd] w fun e w' => e = .returned (.tuple #[rv N1 D1, .bool true]) ∧ Below w.heap.size w w')) (f2 : Hid (∀ w, Calls Try.prog 29 #[rv N1 D1, rv u.on u.od] w fun e w' => e = .returned (.tuple #[rv N2 D2, .bool true]) ∧ Below w.heap.size w w')) (f3 : Hid (∀ w, Calls Try.prog 29 #[rv N2 D2, rv (-v.on) v.od] w fun e w' => e = .returned (.tuple #[rv N3 D3, .bool false]) ∧ Below w.heap.size w w')) :
    Calls Try.prog 17 #[rv n d, encU u, encU v] w fun e w' => e = .returned (.tuple #[rv 0 0, .bool false]) ∧ Below w.heap.size w w' := by
  have S : Hid (StayR w n d u v ((((w.alloc (.cells #[.int .i64 n, .int .i64 d] 30)).alloc (.cells #[.string u.nm, .int .i64 u.m, .int .i64 u.l, .int .i64 u.t, .int .i64 u.k, .int .i64 u.fn, .int .i64 u.fd, .int .i64 u.on, .int .i64 u.od, .int .i64 u.code] 32)).alloc (.cells #[.string v.nm, .int .i64 v.m, .int .i64 v.l, .int .i64 v.t, .int .i64 v.k, .int .i64 v.fn, .int .i64 v.fd, .int .i64 v.on, .int .i64 v.od, .int .i64 v.code] 32)).alloc (.cells #[.int .i64 0, .int .i64 0] 30))) := stayR_new w n d u v
  have hneg : wrap64 (-v.on) = -v.on := Go.IntWalk.wrap64_in _ ⟨by omega, by omega⟩
  clear hv
  obtain ⟨x0, -⟩ := S.out.2.1.cells
  obtain ⟨y0, -⟩ := S.out.2.2.1.cells
  obtain ⟨v0, v1, -, -, -⟩ := S.out.1
  obtain ⟨-, -, -, -, -, x5, x6, -⟩ := S.out.2.1.cells
  go_enter Try.func17, Try.ntmps17
  go_wp2_with fail
  refine (f1.out _).mono ?_
  rintro e w1 ⟨rfl, hb⟩
  clear x0 y0 v0 v1 x5 x6
  have S : Hid (StayR w n d u v (w1.alloc (.cells #[.int .i64 N1, .int .i64 D1] 30))) := (S.out.below hb).alloc _
  clear f1 hb
  obtain ⟨-, -, -, -, -, -, -, x7, x8, -⟩ := S.out.2.1.cells
  go_wp2_with fail
  refine (f2.out _).mono ?_
  rintro e w2 ⟨rfl, hb⟩
  clear x7 x8
  have S : Hid (StayR w n d u v (w2.alloc (.cells #[.int .i64 N2, .int .i64 D2] 30))) := (S.out.below hb).alloc _
  clear f2 hb
  obtain ⟨-, -, -, -, -, -, -, y7, y8, -⟩ := S.out.2.2.1.cells
  go_wp2_with fail
  refine (f3.out _).mono ?_
  rintro e w3 ⟨rfl, hb⟩
  clear y7 y8
  have S : Hid (StayR w n d u v (w3.alloc (.cells #[.int .i64 N3, .int .i64 D3] 30))) := (S.out.below hb).alloc _
  clear f3 hb
  obtain ⟨q0, q1, r0, r1, rl⟩ := S.out.2.2.2.1
  go_wp2
  have hq := fun x y => wrote2 (x := x) (y := y) q0 q1
  refine bodyPost_ret (res_rpair Try.results17 rfl rfl (hq _ _).1 (hq _ _).2) rfl ?_
  exact ⟨rfl, below_set2 S.out.2.2.2.2 (by simp; omega) (by simp; omega)⟩

set_option maxRecDepth 100000 in
set_option maxHeartbeats 4000000 in
theorem rconv_f4 (n d N1 D1 N2 D2 N3 D3 N4 D4 : Int) (E4 : Bool) (u v : U) (w : World) (hv : -9223372036854775807 ≤ v.on ∧ v.on ≤ 9223372036854775807) (hs : (u.nm.toList == v.nm.toList) = false) (f1 : Hid (∀ w, Calls Try.prog 28 #[rv n d, rv u.fn u.fd] w fun e w' => e = .returned (.tuple #[rv N1 D1, .bool true]) ∧ Below w.heap.size w w')) (f2 : Hid (∀ w, Calls Try.prog 29 #[rv N1 D1, rv u.on u.od] w fun e w' => e = .returned (.tuple #[rv N2 D2, .bool true]) ∧ Below w.heap.size w w')) (f3 : Hid (∀ w, Calls Try.prog 29 #[rv N2 D2, rv (-v.on) v.od] w fun e w' => e = .returned (.tuple #[rv N3 D3, .bool true]) ∧ Below w.heap.size w w')) (f4 : Hid (∀ w, Calls Try.prog 28 #[rv N3 D3, rv v.fd v.fn] w fun e w' => e = .returned (.tuple #[rv N4 D4, .bool E4]) ∧ Below w.heap.size w w')) :
    Calls Try.prog 17 #[rv n d, encU u, encU v] w fun e w' => e = .returned (.tuple #[rv N4 D4, .bool E4]) ∧ Below w.heap.size w w' := by
  have S : Hid (StayR w n d u v ((((w.alloc (.cells #[.int .i64 n, .int .i64 d] 30)).alloc (.cells #[.string u.nm, .int .i64 u.m, .int .i64 u.l, .int .i64 u.t, .int .i64 u.k, .int .i64 u.fn, .int .i64 u.fd, .int .i64 u.on, .int .i64 u.od, .int .i64 u.code] 32)).alloc (.cells #[.string v.nm, .int .i64 v.m, .int .i64 v.l, .int .i64 v.t, .int .i64 v.k, .int .i64 v.fn, .int .i64 v.fd, .int .i64 v.on, .int .i64 v.od, .int .i64 v.code] 32)).alloc (.cells #[.int .i64 0, .int .i64 0] 30))) := stayR_new w n d u v
  have hneg : wrap64 (-v.on) = -v.on := Go.IntWalk.wrap64_in _ ⟨by omega, by omega⟩
  clear hv
  obtain ⟨x0, -⟩ := S.out.2.1.cells
  obtain ⟨y0, -⟩ := S.out.2.2.1.cells
  obtain ⟨v0, v1, -, -, -⟩ := S.out.1
  obtain ⟨-, -, -, -, -, x5, x6, -⟩ := S.out.2.1.cells
  go_enter Try.func17, Try.ntmps17
  go_wp2_with fail
  refine (f1.out _).mono ?_
  rintro e w1 ⟨rfl, hb⟩
  clear x0 y0 v0 v1 x5 x6
  have S : Hid (StayR w n d u v (w1.alloc (.cells #[.int .i64 N1, .int .i64 D1] 30))) := (S.out.below hb).alloc _
  clear f1 hb
  obtain ⟨-, -, -, -, -, -, -, x7, x8, -⟩ := S.out.2.1.cells
  go_wp2_with fail
  refine (f2.out _).mono ?_
  rintro e w2 ⟨rfl, hb⟩
  clear x7 x8
  have S : Hid (StayR w n d u v (w2.alloc (.cells #[.int .i64 N2, .int .i64 D2] 30))) := (S.out.below hb).alloc _
  clear f2 hb
  obtain ⟨-, -, -, -, -, -, -, y7, y8, -⟩ := S.out.2.2.1.cells
  go_wp2_with fail
  refine (f3.out _).mono ?_
  rintro e w3 ⟨rfl, hb⟩
  clear y7 y8
  have S : Hid (StayR w n d u v (w3.alloc (.cells #[.int .i64 N3, .int .i64 D3] 30))) := (S.out.below hb).alloc _
  clear f3 hb
  obtain ⟨-, -, -, -, -, y5, y6, -⟩ := S.out.2.2.1.cells
  go_wp2_with fail
  refine (f4.out _).mono ?_
  rintro e w4 ⟨rfl, hb⟩
  clear y5 y6
  have S : Hid (StayR w n d u v w4) := S.out.below hb
  clear f4 hb
  obtain ⟨q0, q1, r0, r1, rl⟩ := S.out.2.2.2.1
  go_wp2
  have hq := fun x y => wrote2 (x := x) (y := y) q0 q1
  refine bodyPost_ret (res_rpair Try.results17 rfl rfl (hq _ _).1 (hq _ _).2) rfl ?_
  exact ⟨rfl, below_set2 S.out.2.2.2.2 (by simp; omega) (by simp; omega)⟩
end Go.Proofs.Ytbojdlagacanoaa
