/-
  What unit.Convert returns where four steps are taken. Conditions: as each says.
-/
import Derived.Test.YtbojdlagacanoaaUnConvK
namespace Go.Proofs.Ytbojdlagacanoaa
open Go.RowKit
set_option linter.unusedVariables false

theorem MulC.alloc {w : World} {f : Value} {n d : Int} (h : MulC w f n d) (o : Obj) : MulC (w.alloc o) f n d := h.below ((Below.refl _ _).alloc (Nat.le_refl _) _)
theorem AddC.alloc {w : World} {f : Value} {n d : Int} (h : AddC w f n d) (o : Obj) : AddC (w.alloc o) f n d := h.below ((Below.refl _ _).alloc (Nat.le_refl _) _)
theorem four_new (w : World) (a b c d : Value) (t : TypeId) : (w.alloc (.cells #[a, b, c, d] t)).cell? ⟨w.heap.size, 0, none⟩ = some a ∧ (w.alloc (.cells #[a, b, c, d] t)).cell? ⟨w.heap.size, 1, none⟩ = some b ∧ (w.alloc (.cells #[a, b, c, d] t)).cell? ⟨w.heap.size, 2, none⟩ = some c ∧ (w.alloc (.cells #[a, b, c, d] t)).cell? ⟨w.heap.size, 3, none⟩ = some d := by
  simp
/-- what is carried on from call to call: what stays, and the answer's block -/
def CarC (w : World) (n d : Int) (u v : U) (b1 b2 : Nat) (x : World) : Prop := StayC w n d u v b1 b2 x ∧ Has x (w.heap.size + 1) (.int .i64 0) (.int .i64 0)
theorem CarC.below {w y x : World} {n d : Int} {u v : U} {b1 b2 : Nat} (h : CarC w n d u v b1 b2 y) (hb : Below y.heap.size y x) : CarC w n d u v b1 b2 x := ⟨h.1.below hb, h.2.below hb⟩
theorem CarC.drew {w y : World} {n d : Int} {u v : U} {b1 b2 : Nat} (h : CarC w n d u v b1 b2 y) : CarC w n d u v b1 b2 y.drew := h.below (Below.refl _ _).drew
theorem CarC.alloc {w y : World} {n d : Int} {u v : U} {b1 b2 : Nat} (h : CarC w n d u v b1 b2 y) (o : Obj) : CarC w n d u v b1 b2 (y.alloc o) := h.below ((Below.refl _ _).alloc (Nat.le_refl _) _)

set_option maxRecDepth 100000 in
set_option maxHeartbeats 16000000 in
theorem conv_walk (n d : Int) (a b : ByteArray) (u v : U) (w : World) (hn : I64 n) (hd : I64 d) (ou : OkU u) (ov : OkU v) (fa : Hid (∀ w, Calls Try.prog 9 #[.string a] w fun e w' => e = .returned (.tuple #[encU u, .bool true]) ∧ Below w.heap.size w w')) (fb : Hid (∀ w, Calls Try.prog 9 #[.string b] w fun e w' => e = .returned (.tuple #[encU v, .bool true]) ∧ Below w.heap.size w w')) (hed : ∀ w : World, (Op.equalIn 10000 23 (.agg #[.int .i64 u.m, .int .i64 u.l, .int .i64 u.t, .int .i64 u.k]) (.agg #[.int .i64 v.m, .int .i64 v.l, .int .i64 v.t, .int .i64 v.k])).run Try.prog w = .ok true w) (fr : Hid (∀ w, Calls Try.prog 20 #[rv n d] w fun e w' => e = .returned (.bool true) ∧ Below w.heap.size w w')) (hs : (a.toList == b.toList) = false) :
    Calls Try.prog 14 #[rv n d, .string a, .string b] w fun e w' => e = .returned (.tuple #[rv (chainT n d u v).1 (chainT n d u v).2.1, .int .i64 (chainT n d u v).2.2]) ∧ Below w.heap.size w w' := by
  have ft : Hid (∀ w, Calls Try.prog 22 #[rv u.fn u.fd] w fun e w' => ∃ f, e = .returned f ∧ MulC w' f u.fn u.fd ∧ Below w.heap.size w w') := fun w => times_any _ _ w
  have fp : Hid (∀ w, Calls Try.prog 23 #[rv u.on u.od] w fun e w' => ∃ f, e = .returned f ∧ AddC w' f u.on u.od ∧ Below w.heap.size w w') := fun w => plus_any _ _ w
  have fl : Hid (∀ w, Calls Try.prog 24 #[rv v.on v.od] w fun e w' => ∃ f, e = .returned f ∧ AddC w' f (-v.on) v.od ∧ Below w.heap.size w w') := fun w => less1_any _ _ w ⟨by have := ov.on0; omega, by have := ov.on1; omega⟩
  have fo : Hid (∀ w, Calls Try.prog 25 #[rv v.fn v.fd] w fun e w' => ∃ f, e = .returned f ∧ MulC w' f v.fd v.fn ∧ Below w.heap.size w w') := fun w => over_any _ _ w
  have fw : Hid (∀ (f1 f2 f3 f4 : Value) (b : Nat) (w : World), MulC w f1 u.fn u.fd → AddC w f2 u.on u.od → AddC w f3 (-v.on) v.od → MulC w f4 v.fd v.fn →
      (w.cell? ⟨b, 0, none⟩ = some f1 ∧ w.cell? ⟨b, 1, none⟩ = some f2 ∧ w.cell? ⟨b, 2, none⟩ = some f3 ∧ w.cell? ⟨b, 3, none⟩ = some f4) →
      Calls Try.prog 21 #[rv n d, .slice (some ⟨b, 0, none⟩) 4 4] w fun e w' => e = .returned (.tuple #[rv (chainT n d u v).1 (chainT n d u v).2.1, .int .i64 (chainT n d u v).2.2]) ∧ Below w.heap.size w w') := fun f1 f2 f3 f4 b w k1 k2 k3 k4 k5 => by
    have := ou.fn0; have := ou.fn1; have := ou.fd0; have := ou.fd1; have := ou.on0; have := ou.on1; have := ou.od0; have := ou.od1
    have := ov.fn0; have := ov.fn1; have := ov.fd0; have := ov.fd1; have := ov.on0; have := ov.on1; have := ov.od0; have := ov.od1
    exact walk_any n d u.fn u.fd u.on u.od (-v.on) v.od v.fd v.fn f1 f2 f3 f4 b w hn hd ⟨by omega, by omega⟩ ⟨by omega, by omega⟩ ⟨by omega, by omega⟩ ⟨by omega, by omega⟩ ⟨by omega, by omega⟩ ⟨by omega, by omega⟩ ⟨by omega, by omega⟩ ⟨by omega, by omega⟩ k1 k2 k3 k4 k5 _ rfl
  generalize (chainT n d u v).1 = X at *
  generalize (chainT n d u v).2.1 = Y at *
  generalize (chainT n d u v).2.2 = Z at *
  clear hn hd ou ov
  have G0 : Hid (Below w.heap.size w ((w.alloc (.cells #[.int .i64 n, .int .i64 d] 25)).alloc (.cells #[.int .i64 0, .int .i64 0] 25))) := by unfold Hid; go_grown
  have V0 : Hid (Has ((w.alloc (.cells #[.int .i64 n, .int .i64 d] 25)).alloc (.cells #[.int .i64 0, .int .i64 0] 25)) w.heap.size (.int .i64 n) (.int .i64 d)) := (has_new w _ _ _).alloc _
  have R0 : Hid (Has ((w.alloc (.cells #[.int .i64 n, .int .i64 d] 25)).alloc (.cells #[.int .i64 0, .int .i64 0] 25)) (w.heap.size + 1) (.int .i64 0) (.int .i64 0)) := has_at _ _ _ (by simp)
  go_enter Try.func14, Try.ntmps14
  go_wp2_with fail
  refine (fa.out _).mono ?_
  rintro e w1 ⟨rfl, hb1⟩
  have U1 : Hid (HasU (w1.alloc (.cells #[.string u.nm, .int .i64 u.m, .int .i64 u.l, .int .i64 u.t, .int .i64 u.k, .int .i64 u.fn, .int .i64 u.fd, .int .i64 u.on, .int .i64 u.od, .int .i64 u.code] 27)) w1.heap.size 27 u) := hasU_new w1 _ u
  have G1 : Hid (Below w.heap.size w (w1.alloc (.cells #[.string u.nm, .int .i64 u.m, .int .i64 u.l, .int .i64 u.t, .int .i64 u.k, .int .i64 u.fn, .int .i64 u.fd, .int .i64 u.on, .int .i64 u.od, .int .i64 u.code] 27))) := (below_trans G0.out hb1).alloc (below_trans G0.out hb1).size _
  have V1 : Hid (Has (w1.alloc (.cells #[.string u.nm, .int .i64 u.m, .int .i64 u.l, .int .i64 u.t, .int .i64 u.k, .int .i64 u.fn, .int .i64 u.fd, .int .i64 u.on, .int .i64 u.od, .int .i64 u.code] 27)) w.heap.size (.int .i64 n) (.int .i64 d)) := (V0.out.below hb1).alloc _
  have R1 : Hid (Has (w1.alloc (.cells #[.string u.nm, .int .i64 u.m, .int .i64 u.l, .int .i64 u.t, .int .i64 u.k, .int .i64 u.fn, .int .i64 u.fd, .int .i64 u.on, .int .i64 u.od, .int .i64 u.code] 27)) (w.heap.size + 1) (.int .i64 0) (.int .i64 0)) := (R0.out.below hb1).alloc _
  have L1 : Hid (w.heap.size + 1 < w1.heap.size) := (R0.out.below hb1).2.2.2.2
  clear hb1 fa G0 V0 R0
  go_wp2_with fail
  refine (fb.out _).mono ?_
  rintro e w2 ⟨rfl, hb2⟩
  have U2 : Hid (HasU (w2.alloc (.cells #[.string v.nm, .int .i64 v.m, .int .i64 v.l, .int .i64 v.t, .int .i64 v.k, .int .i64 v.fn, .int .i64 v.fd, .int .i64 v.on, .int .i64 v.od, .int .i64 v.code] 27)) w1.heap.size 27 u) := (U1.out.below hb2).alloc _
  have Y2 : Hid (HasU (w2.alloc (.cells #[.string v.nm, .int .i64 v.m, .int .i64 v.l, .int .i64 v.t, .int .i64 v.k, .int .i64 v.fn, .int .i64 v.fd, .int .i64 v.on, .int .i64 v.od, .int .i64 v.code] 27)) w2.heap.size 27 v) := hasU_new w2 _ v
  have G2 : Hid (Below w.heap.size w (w2.alloc (.cells #[.string v.nm, .int .i64 v.m, .int .i64 v.l, .int .i64 v.t, .int .i64 v.k, .int .i64 v.fn, .int .i64 v.fd, .int .i64 v.on, .int .i64 v.od, .int .i64 v.code] 27))) := (below_trans G1.out hb2).alloc (below_trans G1.out hb2).size _
  have V2 : Hid (Has (w2.alloc (.cells #[.string v.nm, .int .i64 v.m, .int .i64 v.l, .int .i64 v.t, .int .i64 v.k, .int .i64 v.fn, .int .i64 v.fd, .int .i64 v.on, .int .i64 v.od, .int .i64 v.code] 27)) w.heap.size (.int .i64 n) (.int .i64 d)) := (V1.out.below hb2).alloc _
  have R2 : Hid (Has (w2.alloc (.cells #[.string v.nm, .int .i64 v.m, .int .i64 v.l, .int .i64 v.t, .int .i64 v.k, .int .i64 v.fn, .int .i64 v.fd, .int .i64 v.on, .int .i64 v.od, .int .i64 v.code] 27)) (w.heap.size + 1) (.int .i64 0) (.int .i64 0)) := (R1.out.below hb2).alloc _
  have L2 : Hid (w.heap.size + 1 < w2.heap.size) := (R1.out.below hb2).2.2.2.2
  clear fb U1 G1 V1 R1 hb2
  obtain ⟨x0, x1, x2, x3, x4, -⟩ := U2.out.cells
  clear x0
  obtain ⟨v0, v1, p0, p1, vl⟩ := V2.out
  go_wp2_with fail
  refine (fr.out _).mono ?_
  rintro e w3 ⟨rfl, hb3⟩
  clear v0 v1 p0 p1 vl x1 x2 x3 x4
  have G3 : Hid (Below w.heap.size w w3) := below_trans G2.out hb3
  have U3 : Hid (HasU w3 w1.heap.size 27 u) := U2.out.below hb3
  have Y3 : Hid (HasU w3 w2.heap.size 27 v) := Y2.out.below hb3
  have V3 : Hid (Has w3 w.heap.size (.int .i64 n) (.int .i64 d)) := V2.out.below hb3
  have R3 : Hid (Has w3 (w.heap.size + 1) (.int .i64 0) (.int .i64 0)) := R2.out.below hb3
  clear fr hb3 G2 U2 Y2 V2 R2 hed
  obtain ⟨q0, q1, r0, r1, rl⟩ := R3.out
  obtain ⟨v0, v1, p0, p1, vl⟩ := V3.out
  go_upto_region 11 with fail
  go_cut [7] from 47 to 63 (fun s7 wx => s7 = .int .i64 Z ∧ wx.cell? ⟨w.heap.size + 1, 0, none⟩ = some (.int .i64 X) ∧ wx.cell? ⟨w.heap.size + 1, 1, none⟩ = some (.int .i64 Y) ∧ Below w.heap.size w wx)
  case first =>
    have KS : Hid (CarC w n d u v w1.heap.size w2.heap.size w3) := by
      obtain ⟨c0, c1, c2, c3, c4, c5, c6, c7, c8, c9⟩ := U3.out.cells
      obtain ⟨e0, e1, e2, e3, e4, e5, e6, e7, e8, e9⟩ := Y3.out.cells
      exact ⟨⟨⟨v0, v1⟩, ⟨c5, c6, c7, c8⟩, ⟨e5, e6, e7, e8⟩, G3.out⟩, q0, q1, r0, r1, rl⟩
    have KT : Hid (StayC w n d u v w1.heap.size w2.heap.size w3) := KS.out.1
    clear v0 v1 p0 p1 vl q0 q1 r0 r1 rl U3 Y3 V3 R3 G3
    go_region_held3 (fun x => (x.cell? ⟨w.heap.size, 0, none⟩ = some (.int .i64 n) ∧ x.cell? ⟨w.heap.size, 1, none⟩ = some (.int .i64 d)) ∧
        (x.cell? ⟨w1.heap.size, 5, none⟩ = some (.int .i64 u.fn) ∧ x.cell? ⟨w1.heap.size, 6, none⟩ = some (.int .i64 u.fd) ∧ x.cell? ⟨w1.heap.size, 7, none⟩ = some (.int .i64 u.on) ∧ x.cell? ⟨w1.heap.size, 8, none⟩ = some (.int .i64 u.od)) ∧
        (x.cell? ⟨w2.heap.size, 5, none⟩ = some (.int .i64 v.fn) ∧ x.cell? ⟨w2.heap.size, 6, none⟩ = some (.int .i64 v.fd) ∧ x.cell? ⟨w2.heap.size, 7, none⟩ = some (.int .i64 v.on) ∧ x.cell? ⟨w2.heap.size, 8, none⟩ = some (.int .i64 v.od)) ∧
        Below w.heap.size w x)
      ((show StayC w n d u v w1.heap.size w2.heap.size _; (repeat (first | with_reducible exact KT.out | with_reducible refine StayC.drew ?_ | with_reducible refine StayC.alloc ?_ _ | with_reducible refine StayC.set2 ?_ ?_ ?_ _ _ | exact L1.out | exact L2.out))))
      (first
        | (go_at_call 22; refine (ft.out _).mono ?_; rintro e y ⟨_, rfl, ⟨f50, rfl, h50⟩, hb⟩
           have KS : Hid (CarC w n d u v w1.heap.size w2.heap.size y) := CarC.below (by first | with_reducible exact KS.out | with_reducible exact KS.out.drew) hb
           have KT : Hid (StayC w n d u v w1.heap.size w2.heap.size y) := KS.out.1
           try (have h53 := h53.below hb)
           try (have h56 := h56.below hb)
           try (have h59 := h59.below hb))
        | (go_at_call 23; refine (fp.out _).mono ?_; rintro e y ⟨_, rfl, ⟨f53, rfl, h53⟩, hb⟩
           have KS : Hid (CarC w n d u v w1.heap.size w2.heap.size y) := CarC.below (by first | with_reducible exact KS.out | with_reducible exact KS.out.drew) hb
           have KT : Hid (StayC w n d u v w1.heap.size w2.heap.size y) := KS.out.1
           try (have h50 := h50.below hb)
           try (have h56 := h56.below hb)
           try (have h59 := h59.below hb))
        | (go_at_call 24; refine (fl.out _).mono ?_; rintro e y ⟨_, rfl, ⟨f56, rfl, h56⟩, hb⟩
           have KS : Hid (CarC w n d u v w1.heap.size w2.heap.size y) := CarC.below (by first | with_reducible exact KS.out | with_reducible exact KS.out.drew) hb
           have KT : Hid (StayC w n d u v w1.heap.size w2.heap.size y) := KS.out.1
           try (have h50 := h50.below hb)
           try (have h53 := h53.below hb)
           try (have h59 := h59.below hb))
        | (go_at_call 25; refine (fo.out _).mono ?_; rintro e y ⟨_, rfl, ⟨f59, rfl, h59⟩, hb⟩
           have KS : Hid (CarC w n d u v w1.heap.size w2.heap.size y) := CarC.below (by first | with_reducible exact KS.out | with_reducible exact KS.out.drew) hb
           have KT : Hid (StayC w n d u v w1.heap.size w2.heap.size y) := KS.out.1
           try (have h50 := h50.below hb)
           try (have h53 := h53.below hb)
           try (have h56 := h56.below hb))
        | (go_at_call 21; refine (fw.out (.func (.func 33) #[] #[.pointer (some ⟨f50, 0, none⟩)]) (.func (.func 35) #[] #[.pointer (some ⟨f53, 0, none⟩)]) (.func (.func 35) #[] #[.pointer (some ⟨f56, 0, none⟩)]) (.func (.func 33) #[] #[.pointer (some ⟨f59, 0, none⟩)]) y.heap.size (y.alloc (.cells #[(.func (.func 33) #[] #[.pointer (some ⟨f50, 0, none⟩)]), (.func (.func 35) #[] #[.pointer (some ⟨f53, 0, none⟩)]), (.func (.func 35) #[] #[.pointer (some ⟨f56, 0, none⟩)]), (.func (.func 33) #[] #[.pointer (some ⟨f59, 0, none⟩)])] 58)) ⟨f50, rfl, h50.alloc _⟩ ⟨f53, rfl, h53.alloc _⟩ ⟨f56, rfl, h56.alloc _⟩ ⟨f59, rfl, h59.alloc _⟩ (four_new _ _ _ _ _ _)).mono ?_; rintro e z ⟨rfl, hb⟩
           have KS : Hid (CarC w n d u v w1.heap.size w2.heap.size z) := CarC.below (KS.out.alloc _) hb
           have KT : Hid (StayC w n d u v w1.heap.size w2.heap.size z) := KS.out.1
           obtain ⟨q0, q1, r0, r1, rl⟩ := KS.out.2))
    all_goals
      go_wp2_with fail
      go_meet
      exact ⟨rfl, (wrote2 q0 q1).1, (wrote2 q0 q1).2, below_set2 KS.out.1.2.2.2 (by simp) (by simp)⟩
  case rest =>
    obtain ⟨rfl, k0, k1, kb⟩ := hcut
    have KB : Hid (Below w.heap.size w wc) := kb
    clear kb ft fp fl fo fw v0 v1 p0 p1 vl q0 q1 r0 r1 rl U3 Y3 V3 R3 G3
    go_wp2
    refine bodyPost_ret (res_pair Try.results14 rfl rfl k0 k1) rfl ?_
    exact ⟨rfl, KB.out⟩
end Go.Proofs.Ytbojdlagacanoaa
