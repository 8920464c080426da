/-
  A way of the statement UnitPlays. Conditions: as each says.
-/
import Derived.Test.YtbojdlagacanoaaUnLaw
import Derived.Test.YtbojdlagacanoaaUnNames
import Derived.Test.YtbojdlagacanoaaUnCount
namespace Go.Proofs.Ytbojdlagacanoaa.unitPlays
open Go.RowKit
set_option linter.unusedVariables false

set_option maxRecDepth 100000 in
set_option maxHeartbeats 8000000 in
theorem up_one (a0 a1 : ByteArray) (u v : U) (w : World) (l0 : ¬ (50 : Int) < (a0.size : Int)) (l1 : ¬ (50 : Int) < (a1.size : Int)) (hs0 : a0.size ≤ 140737488351232) (hs1 : a1.size ≤ 140737488351232)
    (f1 : Hid (∀ w, Calls Try.prog 9 #[.string a0] w fun e w' => e = .returned (.tuple #[encU u, .bool true]) ∧ Below w.heap.size w w')) (g1 : Hid (∀ w, Calls Try.prog 10 #[.string a0] w fun e w' => e = .returned (.tuple #[encU u, .bool true]) ∧ Below w.heap.size w w')) (g2 : Hid (∀ w, Calls Try.prog 10 #[.string a1] w fun e w' => e = .returned (.tuple #[encU v, .bool false]) ∧ Below w.heap.size w w')) (gl : Hid (∀ w, Calls Try.prog 12 #[.string a0, .string a1] w fun e w' => e = .returned (.bool false) ∧ Below w.heap.size w w')) (hsd : ∀ w : World, (Op.equalIn 10000 23 (.agg #[.int .i64 u.m, .int .i64 u.l, .int .i64 u.t, .int .i64 u.k]) (.agg #[.int .i64 u.m, .int .i64 u.l, .int .i64 u.t, .int .i64 u.k])).run Try.prog w = .ok true w) (hC : Hid (cntU a0 25 = 1)) :
    Calls Try.prog 3 #[.string a0, .string a1] w fun e w' => e = .returned (.bool true) ∧ Below w.heap.size w w' := by
  have B : Hid (Below w.heap.size w w) := Below.refl _ _
  go_enter Try.func3, Try.ntmps3
  go_wp2_with fail
  refine (awake3_any _).mono ?_
  rintro e w1 ⟨rfl, hb⟩
  replace B : Hid (Below w.heap.size w w1) := below_trans B.out hb
  clear hb 
  go_wp2_with fail
  refine (f1.out _).mono ?_
  rintro e w2 ⟨rfl, hb⟩
  replace B : Hid (Below w.heap.size w w2) := below_trans B.out hb
  clear hb f1
  replace B : Hid (Below w.heap.size w (w2.alloc (.cells #[.string u.nm, .int .i64 u.m, .int .i64 u.l, .int .i64 u.t, .int .i64 u.k, .int .i64 u.fn, .int .i64 u.fd, .int .i64 u.on, .int .i64 u.od, .int .i64 u.code] 27))) := B.out.alloc B.out.size _
  have KU : Hid (HasU (w2.alloc (.cells #[.string u.nm, .int .i64 u.m, .int .i64 u.l, .int .i64 u.t, .int .i64 u.k, .int .i64 u.fn, .int .i64 u.fd, .int .i64 u.on, .int .i64 u.od, .int .i64 u.code] 27)) (w2.heap.size) 27 u) := hasU_new w2 _ u
  go_wp2_with fail
  refine (g1.out _).mono ?_
  rintro e w3 ⟨rfl, hb⟩
  replace KU : Hid (HasU w3 (w2.heap.size) 27 u) := KU.out.below hb
  replace B : Hid (Below w.heap.size w w3) := below_trans B.out hb
  clear hb g1
  replace KU : Hid (HasU (w3.alloc (.cells #[.string u.nm, .int .i64 u.m, .int .i64 u.l, .int .i64 u.t, .int .i64 u.k, .int .i64 u.fn, .int .i64 u.fd, .int .i64 u.on, .int .i64 u.od, .int .i64 u.code] 32)) (w2.heap.size) 27 u) := KU.out.alloc _
  replace B : Hid (Below w.heap.size w (w3.alloc (.cells #[.string u.nm, .int .i64 u.m, .int .i64 u.l, .int .i64 u.t, .int .i64 u.k, .int .i64 u.fn, .int .i64 u.fd, .int .i64 u.on, .int .i64 u.od, .int .i64 u.code] 32))) := B.out.alloc B.out.size _
  have KV : Hid (HasU (w3.alloc (.cells #[.string u.nm, .int .i64 u.m, .int .i64 u.l, .int .i64 u.t, .int .i64 u.k, .int .i64 u.fn, .int .i64 u.fd, .int .i64 u.on, .int .i64 u.od, .int .i64 u.code] 32)) (w3.heap.size) 32 u) := hasU_new w3 _ u
  go_wp2_with fail
  refine (g2.out _).mono ?_
  rintro e w4 ⟨rfl, hb⟩
  replace KU : Hid (HasU w4 (w2.heap.size) 27 u) := KU.out.below hb
  replace KV : Hid (HasU w4 (w3.heap.size) 32 u) := KV.out.below hb
  replace B : Hid (Below w.heap.size w w4) := below_trans B.out hb
  clear hb g2
  replace KU : Hid (HasU (w4.alloc (.cells #[.string v.nm, .int .i64 v.m, .int .i64 v.l, .int .i64 v.t, .int .i64 v.k, .int .i64 v.fn, .int .i64 v.fd, .int .i64 v.on, .int .i64 v.od, .int .i64 v.code] 32)) (w2.heap.size) 27 u) := KU.out.alloc _
  replace KV : Hid (HasU (w4.alloc (.cells #[.string v.nm, .int .i64 v.m, .int .i64 v.l, .int .i64 v.t, .int .i64 v.k, .int .i64 v.fn, .int .i64 v.fd, .int .i64 v.on, .int .i64 v.od, .int .i64 v.code] 32)) (w3.heap.size) 32 u) := KV.out.alloc _
  replace B : Hid (Below w.heap.size w (w4.alloc (.cells #[.string v.nm, .int .i64 v.m, .int .i64 v.l, .int .i64 v.t, .int .i64 v.k, .int .i64 v.fn, .int .i64 v.fd, .int .i64 v.on, .int .i64 v.od, .int .i64 v.code] 32))) := B.out.alloc B.out.size _
  have KW : Hid (HasU (w4.alloc (.cells #[.string v.nm, .int .i64 v.m, .int .i64 v.l, .int .i64 v.t, .int .i64 v.k, .int .i64 v.fn, .int .i64 v.fd, .int .i64 v.on, .int .i64 v.od, .int .i64 v.code] 32)) (w4.heap.size) 32 v) := hasU_new w4 _ v
  go_wp2_with fail
  obtain ⟨KU0, KU1, KU2, KU3, KU4, KU5, KU6, KU7, KU8, KU9⟩ := KU.out.cells
  have KUq0 := cell_regrown KU0
  have KUq1 := cell_regrown KU1
  have KUq2 := cell_regrown KU2
  have KUq3 := cell_regrown KU3
  have KUq4 := cell_regrown KU4
  have KUq5 := cell_regrown KU5
  have KUq6 := cell_regrown KU6
  have KUq7 := cell_regrown KU7
  have KUq8 := cell_regrown KU8
  have KUq9 := cell_regrown KU9
  clear KU0 KU1 KU2 KU3 KU4 KU5 KU6 KU7 KU8 KU9
  obtain ⟨KV0, KV1, KV2, KV3, KV4, KV5, KV6, KV7, KV8, KV9⟩ := KV.out.cells
  have KVq0 := cell_regrown KV0
  have KVq1 := cell_regrown KV1
  have KVq2 := cell_regrown KV2
  have KVq3 := cell_regrown KV3
  have KVq4 := cell_regrown KV4
  have KVq5 := cell_regrown KV5
  have KVq6 := cell_regrown KV6
  have KVq7 := cell_regrown KV7
  have KVq8 := cell_regrown KV8
  have KVq9 := cell_regrown KV9
  clear KV0 KV1 KV2 KV3 KV4 KV5 KV6 KV7 KV8 KV9
  obtain ⟨KW0, KW1, KW2, KW3, KW4, KW5, KW6, KW7, KW8, KW9⟩ := KW.out.cells
  have KWq0 := cell_regrown KW0
  have KWq1 := cell_regrown KW1
  have KWq2 := cell_regrown KW2
  have KWq3 := cell_regrown KW3
  have KWq4 := cell_regrown KW4
  have KWq5 := cell_regrown KW5
  have KWq6 := cell_regrown KW6
  have KWq7 := cell_regrown KW7
  have KWq8 := cell_regrown KW8
  have KWq9 := cell_regrown KW9
  clear KW0 KW1 KW2 KW3 KW4 KW5 KW6 KW7 KW8 KW9
  refine wp_region_quiet_below (by kernel_rfl) (by kernel_rfl) ?_
  repeat (go_big_quiet_step (first
    | (go_at_call 11; first | with_reducible exact Calls.regrown_of (plain_any u.fn u.fd _) | with_reducible exact Calls.regrown_of (plain_any u.on u.od _))
    | (go_at_call 12; first | with_reducible exact Calls.regrown_of (gl.out _))))
  refine wpQuiet_nil ?_
  intro _ hw'
  obtain ⟨⟨dq, osq⟩, hw''⟩ := hw'
  subst hw''
  clear KUq0 KUq1 KUq2 KUq3 KUq4 KUq5 KUq6 KUq7 KUq8 KUq9 KVq0 KVq1 KVq2 KVq3 KVq4 KVq5 KVq6 KVq7 KVq8 KVq9 KWq0 KWq1 KWq2 KWq3 KWq4 KWq5 KWq6 KWq7 KWq8 KWq9 gl hsd
  have hb := below_regrown (w4.alloc (.cells #[.string v.nm, .int .i64 v.m, .int .i64 v.l, .int .i64 v.t, .int .i64 v.k, .int .i64 v.fn, .int .i64 v.fd, .int .i64 v.on, .int .i64 v.od, .int .i64 v.code] 32)) dq osq
  replace KU : Hid (HasU (Sort.grow (redrawn (w4.alloc (.cells #[.string v.nm, .int .i64 v.m, .int .i64 v.l, .int .i64 v.t, .int .i64 v.k, .int .i64 v.fn, .int .i64 v.fd, .int .i64 v.on, .int .i64 v.od, .int .i64 v.code] 32)) dq) osq) (w2.heap.size) 27 u) := KU.out.below hb
  replace KV : Hid (HasU (Sort.grow (redrawn (w4.alloc (.cells #[.string v.nm, .int .i64 v.m, .int .i64 v.l, .int .i64 v.t, .int .i64 v.k, .int .i64 v.fn, .int .i64 v.fd, .int .i64 v.on, .int .i64 v.od, .int .i64 v.code] 32)) dq) osq) (w3.heap.size) 32 u) := KV.out.below hb
  replace KW : Hid (HasU (Sort.grow (redrawn (w4.alloc (.cells #[.string v.nm, .int .i64 v.m, .int .i64 v.l, .int .i64 v.t, .int .i64 v.k, .int .i64 v.fn, .int .i64 v.fd, .int .i64 v.on, .int .i64 v.od, .int .i64 v.code] 32)) dq) osq) (w4.heap.size) 32 v) := KW.out.below hb
  replace B : Hid (Below w.heap.size w (Sort.grow (redrawn (w4.alloc (.cells #[.string v.nm, .int .i64 v.m, .int .i64 v.l, .int .i64 v.t, .int .i64 v.k, .int .i64 v.fn, .int .i64 v.fd, .int .i64 v.on, .int .i64 v.od, .int .i64 v.code] 32)) dq) osq)) := below_trans B.out hb
  clear hb
  generalize Sort.grow (redrawn (w4.alloc (.cells #[.string v.nm, .int .i64 v.m, .int .i64 v.l, .int .i64 v.t, .int .i64 v.k, .int .i64 v.fn, .int .i64 v.fd, .int .i64 v.on, .int .i64 v.od, .int .i64 v.code] 32)) dq) osq = w5 at *
  clear KU KV KW
  go_wp2_with fail
  refine (names_any _).mono ?_
  rintro e wn ⟨g, cap, rfl, hcell, hb⟩
  replace B : Hid (Below w.heap.size w wn) := below_trans B.out hb
  replace hcell : Hid _ := hcell
  clear hb
  go_wp2
  go_loop [12, 13] (fun f i => ∃ k : Nat, k ≤ 25 ∧ i = .int .i64 (k : Int) ∧ f = .int .i64 ((cntU a0 k : Nat) : Int)) (fun _ i => 25 - (intOf i).toNat)
  case atStart => exact ⟨0, by omega, rfl, rfl⟩
  case round =>
    obtain ⟨k, hk, rfl, rfl⟩ := hrel
    by_cases hlt : (k : Int) < 25
    · have hkl : k < tab.length := by rw [tab_len]; omega
      have hc := hcell.out k hkl
      have c0 := cntU_le a0 k
      have c1 : (0 : Int) ≤ ((cntU a0 k : Nat) : Int) ∧ ((cntU a0 k : Nat) : Int) ≤ 25 := ⟨by omega, by omega⟩
      have hy := cntU_yes (s := a0) hkl
      have hn := cntU_no (s := a0) hkl
      generalize tab[k].nm = nm at *
      by_cases hs : nm = a0
      · have hq := nm_yes hs
        have e1 : Hid (cntU a0 (k + 1) = cntU a0 k + 1) := hy hs
        clear hy hn hs c0 hkl
        generalize cntU a0 k = c at *
        go_wp2
        exact ⟨⟨k + 1, by omega, by simp, by rw [e1.out]; simp⟩, by simp [intOf]; omega⟩
      · have hq := nm_no hs
        have e1 : Hid (cntU a0 (k + 1) = cntU a0 k) := hn hs
        clear hy hn hs c0 hkl
        generalize cntU a0 k = c at *
        go_wp2
        exact ⟨⟨k + 1, by omega, by simp, by rw [e1.out]⟩, by simp [intOf]; omega⟩
    · obtain rfl : k = 25 := by omega
      rw [hC.out] at *
      clear hcell
      go_wp2
      go_ret
      exact ⟨rfl, B.out⟩

end Go.Proofs.Ytbojdlagacanoaa.unitPlays
