/-
  The ways through the law StuffParts (layer 11). Conditions: as each says.
-/
import Derived.Test.YtdnlobcfmibeoaaStUl
import Derived.Deep.AppendLies
import Derived.Deep.RegionHeld3
namespace Go.Proofs.Ytdnlobcfmibeoaa
open Go.RowKit
set_option linter.unusedVariables false

/-- append of bytes, of none too -/
theorem append_bytes (w : World) (base : Nat) (v : Value) (l : List Nat) (h : RowB w base v l) (x : Value) (bs : List Nat) (hx : BytesAt w x bs) (hn : l.length + bs.length ≤ 5000) (hbase : base ≤ w.heap.size) (ty : TypeId) :
    ∃ v' w', (Builtin.append_ #[22, 22] ty #[v, x]).run Try.prog w = .ok v' w' ∧ RowB w' base v' (l ++ bs) ∧ w.grownBy w' v.ownBlock := by
  obtain ⟨i0, hi, hz0, hz1, hz2⟩ := info_parts info_u8
  rcases hx with ⟨rfl, rfl⟩ | ⟨g, o, cap, rfl, hb, _⟩
  · refine ⟨v, w, ?_, by rw [List.append_nil]; exact h, ⟨rfl, rfl, rfl, Nat.le_refl _, fun _ _ _ => rfl⟩⟩
    rcases h.form with ⟨rfl, _⟩ | ⟨g, cap, rfl, hc, _⟩
    · simp [Builtin.append_, go_sem]
    · have hc2 : ¬ cap < l.length := by omega
      simp [Builtin.append_, go_sem, hc2]
  · obtain ⟨v', w', h1, h2, h3, _⟩ := run_append_own_at (P := Try.prog) w base 22 ty 5 i0 (.int .u8 0) 1 1 Try.underlying22 hi hz0 hz1 hz2 rfl (by decide) v l.length (u8v l) h ⟨g, o, none⟩ bs.length cap (u8v bs) (by simp)
      (fun j u hu => by
        rw [List.getElem?_map] at hu
        have hj : j < bs.length := by
          rcases Nat.lt_or_ge j bs.length with k | k
          · exact k
          · rw [List.getElem?_eq_none k] at hu; cases hu
        rw [List.getElem?_eq_getElem hj] at hu
        have e : Value.int .u8 (bs[j] : Int) = u := by simpa using hu
        rw [← e, addr_add]
        exact hb j hj) (bytes_one bs) (by unfold maxLen; omega) (by omega) hbase
    refine ⟨v', w', h1, ?_, h3⟩
    unfold RowB
    rw [List.length_append, u8v, List.map_append]
    exact h2
theorem wp_append_bytes {w : World} {o : Oper} {a : Act} {K : Act → World → Prop} {Q : Exit → Act → World → Prop} (s x : Operand)
    (ho : o.op = .call { callee := .builtin .append, args := #[s, x], argTypes := #[22, 22] })
    (base : Nat) (v xv : Value) (l bs : List Nat) (hs : a.eval s = v) (hown : RowB w base v l) (hx : a.eval x = xv) (hxb : BytesAt w xv bs) (hn : l.length + bs.length ≤ 5000) (hbase : base ≤ w.heap.size)
    (h : ∀ v' w', RowB w' base v' (l ++ bs) → w.grownBy w' v.ownBlock → K (a.put o.dst v') w') : o.wp Try.prog a w K Q := by
  obtain ⟨v', w', hr, h2, h3⟩ := append_bytes w base v l hown xv bs hxb hn hbase o.type
  unfold Oper.wp execOp
  simp only [ho, resolve, invoke, builtin, Sem.run_bind, Sem.run_pure, Result.andThen_ok, List.map_toArray, List.map_cons, List.map_nil, hs, hx, hr]
  exact h v' w' h2 h3
theorem step_append_bytes {w : World} {ops : Array Oper} {o : Oper} {a : Act} {K : Act → World → Prop} {Q : Exit → Act → World → Prop} {E : Prop} (hgd : o.guard = none) (s x : Operand)
    (ho : o.op = .call { callee := .builtin .append, args := #[s, x], argTypes := #[22, 22] })
    (base : Nat) (v xv : Value) (l bs : List Nat) (hs : a.eval s = v) (hown : RowB w base v l) (hx : a.eval x = xv) (hxb : BytesAt w xv bs) (hn : l.length + bs.length ≤ 5000) (hbase : base ≤ w.heap.size)
    (h : ∀ v' w', RowB w' base v' (l ++ bs) → w.grownBy w' v.ownBlock → K (a.put o.dst v') w') : if Region.wanted o (yielded ops a.tmps) = true then Oper.wp Try.prog o a w K Q else E := by
  have hw : Region.wanted o (yielded ops a.tmps) = true := by simp [Region.wanted, hgd]
  rw [if_pos hw]
  exact wp_append_bytes s x ho base v xv l bs hs hown hx hxb hn hbase h
theorem rowB_zero (z : World) (base : Nat) (h : base ≤ z.heap.size) : RowB (z.alloc (.cells #[] 5)) base (.slice (some ⟨z.heap.size, 0, none⟩) 0 0) [] :=
  World.ownsRow_made (base := base) (size := 1) (e := 5) z #[] 0 h (by unfold maxLen; omega) rfl
theorem RowB.below {w x : World} {base : Nat} {v : Value} {l : List Nat} (h : RowB w base v l) (k : Below w.heap.size w x) : RowB x base v l := by
  obtain ⟨h1, h2⟩ := h
  refine ⟨h1, ?_⟩
  rcases h2 with h2 | ⟨g, cap, cur, e1, e2, e3, e4⟩
  · exact .inl h2
  · exact .inr ⟨g, cap, cur, e1, e2, (k.block g (Array.getElem?_eq_some_iff.1 e3).1).trans e3, e4⟩
/-- what is grown lies behind -/
theorem grown_low {w x y : World} {base : Nat} {v : Value} {l : List Nat} (hb : Below base w x) (hs : base ≤ x.heap.size) (h : RowB x base v l) (hg : x.grownBy y v.ownBlock) : Below base w y :=
  hb.grown hg hs (fun k ek => (World.ownsRow.lt h k ek).1)
theorem MkB.grown {z y : World} {B s e x base : Nat} {v : Value} {l : List Nat} (hm : MkB z B s e x) (hr : RowB z base v l) (hg : z.grownBy y v.ownBlock) : MkB y B s e x :=
  hm.block (hg.block B (Array.getElem?_eq_some_iff.1 hm).1 (by
    intro e'
    rcases hr.2 with ⟨e, _⟩ | ⟨g, cap, cur, e, _, hgb, _⟩
    · rw [e] at e'; cases e'
    · rw [e] at e'
      have : B = g := by simpa [Value.ownBlock] using e'
      subst this
      rw [show z.heap[B]? = _ from hm] at hgb
      cases hgb))
theorem MkB.low {z y : World} {B s e x : Nat} (hm : MkB z B s e x) (hb : Below z.heap.size z y) : MkB y B s e x := hm.block (hb.block B (Array.getElem?_eq_some_iff.1 hm).1)
theorem all_app {a b : List Nat} (ha : AllBytes a) (hb : AllBytes b) : AllBytes (a ++ b) := fun c hc => (List.mem_append.1 hc).elim (ha c) (hb c)
set_option maxRecDepth 100000 in
set_option maxHeartbeats 4000000 in
theorem parts_la (w : World) (s e x : Nat) (hs : s < 256) (he : e < 256) (hx : x < 256) (p : Option Addr) (n cap : Nat) (p2 : Option Addr) (n2 cap2 : Nat) (hl : 500 < (n : Int)) (hm : (n : Int) ≤ 9223372036854775807) (hm2 : (n2 : Int) ≤ 9223372036854775807) :
    Calls Try.prog 5 #[.int .u8 (s : Int), .int .u8 (e : Int), .int .u8 (x : Int), .slice p n cap, .slice p2 n2 cap2] w fun E w' => E = .returned (.bool true) ∧ Below w.heap.size w w' := by
  go_enter Try.func5, Try.ntmps5
  go_wp2_with fail
  refine (awake11 _).mono ?_
  rintro E w1 ⟨rfl, hB⟩
  have B : Hid (Below w.heap.size w w1) := hB
  clear hB
  go_wp2_with fail
  refine (awake11 _).mono ?_
  rintro E w2 ⟨rfl, hB⟩
  replace B : Hid (Below w.heap.size w w2) := belowT B.out hB
  clear hB
  go_wp2
  go_ret
  exact ⟨rfl, B.out⟩
set_option maxRecDepth 100000 in
set_option maxHeartbeats 4000000 in
theorem parts_lb (w : World) (s e x : Nat) (hs : s < 256) (he : e < 256) (hx : x < 256) (p : Option Addr) (n cap : Nat) (p2 : Option Addr) (n2 cap2 : Nat) (hl : (n : Int) ≤ 500) (hl2 : 500 < (n2 : Int)) (hm2 : (n2 : Int) ≤ 9223372036854775807) :
    Calls Try.prog 5 #[.int .u8 (s : Int), .int .u8 (e : Int), .int .u8 (x : Int), .slice p n cap, .slice p2 n2 cap2] w fun E w' => E = .returned (.bool true) ∧ Below w.heap.size w w' := by
  go_enter Try.func5, Try.ntmps5
  go_wp2_with fail
  refine (awake11 _).mono ?_
  rintro E w1 ⟨rfl, hB⟩
  have B : Hid (Below w.heap.size w w1) := hB
  clear hB
  go_wp2_with fail
  refine (awake11 _).mono ?_
  rintro E w2 ⟨rfl, hB⟩
  replace B : Hid (Below w.heap.size w w2) := belowT B.out hB
  clear hB
  go_wp2
  go_ret
  exact ⟨rfl, B.out⟩
set_option maxRecDepth 100000 in
set_option maxHeartbeats 4000000 in
theorem parts_yes (w : World) (s e x : Nat) (hs : s < 256) (he : e < 256) (hx : x < 256) (p : Option Addr) (ls : List Nat) (cap : Nat) (h : BytesAt w (.slice p ls.length cap) ls) (ha : AllBytes ls) (hl : ls.length ≤ 500) (p2 : Option Addr) (bs : List Nat) (cap2 : Nat) (h2 : BytesAt w (.slice p2 bs.length cap2) bs) (hb : AllBytes bs) (hl2 : bs.length ≤ 500) :
    Calls Try.prog 5 #[.int .u8 (s : Int), .int .u8 (e : Int), .int .u8 (x : Int), .slice p ls.length cap, .slice p2 bs.length cap2] w fun E w' => E = .returned (.bool true) ∧ Below w.heap.size w w' := by
  have h500 : (ls.length : Int) ≤ 500 := by omega
  have h501 : (bs.length : Int) ≤ 500 := by omega
  go_enter Try.func5, Try.ntmps5
  go_wp2_with fail
  refine (awake11 _).mono ?_
  rintro E w1 ⟨rfl, hB⟩
  have B : Hid (Below w.heap.size w (w1.alloc (.cells #[.int .u8 (s : Int), .int .u8 (e : Int), .int .u8 (x : Int)] 24))) := hB.alloc hB.size _
  have M : Hid (MkB (w1.alloc (.cells #[.int .u8 (s : Int), .int .u8 (e : Int), .int .u8 (x : Int)] 24)) w1.heap.size s e x) := mkB_new _ _ _ _ _ rfl
  have hbs := hB.size
  clear hB
  go_upto_region 4 with fail
  generalize hN : w1.heap.size = N at *
  generalize w1.alloc (.cells #[.int .u8 (s : Int), .int .u8 (e : Int), .int .u8 (x : Int)] 24) = y at *
  clear hN hbs
  obtain ⟨m0, m1, m2⟩ := M.out.cells
  have B0 : Hid (Below w.heap.size w (y.drew.alloc (.cells #[] 5))) := (B.out.drew).alloc B.out.size _
  have R0 : Hid (RowB (y.drew.alloc (.cells #[] 5)) w.heap.size (.slice (some ⟨y.heap.size, 0, none⟩) 0 0) []) := rowB_zero y.drew w.heap.size B.out.size
  have M0 : Hid (MkB (y.drew.alloc (.cells #[] 5)) N s e x) := MkB.alloc (show MkB y.drew N s e x from M.out) _
  have cS : Hid (∀ z v, BytesAt z v (ls ++ bs) → Calls Try.prog 10 #[.agg #[.int .u8 (s : Int), .int .u8 (e : Int), .int .u8 (x : Int)], v] z fun E w' => ∃ u, E = .returned u ∧ RowB w' z.heap.size u (stuL s e x (ls ++ bs)) ∧ Below z.heap.size z w') := fun z v hv => stuff_any z s e x hs he hx v _ hv (all_app ha hb) (by simp; omega)
  go_region_held3 (fun z => z.cell? ⟨N, 0, none⟩ = some (.int .u8 (s : Int)) ∧ z.cell? ⟨N, 1, none⟩ = some (.int .u8 (e : Int)) ∧ z.cell? ⟨N, 2, none⟩ = some (.int .u8 (x : Int)))
    (first
      | go_keep
      | exact M6.out.cells
      | exact M5.out.cells
      | exact M3.out.cells)
    ((first
      | (refine step_append_bytes (by rfl) _ _ (by rfl) w.heap.size _ _ [] ls (by rfl) R0.out (by rfl) (h.below B0.out) (by simp; omega) B0.out.size ?_; intro v3 z3 r3 g3; have B3 : Hid (Below w.heap.size w z3) := grown_low B0.out B0.out.size R0.out g3; have M3 : Hid (MkB z3 N s e x) := M0.out.grown R0.out g3; have R3 : Hid (RowB z3 w.heap.size v3 ls) := r3; clear r3 g3)
      | (refine step_append_bytes (by rfl) _ _ (by rfl) w.heap.size _ _ ls bs (by rfl) R3.out (by rfl) (h2.below B3.out) (by omega) B3.out.size ?_; intro v5 z5 r5 g5; have B5 : Hid (Below w.heap.size w z5) := grown_low B3.out B3.out.size R3.out g5; have M5 : Hid (MkB z5 N s e x) := M3.out.grown R3.out g5; have R5 : Hid (RowB z5 w.heap.size v5 (ls ++ bs)) := r5; clear r5 g5)
      | (go_at_call 10; refine (cS.out _ _ R5.out.at).mono ?_; rintro E z6 ⟨v6, rfl, r6, hb6⟩; have B6 : Hid (Below w.heap.size w z6) := belowT B5.out hb6; have M6 : Hid (MkB z6 N s e x) := M5.out.low hb6; have R6 : Hid (BytesAt z6 v6 (stuL s e x (ls ++ bs))) := r6.at; clear r6 hb6)))
  clear B0 B3 B5 M0 M3 M5 R0 R3 R5 cS m0 m1 m2 M B
  rw [stu_app] at R6
  obtain ⟨m0, m1, m2⟩ := M6.out.cells
  have cA : Hid (∀ z, Below z6.heap.size z6 z → Calls Try.prog 10 #[.agg #[.int .u8 (s : Int), .int .u8 (e : Int), .int .u8 (x : Int)], .slice p ls.length cap] z fun E w' => ∃ u, E = .returned u ∧ RowB w' z.heap.size u (stuL s e x ls) ∧ Below z.heap.size z w') := fun z hz => stuff_any z s e x hs he hx _ _ (h.below (belowT B6.out hz)) ha (by omega)
  have cB : Hid (∀ z, Below z6.heap.size z6 z → Calls Try.prog 10 #[.agg #[.int .u8 (s : Int), .int .u8 (e : Int), .int .u8 (x : Int)], .slice p2 bs.length cap2] z fun E w' => ∃ u, E = .returned u ∧ RowB w' z.heap.size u (stuL s e x bs) ∧ Below z.heap.size z w') := fun z hz => stuff_any z s e x hs he hx _ _ (h2.below (belowT B6.out hz)) hb (by omega)
  have hA4 := (stu_most s e x ls).2
  have hB4 := (stu_most s e x bs).2
  have LD : Hid (Below z6.heap.size z6 z6.drew) := (Below.refl _ _).drew
  have LA : Hid (Below z6.heap.size z6 (z6.drew.alloc (.cells #[] 5))) := LD.out.alloc (Nat.le_refl _) _
  have RA : Hid (RowB (z6.drew.alloc (.cells #[] 5)) z6.heap.size (.slice (some ⟨z6.heap.size, 0, none⟩) 0 0) []) := rowB_zero z6.drew z6.heap.size (Nat.le_refl _)
  generalize stuL s e x ls = A at *
  generalize stuL s e x bs = C at *
  have MD : Hid (MkB z6.drew N s e x) := M6.out
  have MA : Hid (MkB (z6.drew.alloc (.cells #[] 5)) N s e x) := MkB.alloc MD.out _
  go_upto_region 5 with fail
  go_region_held3 (fun z => z.cell? ⟨N, 0, none⟩ = some (.int .u8 (s : Int)) ∧ z.cell? ⟨N, 1, none⟩ = some (.int .u8 (e : Int)) ∧ z.cell? ⟨N, 2, none⟩ = some (.int .u8 (x : Int)))
    (first
      | go_keep
      | exact Mq.out.cells
      | exact M9.out.cells
      | exact M8.out.cells
      | exact M7.out.cells
      | exact Mz.out.cells)
    ((first
      | (refine step_append_bytes (by rfl) _ _ (by rfl) z6.heap.size _ _ A C (by rfl) R9.out (by rfl) A9.out (by omega) L9.out.size ?_; intro vq zq rq gq; have Lq : Hid (Below z6.heap.size z6 zq) := grown_low L9.out L9.out.size R9.out gq; have Mq : Hid (MkB zq N s e x) := M9.out.grown R9.out gq; have Rq : Hid (BytesAt zq vq (A ++ C)) := rq.at; clear rq gq)
      | (refine step_append_bytes (by rfl) _ _ (by rfl) z6.heap.size _ _ [] A (by rfl) Rz.out (by rfl) Az.out (by simp; omega) Lz.out.size ?_; intro v8 z8 r8 g8; have L8 : Hid (Below z6.heap.size z6 z8) := grown_low Lz.out Lz.out.size Rz.out g8; have M8 : Hid (MkB z8 N s e x) := Mz.out.grown Rz.out g8; have R8 : Hid (RowB z8 z6.heap.size v8 A) := r8; clear r8 g8)
      | (go_at_call 10; refine (cB.out _ L8.out).mono ?_; rintro E z9 ⟨v9, rfl, r9, hb9⟩; have L9 : Hid (Below z6.heap.size z6 z9) := belowT L8.out hb9; have M9 : Hid (MkB z9 N s e x) := M8.out.low hb9; have R9 : Hid (RowB z9 z6.heap.size v8 A) := R8.out.below hb9; have A9 : Hid (BytesAt z9 v9 C) := r9.at; clear r9 hb9)
      | (go_at_call 10; refine (cA.out _ LA.out).mono ?_; rintro E z7 ⟨v7, rfl, r7, hb7⟩; have Lz : Hid (Below z6.heap.size z6 z7) := belowT LA.out hb7; have Mz : Hid (MkB z7 N s e x) := MA.out.low hb7; have Rz : Hid (RowB z7 z6.heap.size (.slice (some ⟨z6.heap.size, 0, none⟩) 0 0) []) := RA.out.below hb7; have Az : Hid (BytesAt z7 v7 A) := r7.at; clear r7 hb7)
      | (go_at_call 10; refine (cA.out _ LD.out).mono ?_; rintro E z7 ⟨v7, rfl, r7, hb7⟩; have M7 : Hid (MkB z7 N s e x) := MD.out.low hb7; have L7 : Below z6.heap.size z6 z7 := belowT LD.out hb7; have Lz : Hid (Below z6.heap.size z6 (z7.alloc (.cells #[] 5))) := L7.alloc L7.size _; have Mz : Hid (MkB (z7.alloc (.cells #[] 5)) N s e x) := M7.out.alloc _; have Rz : Hid (RowB (z7.alloc (.cells #[] 5)) z6.heap.size (.slice (some ⟨z7.heap.size, 0, none⟩) 0 0) []) := rowB_zero z7 z6.heap.size L7.size; have Az : Hid (BytesAt (z7.alloc (.cells #[] 5)) v7 A) := r7.at.below ((Below.refl _ _).alloc (Nat.le_refl _) _); clear r7 hb7 L7)))
  all_goals
    have B : Hid (Below w.heap.size w zq) := belowT B6.out Lq.out
    replace R6 : Hid (BytesAt zq v6 (A ++ C)) := BytesAt.below R6.out Lq.out
    have k1 := conv_at R6.out
    have k2 := conv_at Rq.out
    clear R6 Rq cA cB LA LD RA MA MD M6 B6 Lq Mq
    generalize strOf (A ++ C) = S at *
    go_wp2
    go_ret
    exact ⟨rfl, B.out⟩
theorem parts_any (w : World) (s e x : Nat) (hs : s < 256) (he : e < 256) (hx : x < 256) (v : Value) (ls : List Nat) (hv : BytesV w v ls) (ha : AllBytes ls) (v2 : Value) (bs : List Nat) (hv2 : BytesV w v2 bs) (hb : AllBytes bs) :
    Calls Try.prog 5 #[.int .u8 (s : Int), .int .u8 (e : Int), .int .u8 (x : Int), v, v2] w fun E w' => E = .returned (.bool true) ∧ Below w.heap.size w w' := by
  have hm := hv.len
  have h := hv.at
  obtain ⟨p, cap, rfl⟩ := h.slice
  have hm2 := hv2.len
  have h2 := hv2.at
  obtain ⟨p2, cap2, rfl⟩ := h2.slice
  by_cases hl : ls.length ≤ 500
  · by_cases hl2 : bs.length ≤ 500
    · exact parts_yes w s e x hs he hx p ls cap h ha hl p2 bs cap2 h2 hb hl2
    · exact parts_lb w s e x hs he hx p _ cap p2 _ cap2 (by omega) (by omega) hm2
  · exact parts_la w s e x hs he hx p _ cap p2 _ cap2 (by omega) hm hm2
end Go.Proofs.Ytdnlobcfmibeoaa
