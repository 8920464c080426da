/-
  The ways through the law on bytes the other way round (layer 6), out of the contracts. Conditions: as each says.
-/
import Derived.Test.YtiimmebcmehnhaaDoorBitLawC
namespace Go.Proofs.YtiimmebcmehnhaaDoor
open Go.RowKit
set_option linter.unusedVariables false

theorem drop_revN (l : List Nat) {j : Nat} (h : j < l.length) : (l.drop j).reverse = (l.drop (j + 1)).reverse ++ [l[j]] := by
  rw [List.drop_eq_getElem_cons h, List.reverse_cons]
theorem cell_oneB (w : World) (b : Int) : ∀ (j : Nat) (u : Value), ([.int .u8 b] : List Value)[j]? = some u → (w.alloc (.cells #[.int .u8 b] 5)).cell? ((⟨w.heap.size, 0, none⟩ : Addr).add j) = some u := by
  intro j u h
  cases j with
  | zero => simp at h; subst h; simp [Addr.add]
  | succ j => simp at h
/-- the row so far, and what was there -/
structure TuSt (w x : World) (y : Nat) (o : Value) (l : List Nat) : Prop where
  r : RowB x y o l
  b : Below w.heap.size w x
  l : w.heap.size ≤ y
  u : y ≤ x.heap.size
set_option maxRecDepth 100000 in
set_option maxHeartbeats 4000000 in
theorem bturn_u (w : World) (g o cap : Nat) (bs : List Nat) (hl : 1 ≤ (bs.length : Int) ∧ (bs.length : Int) ≤ 4) (HC : Hid (BytesIn w g o bs ∧ g < w.heap.size)) (N : Int)  (aw : AwC6) (cA : RdAt w kBe (.slice (some ⟨g, o, none⟩) bs.length cap) N 0) (cB : RdOf kLe bs.reverse N 0) (cC : RdAt w kBe (.slice (some ⟨g, o, none⟩) bs.length cap) N 0) :
    Calls Tryd.prog 6 #[.slice (some ⟨g, o, none⟩) bs.length cap, .bool false] w fun e w' => e = .returned (.bool true) ∧ Below w.heap.size w w' := by
  obtain ⟨i0, hi, hz0, hz1, hz2⟩ := info_parts info_u8
  go_enter Tryd.func6, Tryd.ntmps6
  go_wp2_with fail
  refine (aw _).mono ?_
  rintro e w1 ⟨rfl, hb⟩
  have B : Hid (Below w.heap.size w w1) := hb
  clear hb aw
  go_wp2
  go_loopw [5, 6] (fun c i wr => ∃ j : Nat, (j : Int) ≤ (bs.length : Int) ∧ i = .int .i64 ((j : Int) - 1) ∧ Hid (TuSt w wr w1.heap.size c (bs.drop j).reverse)) (fun _ i _ => (intOf i + 1).toNat)
  case atStart => exact ⟨bs.length, by omega, by simp, by unfold Hid; rw [List.drop_length]; exact ⟨World.ownsRow_nil _ _ _ _, B.out, B.out.size, Nat.le_refl _⟩⟩
  case round =>
    obtain ⟨j, hj, rfl, st⟩ := hrel
    cases j with
    | zero =>
      have Y : Hid (BytesV wr u5 bs.reverse) := st.out.r.v
      replace B : Hid (Below w.heap.size w wr) := st.out.b
      clear st hj HC
      go_wp2_with fail
      refine (cA _ B.out).mono ?_
      rintro e w2 ⟨rfl, hb⟩
      replace B : Hid (Below w.heap.size w w2) := belowT B.out hb
      replace Y : Hid (BytesV w2 u5 bs.reverse) := Y.out.below hb
      clear hb cA
      go_wp2_with fail
      refine (cB _ _ Y.out).mono ?_
      rintro e w3 ⟨rfl, hb⟩
      replace B : Hid (Below w.heap.size w w3) := belowT B.out hb
      clear hb cB Y
      go_wp2_with fail
      refine (cC _ B.out).mono ?_
      rintro e w4 ⟨rfl, hb⟩
      replace B : Hid (Below w.heap.size w w4) := belowT B.out hb
      clear hb cC
      go_wp2
      go_ret
      exact ⟨rfl, B.out⟩
    | succ j =>
      have ej : ((j + 1 : Nat) : Int) - 1 = (j : Int) := by omega
      have hjl : j < bs.length := (by omega)
      have hji : (j : Int) < (bs.length : Int) := by omega
      have hcell : wr.cell? ⟨g, o + j, none⟩ = some (.int .u8 (bs[j] : Int)) := HC.out.1.at HC.out.2 st.out.b j hjl
      have hrev : Hid ((bs.drop j).reverse = (bs.drop (j + 1)).reverse ++ [bs[j]]) := drop_revN bs hjl
      have hlen2 : (bs.drop (j + 1)).reverse.length ≤ 40 := by simp; omega
      have h63 : (bs.drop (j + 1)).reverse.length + 1 ≤ maxLen := by unfold maxLen; omega
      have hby : ((bs.drop (j + 1)).reverse.length + 1) * 1 ≤ 140737488355328 := by omega
      have hsz := st.out.u
      clear cA cB cC B
      generalize bs[j] = b at *
      rw [ej]
      go_wp2_with (at_builtin; refine wpList_append_own _ rfl _ _ 22 rfl w1.heap.size 5 i0 (.int .u8 0) 1 1 Tryd.underlying22 hi hz0 hz1 hz2 rfl (by decide) _ _ _ rfl (World.ownsRow.alloc st.out.r _) ⟨wr.heap.size, 0, none⟩ 1 1 [.int .u8 (b : Int)] rfl rfl (cell_oneB _ _) (by simp [Value.oneCell']) h63 hby (by simp; omega) ?_; intro v' w2 hown' hgrow _)
      have hr1 : TuSt w w2 w1.heap.size v' (bs.drop j).reverse := by
        have gr : Below w1.heap.size wr w2 := ((Below.refl _ wr).alloc hsz _).grown hgrow (by simp; omega) (fun q eq => (World.ownsRow.lt st.out.r q eq).1)
        refine ⟨?_, ⟨gr.os.trans st.out.b.os, gr.tape.trans st.out.b.tape, gr.output.trans st.out.b.output, Nat.le_trans st.out.b.size gr.size, fun k hk => (gr.block k (Nat.lt_of_lt_of_le hk st.out.l)).trans (st.out.b.block k hk)⟩, st.out.l, Nat.le_trans hsz gr.size⟩
        unfold RowB
        rw [hrev.out, List.length_append]
        unfold u8v
        rw [List.map_append]
        exact hown'
      exact ⟨⟨j, by omega, by simp, hr1⟩, by simp [intOf]⟩

set_option maxRecDepth 100000 in
set_option maxHeartbeats 4000000 in
theorem bturn_se (w : World) (g o cap : Nat) (bs : List Nat) (hl : 1 ≤ (bs.length : Int) ∧ (bs.length : Int) ≤ 4) (HC : Hid (BytesIn w g o bs ∧ g < w.heap.size)) (N : Int)  (aw : AwC6) (cA : RdAt w kSbe (.slice (some ⟨g, o, none⟩) bs.length cap) N 0) (cB : RdOf kSle bs.reverse N 0) (cC : RdAt w kBe (.slice (some ⟨g, o, none⟩) bs.length cap) N 0) :
    Calls Tryd.prog 6 #[.slice (some ⟨g, o, none⟩) bs.length cap, .bool true] w fun e w' => e = .returned (.bool true) ∧ Below w.heap.size w w' := by
  obtain ⟨i0, hi, hz0, hz1, hz2⟩ := info_parts info_u8
  go_enter Tryd.func6, Tryd.ntmps6
  go_wp2_with fail
  refine (aw _).mono ?_
  rintro e w1 ⟨rfl, hb⟩
  have B : Hid (Below w.heap.size w w1) := hb
  clear hb aw
  go_wp2
  go_loopw [5, 6] (fun c i wr => ∃ j : Nat, (j : Int) ≤ (bs.length : Int) ∧ i = .int .i64 ((j : Int) - 1) ∧ Hid (TuSt w wr w1.heap.size c (bs.drop j).reverse)) (fun _ i _ => (intOf i + 1).toNat)
  case atStart => exact ⟨bs.length, by omega, by simp, by unfold Hid; rw [List.drop_length]; exact ⟨World.ownsRow_nil _ _ _ _, B.out, B.out.size, Nat.le_refl _⟩⟩
  case round =>
    obtain ⟨j, hj, rfl, st⟩ := hrel
    cases j with
    | zero =>
      have Y : Hid (BytesV wr u5 bs.reverse) := st.out.r.v
      replace B : Hid (Below w.heap.size w wr) := st.out.b
      clear st hj HC
      go_wp2_with fail
      refine (cA _ B.out).mono ?_
      rintro e w2 ⟨rfl, hb⟩
      replace B : Hid (Below w.heap.size w w2) := belowT B.out hb
      replace Y : Hid (BytesV w2 u5 bs.reverse) := Y.out.below hb
      clear hb cA
      go_wp2_with fail
      refine (cB _ _ Y.out).mono ?_
      rintro e w3 ⟨rfl, hb⟩
      replace B : Hid (Below w.heap.size w w3) := belowT B.out hb
      clear hb cB Y
      go_wp2_with fail
      refine (cC _ B.out).mono ?_
      rintro e w4 ⟨rfl, hb⟩
      replace B : Hid (Below w.heap.size w w4) := belowT B.out hb
      clear hb cC
      go_wp2
      go_ret
      exact ⟨rfl, B.out⟩
    | succ j =>
      have ej : ((j + 1 : Nat) : Int) - 1 = (j : Int) := by omega
      have hjl : j < bs.length := (by omega)
      have hji : (j : Int) < (bs.length : Int) := by omega
      have hcell : wr.cell? ⟨g, o + j, none⟩ = some (.int .u8 (bs[j] : Int)) := HC.out.1.at HC.out.2 st.out.b j hjl
      have hrev : Hid ((bs.drop j).reverse = (bs.drop (j + 1)).reverse ++ [bs[j]]) := drop_revN bs hjl
      have hlen2 : (bs.drop (j + 1)).reverse.length ≤ 40 := by simp; omega
      have h63 : (bs.drop (j + 1)).reverse.length + 1 ≤ maxLen := by unfold maxLen; omega
      have hby : ((bs.drop (j + 1)).reverse.length + 1) * 1 ≤ 140737488355328 := by omega
      have hsz := st.out.u
      clear cA cB cC B
      generalize bs[j] = b at *
      rw [ej]
      go_wp2_with (at_builtin; refine wpList_append_own _ rfl _ _ 22 rfl w1.heap.size 5 i0 (.int .u8 0) 1 1 Tryd.underlying22 hi hz0 hz1 hz2 rfl (by decide) _ _ _ rfl (World.ownsRow.alloc st.out.r _) ⟨wr.heap.size, 0, none⟩ 1 1 [.int .u8 (b : Int)] rfl rfl (cell_oneB _ _) (by simp [Value.oneCell']) h63 hby (by simp; omega) ?_; intro v' w2 hown' hgrow _)
      have hr1 : TuSt w w2 w1.heap.size v' (bs.drop j).reverse := by
        have gr : Below w1.heap.size wr w2 := ((Below.refl _ wr).alloc hsz _).grown hgrow (by simp; omega) (fun q eq => (World.ownsRow.lt st.out.r q eq).1)
        refine ⟨?_, ⟨gr.os.trans st.out.b.os, gr.tape.trans st.out.b.tape, gr.output.trans st.out.b.output, Nat.le_trans st.out.b.size gr.size, fun k hk => (gr.block k (Nat.lt_of_lt_of_le hk st.out.l)).trans (st.out.b.block k hk)⟩, st.out.l, Nat.le_trans hsz gr.size⟩
        unfold RowB
        rw [hrev.out, List.length_append]
        unfold u8v
        rw [List.map_append]
        exact hown'
      exact ⟨⟨j, by omega, by simp, hr1⟩, by simp [intOf]⟩

set_option maxRecDepth 100000 in
set_option maxHeartbeats 4000000 in
theorem bturn_s1 (w : World) (g o cap : Nat) (bs : List Nat) (hlen : Hid (bs.length = 1)) (HC : Hid (BytesIn w g o bs ∧ g < w.heap.size)) (N U : Int) (q0 : N < 0) (q1 : N + 256 = U) (q2 : (N == U) = false) (q3 : -4294967296 ≤ N) (aw : AwC6) (cA : RdAt w kSbe (.slice (some ⟨g, o, none⟩) 1 cap) N 0) (cB : RdOf kSle bs.reverse N 0) (cC : RdAt w kBe (.slice (some ⟨g, o, none⟩) 1 cap) U 0) :
    Calls Tryd.prog 6 #[.slice (some ⟨g, o, none⟩) 1 cap, .bool true] w fun e w' => e = .returned (.bool true) ∧ Below w.heap.size w w' := by
  obtain ⟨i0, hi, hz0, hz1, hz2⟩ := info_parts info_u8
  go_enter Tryd.func6, Tryd.ntmps6
  go_wp2_with fail
  refine (aw _).mono ?_
  rintro e w1 ⟨rfl, hb⟩
  have B : Hid (Below w.heap.size w w1) := hb
  clear hb aw
  go_wp2
  go_loopw [5, 6] (fun c i wr => ∃ j : Nat, (j : Int) ≤ 1 ∧ i = .int .i64 ((j : Int) - 1) ∧ Hid (TuSt w wr w1.heap.size c (bs.drop j).reverse)) (fun _ i _ => (intOf i + 1).toNat)
  case atStart => exact ⟨1, by omega, by simp, by unfold Hid; rw [← hlen.out, List.drop_length]; exact ⟨World.ownsRow_nil _ _ _ _, B.out, B.out.size, Nat.le_refl _⟩⟩
  case round =>
    obtain ⟨j, hj, rfl, st⟩ := hrel
    cases j with
    | zero =>
      have Y : Hid (BytesV wr u5 bs.reverse) := st.out.r.v
      replace B : Hid (Below w.heap.size w wr) := st.out.b
      clear st hj HC
      go_wp2_with fail
      refine (cA _ B.out).mono ?_
      rintro e w2 ⟨rfl, hb⟩
      replace B : Hid (Below w.heap.size w w2) := belowT B.out hb
      replace Y : Hid (BytesV w2 u5 bs.reverse) := Y.out.below hb
      clear hb cA
      go_wp2_with fail
      refine (cB _ _ Y.out).mono ?_
      rintro e w3 ⟨rfl, hb⟩
      replace B : Hid (Below w.heap.size w w3) := belowT B.out hb
      clear hb cB Y
      go_wp2_with fail
      refine (cC _ B.out).mono ?_
      rintro e w4 ⟨rfl, hb⟩
      replace B : Hid (Below w.heap.size w w4) := belowT B.out hb
      clear hb cC
      go_wp2
      go_ret
      exact ⟨rfl, B.out⟩
    | succ j =>
      have ej : ((j + 1 : Nat) : Int) - 1 = (j : Int) := by omega
      have hjl : j < bs.length := (by have := hlen.out; omega)
      have hji : (j : Int) < 1 := by omega
      have hcell : wr.cell? ⟨g, o + j, none⟩ = some (.int .u8 (bs[j] : Int)) := HC.out.1.at HC.out.2 st.out.b j hjl
      have hrev : Hid ((bs.drop j).reverse = (bs.drop (j + 1)).reverse ++ [bs[j]]) := drop_revN bs hjl
      have hlen2 : (bs.drop (j + 1)).reverse.length ≤ 40 := by simp; have := hlen.out; omega
      have h63 : (bs.drop (j + 1)).reverse.length + 1 ≤ maxLen := by unfold maxLen; omega
      have hby : ((bs.drop (j + 1)).reverse.length + 1) * 1 ≤ 140737488355328 := by omega
      have hsz := st.out.u
      clear cA cB cC B
      generalize bs[j] = b at *
      rw [ej]
      go_wp2_with (at_builtin; refine wpList_append_own _ rfl _ _ 22 rfl w1.heap.size 5 i0 (.int .u8 0) 1 1 Tryd.underlying22 hi hz0 hz1 hz2 rfl (by decide) _ _ _ rfl (World.ownsRow.alloc st.out.r _) ⟨wr.heap.size, 0, none⟩ 1 1 [.int .u8 (b : Int)] rfl rfl (cell_oneB _ _) (by simp [Value.oneCell']) h63 hby (by simp; omega) ?_; intro v' w2 hown' hgrow _)
      have hr1 : TuSt w w2 w1.heap.size v' (bs.drop j).reverse := by
        have gr : Below w1.heap.size wr w2 := ((Below.refl _ wr).alloc hsz _).grown hgrow (by simp; omega) (fun q eq => (World.ownsRow.lt st.out.r q eq).1)
        refine ⟨?_, ⟨gr.os.trans st.out.b.os, gr.tape.trans st.out.b.tape, gr.output.trans st.out.b.output, Nat.le_trans st.out.b.size gr.size, fun k hk => (gr.block k (Nat.lt_of_lt_of_le hk st.out.l)).trans (st.out.b.block k hk)⟩, st.out.l, Nat.le_trans hsz gr.size⟩
        unfold RowB
        rw [hrev.out, List.length_append]
        unfold u8v
        rw [List.map_append]
        exact hown'
      exact ⟨⟨j, by omega, by simp, hr1⟩, by simp [intOf]⟩

set_option maxRecDepth 100000 in
set_option maxHeartbeats 4000000 in
theorem bturn_s2 (w : World) (g o cap : Nat) (bs : List Nat) (hlen : Hid (bs.length = 2)) (HC : Hid (BytesIn w g o bs ∧ g < w.heap.size)) (N U : Int) (q0 : N < 0) (q1 : N + 65536 = U) (q2 : (N == U) = false) (q3 : -4294967296 ≤ N) (aw : AwC6) (cA : RdAt w kSbe (.slice (some ⟨g, o, none⟩) 2 cap) N 0) (cB : RdOf kSle bs.reverse N 0) (cC : RdAt w kBe (.slice (some ⟨g, o, none⟩) 2 cap) U 0) :
    Calls Tryd.prog 6 #[.slice (some ⟨g, o, none⟩) 2 cap, .bool true] w fun e w' => e = .returned (.bool true) ∧ Below w.heap.size w w' := by
  obtain ⟨i0, hi, hz0, hz1, hz2⟩ := info_parts info_u8
  go_enter Tryd.func6, Tryd.ntmps6
  go_wp2_with fail
  refine (aw _).mono ?_
  rintro e w1 ⟨rfl, hb⟩
  have B : Hid (Below w.heap.size w w1) := hb
  clear hb aw
  go_wp2
  go_loopw [5, 6] (fun c i wr => ∃ j : Nat, (j : Int) ≤ 2 ∧ i = .int .i64 ((j : Int) - 1) ∧ Hid (TuSt w wr w1.heap.size c (bs.drop j).reverse)) (fun _ i _ => (intOf i + 1).toNat)
  case atStart => exact ⟨2, by omega, by simp, by unfold Hid; rw [← hlen.out, List.drop_length]; exact ⟨World.ownsRow_nil _ _ _ _, B.out, B.out.size, Nat.le_refl _⟩⟩
  case round =>
    obtain ⟨j, hj, rfl, st⟩ := hrel
    cases j with
    | zero =>
      have Y : Hid (BytesV wr u5 bs.reverse) := st.out.r.v
      replace B : Hid (Below w.heap.size w wr) := st.out.b
      clear st hj HC
      go_wp2_with fail
      refine (cA _ B.out).mono ?_
      rintro e w2 ⟨rfl, hb⟩
      replace B : Hid (Below w.heap.size w w2) := belowT B.out hb
      replace Y : Hid (BytesV w2 u5 bs.reverse) := Y.out.below hb
      clear hb cA
      go_wp2_with fail
      refine (cB _ _ Y.out).mono ?_
      rintro e w3 ⟨rfl, hb⟩
      replace B : Hid (Below w.heap.size w w3) := belowT B.out hb
      clear hb cB Y
      go_wp2_with fail
      refine (cC _ B.out).mono ?_
      rintro e w4 ⟨rfl, hb⟩
      replace B : Hid (Below w.heap.size w w4) := belowT B.out hb
      clear hb cC
      go_wp2
      go_ret
      exact ⟨rfl, B.out⟩
    | succ j =>
      have ej : ((j + 1 : Nat) : Int) - 1 = (j : Int) := by omega
      have hjl : j < bs.length := (by have := hlen.out; omega)
      have hji : (j : Int) < 2 := by omega
      have hcell : wr.cell? ⟨g, o + j, none⟩ = some (.int .u8 (bs[j] : Int)) := HC.out.1.at HC.out.2 st.out.b j hjl
      have hrev : Hid ((bs.drop j).reverse = (bs.drop (j + 1)).reverse ++ [bs[j]]) := drop_revN bs hjl
      have hlen2 : (bs.drop (j + 1)).reverse.length ≤ 40 := by simp; have := hlen.out; omega
      have h63 : (bs.drop (j + 1)).reverse.length + 1 ≤ maxLen := by unfold maxLen; omega
      have hby : ((bs.drop (j + 1)).reverse.length + 1) * 1 ≤ 140737488355328 := by omega
      have hsz := st.out.u
      clear cA cB cC B
      generalize bs[j] = b at *
      rw [ej]
      go_wp2_with (at_builtin; refine wpList_append_own _ rfl _ _ 22 rfl w1.heap.size 5 i0 (.int .u8 0) 1 1 Tryd.underlying22 hi hz0 hz1 hz2 rfl (by decide) _ _ _ rfl (World.ownsRow.alloc st.out.r _) ⟨wr.heap.size, 0, none⟩ 1 1 [.int .u8 (b : Int)] rfl rfl (cell_oneB _ _) (by simp [Value.oneCell']) h63 hby (by simp; omega) ?_; intro v' w2 hown' hgrow _)
      have hr1 : TuSt w w2 w1.heap.size v' (bs.drop j).reverse := by
        have gr : Below w1.heap.size wr w2 := ((Below.refl _ wr).alloc hsz _).grown hgrow (by simp; omega) (fun q eq => (World.ownsRow.lt st.out.r q eq).1)
        refine ⟨?_, ⟨gr.os.trans st.out.b.os, gr.tape.trans st.out.b.tape, gr.output.trans st.out.b.output, Nat.le_trans st.out.b.size gr.size, fun k hk => (gr.block k (Nat.lt_of_lt_of_le hk st.out.l)).trans (st.out.b.block k hk)⟩, st.out.l, Nat.le_trans hsz gr.size⟩
        unfold RowB
        rw [hrev.out, List.length_append]
        unfold u8v
        rw [List.map_append]
        exact hown'
      exact ⟨⟨j, by omega, by simp, hr1⟩, by simp [intOf]⟩

set_option maxRecDepth 100000 in
set_option maxHeartbeats 4000000 in
theorem bturn_s3 (w : World) (g o cap : Nat) (bs : List Nat) (hlen : Hid (bs.length = 3)) (HC : Hid (BytesIn w g o bs ∧ g < w.heap.size)) (N U : Int) (q0 : N < 0) (q1 : N + 16777216 = U) (q2 : (N == U) = false) (q3 : -4294967296 ≤ N) (aw : AwC6) (cA : RdAt w kSbe (.slice (some ⟨g, o, none⟩) 3 cap) N 0) (cB : RdOf kSle bs.reverse N 0) (cC : RdAt w kBe (.slice (some ⟨g, o, none⟩) 3 cap) U 0) :
    Calls Tryd.prog 6 #[.slice (some ⟨g, o, none⟩) 3 cap, .bool true] w fun e w' => e = .returned (.bool true) ∧ Below w.heap.size w w' := by
  obtain ⟨i0, hi, hz0, hz1, hz2⟩ := info_parts info_u8
  go_enter Tryd.func6, Tryd.ntmps6
  go_wp2_with fail
  refine (aw _).mono ?_
  rintro e w1 ⟨rfl, hb⟩
  have B : Hid (Below w.heap.size w w1) := hb
  clear hb aw
  go_wp2
  go_loopw [5, 6] (fun c i wr => ∃ j : Nat, (j : Int) ≤ 3 ∧ i = .int .i64 ((j : Int) - 1) ∧ Hid (TuSt w wr w1.heap.size c (bs.drop j).reverse)) (fun _ i _ => (intOf i + 1).toNat)
  case atStart => exact ⟨3, by omega, by simp, by unfold Hid; rw [← hlen.out, List.drop_length]; exact ⟨World.ownsRow_nil _ _ _ _, B.out, B.out.size, Nat.le_refl _⟩⟩
  case round =>
    obtain ⟨j, hj, rfl, st⟩ := hrel
    cases j with
    | zero =>
      have Y : Hid (BytesV wr u5 bs.reverse) := st.out.r.v
      replace B : Hid (Below w.heap.size w wr) := st.out.b
      clear st hj HC
      go_wp2_with fail
      refine (cA _ B.out).mono ?_
      rintro e w2 ⟨rfl, hb⟩
      replace B : Hid (Below w.heap.size w w2) := belowT B.out hb
      replace Y : Hid (BytesV w2 u5 bs.reverse) := Y.out.below hb
      clear hb cA
      go_wp2_with fail
      refine (cB _ _ Y.out).mono ?_
      rintro e w3 ⟨rfl, hb⟩
      replace B : Hid (Below w.heap.size w w3) := belowT B.out hb
      clear hb cB Y
      go_wp2_with fail
      refine (cC _ B.out).mono ?_
      rintro e w4 ⟨rfl, hb⟩
      replace B : Hid (Below w.heap.size w w4) := belowT B.out hb
      clear hb cC
      go_wp2
      go_ret
      exact ⟨rfl, B.out⟩
    | succ j =>
      have ej : ((j + 1 : Nat) : Int) - 1 = (j : Int) := by omega
      have hjl : j < bs.length := (by have := hlen.out; omega)
      have hji : (j : Int) < 3 := by omega
      have hcell : wr.cell? ⟨g, o + j, none⟩ = some (.int .u8 (bs[j] : Int)) := HC.out.1.at HC.out.2 st.out.b j hjl
      have hrev : Hid ((bs.drop j).reverse = (bs.drop (j + 1)).reverse ++ [bs[j]]) := drop_revN bs hjl
      have hlen2 : (bs.drop (j + 1)).reverse.length ≤ 40 := by simp; have := hlen.out; omega
      have h63 : (bs.drop (j + 1)).reverse.length + 1 ≤ maxLen := by unfold maxLen; omega
      have hby : ((bs.drop (j + 1)).reverse.length + 1) * 1 ≤ 140737488355328 := by omega
      have hsz := st.out.u
      clear cA cB cC B
      generalize bs[j] = b at *
      rw [ej]
      go_wp2_with (at_builtin; refine wpList_append_own _ rfl _ _ 22 rfl w1.heap.size 5 i0 (.int .u8 0) 1 1 Tryd.underlying22 hi hz0 hz1 hz2 rfl (by decide) _ _ _ rfl (World.ownsRow.alloc st.out.r _) ⟨wr.heap.size, 0, none⟩ 1 1 [.int .u8 (b : Int)] rfl rfl (cell_oneB _ _) (by simp [Value.oneCell']) h63 hby (by simp; omega) ?_; intro v' w2 hown' hgrow _)
      have hr1 : TuSt w w2 w1.heap.size v' (bs.drop j).reverse := by
        have gr : Below w1.heap.size wr w2 := ((Below.refl _ wr).alloc hsz _).grown hgrow (by simp; omega) (fun q eq => (World.ownsRow.lt st.out.r q eq).1)
        refine ⟨?_, ⟨gr.os.trans st.out.b.os, gr.tape.trans st.out.b.tape, gr.output.trans st.out.b.output, Nat.le_trans st.out.b.size gr.size, fun k hk => (gr.block k (Nat.lt_of_lt_of_le hk st.out.l)).trans (st.out.b.block k hk)⟩, st.out.l, Nat.le_trans hsz gr.size⟩
        unfold RowB
        rw [hrev.out, List.length_append]
        unfold u8v
        rw [List.map_append]
        exact hown'
      exact ⟨⟨j, by omega, by simp, hr1⟩, by simp [intOf]⟩

set_option maxRecDepth 100000 in
set_option maxHeartbeats 4000000 in
theorem bturn_s4 (w : World) (g o cap : Nat) (bs : List Nat) (hlen : Hid (bs.length = 4)) (HC : Hid (BytesIn w g o bs ∧ g < w.heap.size)) (N U : Int) (q0 : N < 0) (q1 : N + 4294967296 = U) (q2 : (N == U) = false) (q3 : -4294967296 ≤ N) (aw : AwC6) (cA : RdAt w kSbe (.slice (some ⟨g, o, none⟩) 4 cap) N 0) (cB : RdOf kSle bs.reverse N 0) (cC : RdAt w kBe (.slice (some ⟨g, o, none⟩) 4 cap) U 0) :
    Calls Tryd.prog 6 #[.slice (some ⟨g, o, none⟩) 4 cap, .bool true] w fun e w' => e = .returned (.bool true) ∧ Below w.heap.size w w' := by
  obtain ⟨i0, hi, hz0, hz1, hz2⟩ := info_parts info_u8
  go_enter Tryd.func6, Tryd.ntmps6
  go_wp2_with fail
  refine (aw _).mono ?_
  rintro e w1 ⟨rfl, hb⟩
  have B : Hid (Below w.heap.size w w1) := hb
  clear hb aw
  go_wp2
  go_loopw [5, 6] (fun c i wr => ∃ j : Nat, (j : Int) ≤ 4 ∧ i = .int .i64 ((j : Int) - 1) ∧ Hid (TuSt w wr w1.heap.size c (bs.drop j).reverse)) (fun _ i _ => (intOf i + 1).toNat)
  case atStart => exact ⟨4, by omega, by simp, by unfold Hid; rw [← hlen.out, List.drop_length]; exact ⟨World.ownsRow_nil _ _ _ _, B.out, B.out.size, Nat.le_refl _⟩⟩
  case round =>
    obtain ⟨j, hj, rfl, st⟩ := hrel
    cases j with
    | zero =>
      have Y : Hid (BytesV wr u5 bs.reverse) := st.out.r.v
      replace B : Hid (Below w.heap.size w wr) := st.out.b
      clear st hj HC
      go_wp2_with fail
      refine (cA _ B.out).mono ?_
      rintro e w2 ⟨rfl, hb⟩
      replace B : Hid (Below w.heap.size w w2) := belowT B.out hb
      replace Y : Hid (BytesV w2 u5 bs.reverse) := Y.out.below hb
      clear hb cA
      go_wp2_with fail
      refine (cB _ _ Y.out).mono ?_
      rintro e w3 ⟨rfl, hb⟩
      replace B : Hid (Below w.heap.size w w3) := belowT B.out hb
      clear hb cB Y
      go_wp2_with fail
      refine (cC _ B.out).mono ?_
      rintro e w4 ⟨rfl, hb⟩
      replace B : Hid (Below w.heap.size w w4) := belowT B.out hb
      clear hb cC
      go_wp2
      go_ret
      exact ⟨rfl, B.out⟩
    | succ j =>
      have ej : ((j + 1 : Nat) : Int) - 1 = (j : Int) := by omega
      have hjl : j < bs.length := (by have := hlen.out; omega)
      have hji : (j : Int) < 4 := by omega
      have hcell : wr.cell? ⟨g, o + j, none⟩ = some (.int .u8 (bs[j] : Int)) := HC.out.1.at HC.out.2 st.out.b j hjl
      have hrev : Hid ((bs.drop j).reverse = (bs.drop (j + 1)).reverse ++ [bs[j]]) := drop_revN bs hjl
      have hlen2 : (bs.drop (j + 1)).reverse.length ≤ 40 := by simp; have := hlen.out; omega
      have h63 : (bs.drop (j + 1)).reverse.length + 1 ≤ maxLen := by unfold maxLen; omega
      have hby : ((bs.drop (j + 1)).reverse.length + 1) * 1 ≤ 140737488355328 := by omega
      have hsz := st.out.u
      clear cA cB cC B
      generalize bs[j] = b at *
      rw [ej]
      go_wp2_with (at_builtin; refine wpList_append_own _ rfl _ _ 22 rfl w1.heap.size 5 i0 (.int .u8 0) 1 1 Tryd.underlying22 hi hz0 hz1 hz2 rfl (by decide) _ _ _ rfl (World.ownsRow.alloc st.out.r _) ⟨wr.heap.size, 0, none⟩ 1 1 [.int .u8 (b : Int)] rfl rfl (cell_oneB _ _) (by simp [Value.oneCell']) h63 hby (by simp; omega) ?_; intro v' w2 hown' hgrow _)
      have hr1 : TuSt w w2 w1.heap.size v' (bs.drop j).reverse := by
        have gr : Below w1.heap.size wr w2 := ((Below.refl _ wr).alloc hsz _).grown hgrow (by simp; omega) (fun q eq => (World.ownsRow.lt st.out.r q eq).1)
        refine ⟨?_, ⟨gr.os.trans st.out.b.os, gr.tape.trans st.out.b.tape, gr.output.trans st.out.b.output, Nat.le_trans st.out.b.size gr.size, fun k hk => (gr.block k (Nat.lt_of_lt_of_le hk st.out.l)).trans (st.out.b.block k hk)⟩, st.out.l, Nat.le_trans hsz gr.size⟩
        unfold RowB
        rw [hrev.out, List.length_append]
        unfold u8v
        rw [List.map_append]
        exact hown'
      exact ⟨⟨j, by omega, by simp, hr1⟩, by simp [intOf]⟩

set_option maxRecDepth 100000 in
set_option maxHeartbeats 4000000 in
theorem bturn_nil (w : World) (s : Bool) (aw : AwC6) :
    Calls Tryd.prog 6 #[.slice none 0 0, .bool s] w fun e w' => e = .returned (.bool true) ∧ Below w.heap.size w w' := by
  go_enter Tryd.func6, Tryd.ntmps6
  go_wp2_with fail
  refine (aw _).mono ?_
  rintro e w1 ⟨rfl, hb⟩
  have B : Hid (Below w.heap.size w w1) := hb
  clear hb
  go_wp2_with fail
  refine (aw _).mono ?_
  rintro e w2 ⟨rfl, hb⟩
  replace B : Hid (Below w.heap.size w w2) := belowT B.out hb
  clear hb
  go_wp2
  go_ret
  exact ⟨rfl, B.out⟩

set_option maxRecDepth 100000 in
set_option maxHeartbeats 4000000 in
theorem bturn_zero (w : World) (g o cap : Nat) (s : Bool) (aw : AwC6) :
    Calls Tryd.prog 6 #[.slice (some ⟨g, o, none⟩) 0 cap, .bool s] w fun e w' => e = .returned (.bool true) ∧ Below w.heap.size w w' := by
  go_enter Tryd.func6, Tryd.ntmps6
  go_wp2_with fail
  refine (aw _).mono ?_
  rintro e w1 ⟨rfl, hb⟩
  have B : Hid (Below w.heap.size w w1) := hb
  clear hb
  go_wp2_with fail
  refine (aw _).mono ?_
  rintro e w2 ⟨rfl, hb⟩
  replace B : Hid (Below w.heap.size w w2) := belowT B.out hb
  clear hb
  go_wp2
  go_ret
  exact ⟨rfl, B.out⟩

set_option maxRecDepth 100000 in
set_option maxHeartbeats 4000000 in
theorem bturn_long (w : World) (g o L cap : Nat) (hL : 4 < (L : Int)) (s : Bool) (aw : AwC6) :
    Calls Tryd.prog 6 #[.slice (some ⟨g, o, none⟩) L cap, .bool s] w fun e w' => e = .returned (.bool true) ∧ Below w.heap.size w w' := by
  go_enter Tryd.func6, Tryd.ntmps6
  go_wp2_with fail
  refine (aw _).mono ?_
  rintro e w1 ⟨rfl, hb⟩
  have B : Hid (Below w.heap.size w w1) := hb
  clear hb
  go_wp2_with fail
  refine (aw _).mono ?_
  rintro e w2 ⟨rfl, hb⟩
  replace B : Hid (Below w.heap.size w w2) := belowT B.out hb
  clear hb
  go_wp2
  go_ret
  exact ⟨rfl, B.out⟩

/-- the law, out of the contracts -/
theorem bturn_any (hD : ReadP) (w : World) (v : Value) (bs : List Nat) (hv : BytesV w v bs) (hb : AllBytes bs) (s : Bool) :
    Calls Tryd.prog 6 #[v, .bool s] w fun e w' => e = .returned (.bool true) ∧ Below w.heap.size w w' := by
  have aw := awake6 hD
  have ha := hv
  rcases hv with ⟨rfl, rfl⟩ | ⟨g, o, cap, rfl, _, _, h1, h2⟩
  · exact bturn_nil w s aw
  · by_cases hz : bs.length = 0
    · rw [hz]; exact bturn_zero w g o cap s aw
    · by_cases hl : (bs.length : Int) ≤ 4
      · have hr : ∀ k, k < 5 → rgtB k bs.length = true := fun k hk => by unfold rgtB; rw [if_pos hk]; simp; omega
        have rd : ∀ (nm : ByteArray) (k : Nat) (N : Int), kindI nm = k → k < 5 → readO k bs = some N → RdAt w nm (.slice (some ⟨g, o, none⟩) bs.length cap) N 0 := fun nm k N e hk h x hx => by
          have q := hD nm _ bs x (ha.below hx) (by omega) hb
          obtain ⟨q1, q2⟩ := readN_yes (hr k hk)
          rw [e, q1, q2, h] at q
          exact q
        have rr : ∀ (nm : ByteArray) (k : Nat) (N : Int), kindI nm = k → k < 5 → readO k bs.reverse = some N → RdOf nm bs.reverse N 0 := fun nm k N e hk h x u hu => by
          have q := hD nm u bs.reverse x hu (by rw [List.length_reverse]; omega) (all_rev hb)
          have hr' : rgtB k bs.reverse.length = true := by rw [List.length_reverse]; exact hr k hk
          obtain ⟨q1, q2⟩ := readN_yes hr'
          rw [e, q1, q2, h] at q
          exact q
        obtain ⟨t1, t2⟩ := read_turn bs
        have cC := rd kBe 0 _ kind_be (by omega) (show readO 0 bs = some ((beN bs : Nat) : Int) from rfl)
        cases s with
        | false => exact bturn_u w g o cap bs ⟨by omega, hl⟩ ⟨h1, h2⟩ _ aw cC (rr kLe 1 _ kind_le (by omega) t1) cC
        | true =>
          have cA := rd kSbe 2 _ kind_sbe (by omega) (show readO 2 bs = some (sgnV (beN bs) bs.length) from rfl)
          have cB := rr kSle 3 _ kind_sle (by omega) t2
          have bl := beN_lt hb
          by_cases hs : 256 ^ bs.length / 2 ≤ beN bs
          · have e : sgnV (beN bs) bs.length = ((beN bs : Nat) : Int) - ((256 ^ bs.length : Nat) : Int) := by unfold sgnV; rw [if_pos hs]
            rw [e] at cA cB
            have hL : bs.length = 1 ∨ bs.length = 2 ∨ bs.length = 3 ∨ bs.length = 4 := by omega
            rcases hL with hL | hL | hL | hL
            · have hb2 := hL
              rw [hL] at cA cC ha bl ⊢
              rw [hL] at cB
              exact bturn_s1 w g o cap bs hb2 ⟨h1, h2⟩ _ _ (by omega) (by omega) (beq_eq_false_iff_ne.2 (by omega)) (by omega) aw cA cB cC
            · have hb2 := hL
              rw [hL] at cA cC ha bl ⊢
              rw [hL] at cB
              exact bturn_s2 w g o cap bs hb2 ⟨h1, h2⟩ _ _ (by omega) (by omega) (beq_eq_false_iff_ne.2 (by omega)) (by omega) aw cA cB cC
            · have hb2 := hL
              rw [hL] at cA cC ha bl ⊢
              rw [hL] at cB
              exact bturn_s3 w g o cap bs hb2 ⟨h1, h2⟩ _ _ (by omega) (by omega) (beq_eq_false_iff_ne.2 (by omega)) (by omega) aw cA cB cC
            · have hb2 := hL
              rw [hL] at cA cC ha bl ⊢
              rw [hL] at cB
              exact bturn_s4 w g o cap bs hb2 ⟨h1, h2⟩ _ _ (by omega) (by omega) (beq_eq_false_iff_ne.2 (by omega)) (by omega) aw cA cB cC
          · have e : sgnV (beN bs) bs.length = ((beN bs : Nat) : Int) := by unfold sgnV; rw [if_neg hs]
            rw [e] at cA cB
            exact bturn_se w g o cap bs ⟨by omega, hl⟩ ⟨h1, h2⟩ _ aw cA cB cC
      · exact bturn_long w g o _ cap (by omega) s aw
end Go.Proofs.YtiimmebcmehnhaaDoor
