/-
  The ways through the law on one changed byte (layer 4). Conditions: as each says.
-/
import Derived.Test.YtjbgjiodmhpbbaaCrcRows
namespace Go.Proofs.Ytjbgjiodmhpbbaa
open Go.RowKit
set_option linter.unusedVariables false

/-- behind the copy: it lies in block g2, the kind in block n -/
structure OneSt (w x : World) (n : Nat) (C : Array Value) (g2 cap2 : Nat) (bs : List Nat) : Prop where
  row : RowU x g2 cap2 bs
  k : KBi x n 30 C
  gl : n < g2
  nl : w.heap.size ≤ n
  b : Below w.heap.size w x
theorem OneSt.set {w x : World} {n : Nat} {C : Array Value} {g2 cap2 : Nat} {bs : List Nat} (h : OneSt w x n C g2 cap2 bs) (j u : Nat) : OneSt w (x.setCell ⟨g2, j, none⟩ (.int .u8 (u : Int))) n C g2 cap2 (bs.set j u) :=
  ⟨h.row.set j u, (blk_far _ _ _ _ (by have := h.gl; simp; omega)).trans h.k, h.gl, h.nl, h.b.setCell (p := ⟨g2, j, none⟩) (by have := h.gl; have := h.nl; simp; omega) _⟩
theorem OneSt.below {w x y : World} {n : Nat} {C : Array Value} {g2 cap2 : Nat} {bs : List Nat} (h : OneSt w x n C g2 cap2 bs) (hb : Below x.heap.size x y) : OneSt w y n C g2 cap2 bs :=
  ⟨h.row.below hb, h.k.below hb, h.gl, h.nl, belowT h.b hb⟩
theorem one_row {w w2 w5 : World} {C : Array Value} {v1 : Value} {bs : List Nat} (B : Below w.heap.size w w2) (hl : 0 < bs.length) (hA : w5.ownsRow (w2.heap.size + 1) 5 1 v1 (0 + bs.length) ([] ++ u8v bs))
    (gA : ((w2.alloc (.cells C 30)).alloc (.cells #[] 5)).grownBy w5 (Value.slice (some ⟨w2.heap.size + 1, 0, none⟩) 0 0).ownBlock) : ∃ g2 cap2, v1 = .slice (some ⟨g2, 0, none⟩) bs.length cap2 ∧ OneSt w w5 w2.heap.size C g2 cap2 bs := by
  have bA : Below (w2.alloc (.cells C 30)).heap.size (w2.alloc (.cells C 30)) w5 := ((Below.refl _ _).alloc (Nat.le_refl _) _).grown gA (by simp) (fun j e => by simp [Value.ownBlock] at e; simp; omega)
  rw [Nat.zero_add, List.nil_append] at hA
  obtain ⟨g2, cap2, ev, gb, r2⟩ := RowU.of hA hl
  have k0 : KBi (w2.alloc (.cells C 30)) w2.heap.size 30 C := World.alloc_heap_new w2 _
  exact ⟨g2, cap2, ev, r2, k0.below bA, by omega, B.size, belowT (B.alloc B.size _) bA⟩
/-- the sum of the copy -/
def SumCp (K : Value) (bs : List Nat) (L Y : Nat) : Prop := ∀ (x : World) (g cap : Nat), RowU x g cap bs → Calls Try.prog 9 #[K, .slice (some ⟨g, 0, none⟩) L cap] x fun e w' => e = .returned (.tuple #[.int .u32 (Y : Int), .int .i64 0]) ∧ Below x.heap.size x w'

set_option maxRecDepth 100000 in
set_option maxHeartbeats 4000000 in
theorem one_n8 (w : World) (a0 : Int) (h0 : 0 ≤ a0) (h0b : a0 < 256) (ha : a0 % 4 = 0) (g o cap : Nat) (bs : List Nat) (hl1 : 1 ≤ (bs.length : Int)) (hl2 : (bs.length : Int) ≤ 300) (hc : Hid (BytesIn w g o bs)) (hg : Hid (g < w.heap.size)) (a2 a3 : Int) (h2 : 0 ≤ a2) (h2b : a2 < 65536) (h3 : 0 ≤ a3) (h3b : a3 < 256)
    (j x u : Nat) (hj : Hid (a2 % (bs.length : Int) = (j : Int))) (hjl : (j : Int) < (bs.length : Int)) (hx : Hid (∃ h : j < bs.length, bs[j] = x)) (hu : Hid (bits .xor .u8 (x : Int) a3 = (u : Int))) (X Y : Nat) (hq : Hid (((X : Int) == (Y : Int)) = (a3 == 0))) (aw : AwC)
    (cS : SumAtI w (.agg #[.int .i64 8, .int .u32 7, .int .u32 0, .bool false, .int .u32 0]) (.slice (some ⟨g, o, none⟩) bs.length cap) X 0) (cY : SumCp (.agg #[.int .i64 8, .int .u32 7, .int .u32 0, .bool false, .int .u32 0]) (bs.set j u) bs.length Y) :
    Calls Try.prog 7 #[.int .u8 a0, .slice (some ⟨g, o, none⟩) bs.length cap, .int .u16 a2, .int .u8 a3] w fun e w' => e = .returned (.bool true) ∧ Below w.heap.size w w' := by
  obtain ⟨i0, hi, hz0, hz1, hz2⟩ := info_parts info_u8
  have hne : ((bs.length : Int) == 0) = false := by rw [beq_eq_false_iff_ne]; omega
  go_enter Try.func7, Try.ntmps7
  go_wp2_with fail
  refine (aw _).mono ?_
  rintro e w1 ⟨rfl, hb⟩
  have B : Hid (Below w.heap.size w w1) := hb
  clear hb
  go_wp2_with fail
  refine (named_n8 _).mono ?_
  rintro e w2 ⟨rfl, hb⟩
  replace B : Hid (Below w.heap.size w w2) := belowT (B.out.alloc B.out.size _) hb
  clear hb
  have B3 : Hid (Below w.heap.size w ((w2.alloc (.cells #[.int .i64 8, .int .u32 7, .int .u32 0, .bool false, .int .u32 0] 30)).alloc (.cells #[] 5))) := (B.out.alloc B.out.size _).alloc (by have := B.out.size; simp; omega) _
  have hnw : Hid (∀ q y, (u8v bs)[q]? = some y → ((w2.alloc (.cells #[.int .i64 8, .int .u32 7, .int .u32 0, .bool false, .int .u32 0] 30)).alloc (.cells #[] 5)).cell? ((⟨g, o, none⟩ : Addr).add q) = some y) := bytes_news hc.out hg.out B3.out
  have h63 : 0 + bs.length ≤ maxLen := by unfold maxLen; omega
  have hby : (0 + bs.length) * 1 ≤ 140737488355328 := by omega
  have hj1 := hj.out
  have hu1 := hu.out
  go_wp2_with (at_builtin; refine wpList_append_own _ rfl _ _ 25 rfl (w2.heap.size + 1) 5 i0 (.int .u8 0) 1 1 Try.underlying25 hi hz0 hz1 hz2 rfl (by decide) _ _ _ rfl (row_none w2 _) ⟨g, o, none⟩ bs.length cap (u8v bs) rfl (by simp) hnw.out (bytes_one bs) h63 hby (by simp) ?_; intro v1 w5 hA gA _; obtain ⟨g2, cap2, rfl, st⟩ := one_row B.out (by omega) hA gA; replace st : Hid (OneSt w w5 w2.heap.size #[.int .i64 8, .int .u32 7, .int .u32 0, .bool false, .int .u32 0] g2 cap2 bs) := st; clear hA gA; obtain ⟨hjn, hxe⟩ := hx.out; have cj := st.out.row.cell j hjn; rw [hxe] at cj; obtain ⟨cj, fj⟩ := cj; clear hxe; have st2 : Hid (OneSt w (w5.setCell ⟨g2, j, none⟩ (.int .u8 (u : Int))) w2.heap.size #[.int .i64 8, .int .u32 7, .int .u32 0, .bool false, .int .u32 0] g2 cap2 (bs.set j u)) := st.out.set j u; have gne : g2 ≠ w2.heap.size := (by have := st.out.gl; omega); have k0 := st2.out.k.cell (i := 0) rfl; have k1 := st2.out.k.cell (i := 1) rfl; have k2 := st2.out.k.cell (i := 2) rfl; have k3 := st2.out.k.cell (i := 3) rfl; have k4 := st2.out.k.cell (i := 4) rfl)
  refine (cS _ st2.out.b).mono ?_
  rintro e w6 ⟨rfl, hb⟩
  have st3 : Hid (OneSt w w6 w2.heap.size #[.int .i64 8, .int .u32 7, .int .u32 0, .bool false, .int .u32 0] g2 cap2 (bs.set j u)) := st2.out.below hb
  clear hb st st2 cj fj k0 k1 k2 k3 k4 hj1 hu1
  have k0 := st3.out.k.cell (i := 0) rfl
  have k1 := st3.out.k.cell (i := 1) rfl
  have k2 := st3.out.k.cell (i := 2) rfl
  have k3 := st3.out.k.cell (i := 3) rfl
  have k4 := st3.out.k.cell (i := 4) rfl
  go_wp2_with fail
  refine (cY _ _ _ st3.out.row).mono ?_
  rintro e w7 ⟨rfl, hb⟩
  have B7 : Hid (Below w.heap.size w w7) := belowT st3.out.b hb
  clear hb st3 k0 k1 k2 k3 k4
  have hq1 := hq.out
  go_wp2
  go_ret
  exact ⟨rfl, B7.out⟩

set_option maxRecDepth 100000 in
set_option maxHeartbeats 4000000 in
theorem one_n16 (w : World) (a0 : Int) (h0 : 0 ≤ a0) (h0b : a0 < 256) (ha : a0 % 4 = 1) (g o cap : Nat) (bs : List Nat) (hl1 : 1 ≤ (bs.length : Int)) (hl2 : (bs.length : Int) ≤ 300) (hc : Hid (BytesIn w g o bs)) (hg : Hid (g < w.heap.size)) (a2 a3 : Int) (h2 : 0 ≤ a2) (h2b : a2 < 65536) (h3 : 0 ≤ a3) (h3b : a3 < 256)
    (j x u : Nat) (hj : Hid (a2 % (bs.length : Int) = (j : Int))) (hjl : (j : Int) < (bs.length : Int)) (hx : Hid (∃ h : j < bs.length, bs[j] = x)) (hu : Hid (bits .xor .u8 (x : Int) a3 = (u : Int))) (X Y : Nat) (hq : Hid (((X : Int) == (Y : Int)) = (a3 == 0))) (aw : AwC)
    (cS : SumAtI w (.agg #[.int .i64 16, .int .u32 32773, .int .u32 0, .bool true, .int .u32 0]) (.slice (some ⟨g, o, none⟩) bs.length cap) X 0) (cY : SumCp (.agg #[.int .i64 16, .int .u32 32773, .int .u32 0, .bool true, .int .u32 0]) (bs.set j u) bs.length Y) :
    Calls Try.prog 7 #[.int .u8 a0, .slice (some ⟨g, o, none⟩) bs.length cap, .int .u16 a2, .int .u8 a3] w fun e w' => e = .returned (.bool true) ∧ Below w.heap.size w w' := by
  obtain ⟨i0, hi, hz0, hz1, hz2⟩ := info_parts info_u8
  have hne : ((bs.length : Int) == 0) = false := by rw [beq_eq_false_iff_ne]; omega
  go_enter Try.func7, Try.ntmps7
  go_wp2_with fail
  refine (aw _).mono ?_
  rintro e w1 ⟨rfl, hb⟩
  have B : Hid (Below w.heap.size w w1) := hb
  clear hb
  go_wp2_with fail
  refine (named_n16 _).mono ?_
  rintro e w2 ⟨rfl, hb⟩
  replace B : Hid (Below w.heap.size w w2) := belowT (B.out.alloc B.out.size _) hb
  clear hb
  have B3 : Hid (Below w.heap.size w ((w2.alloc (.cells #[.int .i64 16, .int .u32 32773, .int .u32 0, .bool true, .int .u32 0] 30)).alloc (.cells #[] 5))) := (B.out.alloc B.out.size _).alloc (by have := B.out.size; simp; omega) _
  have hnw : Hid (∀ q y, (u8v bs)[q]? = some y → ((w2.alloc (.cells #[.int .i64 16, .int .u32 32773, .int .u32 0, .bool true, .int .u32 0] 30)).alloc (.cells #[] 5)).cell? ((⟨g, o, none⟩ : Addr).add q) = some y) := bytes_news hc.out hg.out B3.out
  have h63 : 0 + bs.length ≤ maxLen := by unfold maxLen; omega
  have hby : (0 + bs.length) * 1 ≤ 140737488355328 := by omega
  have hj1 := hj.out
  have hu1 := hu.out
  go_wp2_with (at_builtin; refine wpList_append_own _ rfl _ _ 25 rfl (w2.heap.size + 1) 5 i0 (.int .u8 0) 1 1 Try.underlying25 hi hz0 hz1 hz2 rfl (by decide) _ _ _ rfl (row_none w2 _) ⟨g, o, none⟩ bs.length cap (u8v bs) rfl (by simp) hnw.out (bytes_one bs) h63 hby (by simp) ?_; intro v1 w5 hA gA _; obtain ⟨g2, cap2, rfl, st⟩ := one_row B.out (by omega) hA gA; replace st : Hid (OneSt w w5 w2.heap.size #[.int .i64 16, .int .u32 32773, .int .u32 0, .bool true, .int .u32 0] g2 cap2 bs) := st; clear hA gA; obtain ⟨hjn, hxe⟩ := hx.out; have cj := st.out.row.cell j hjn; rw [hxe] at cj; obtain ⟨cj, fj⟩ := cj; clear hxe; have st2 : Hid (OneSt w (w5.setCell ⟨g2, j, none⟩ (.int .u8 (u : Int))) w2.heap.size #[.int .i64 16, .int .u32 32773, .int .u32 0, .bool true, .int .u32 0] g2 cap2 (bs.set j u)) := st.out.set j u; have gne : g2 ≠ w2.heap.size := (by have := st.out.gl; omega); have k0 := st2.out.k.cell (i := 0) rfl; have k1 := st2.out.k.cell (i := 1) rfl; have k2 := st2.out.k.cell (i := 2) rfl; have k3 := st2.out.k.cell (i := 3) rfl; have k4 := st2.out.k.cell (i := 4) rfl)
  refine (cS _ st2.out.b).mono ?_
  rintro e w6 ⟨rfl, hb⟩
  have st3 : Hid (OneSt w w6 w2.heap.size #[.int .i64 16, .int .u32 32773, .int .u32 0, .bool true, .int .u32 0] g2 cap2 (bs.set j u)) := st2.out.below hb
  clear hb st st2 cj fj k0 k1 k2 k3 k4 hj1 hu1
  have k0 := st3.out.k.cell (i := 0) rfl
  have k1 := st3.out.k.cell (i := 1) rfl
  have k2 := st3.out.k.cell (i := 2) rfl
  have k3 := st3.out.k.cell (i := 3) rfl
  have k4 := st3.out.k.cell (i := 4) rfl
  go_wp2_with fail
  refine (cY _ _ _ st3.out.row).mono ?_
  rintro e w7 ⟨rfl, hb⟩
  have B7 : Hid (Below w.heap.size w w7) := belowT st3.out.b hb
  clear hb st3 k0 k1 k2 k3 k4
  have hq1 := hq.out
  go_wp2
  go_ret
  exact ⟨rfl, B7.out⟩

set_option maxRecDepth 100000 in
set_option maxHeartbeats 4000000 in
theorem one_nC (w : World) (a0 : Int) (h0 : 0 ≤ a0) (h0b : a0 < 256) (ha : a0 % 4 = 2) (g o cap : Nat) (bs : List Nat) (hl1 : 1 ≤ (bs.length : Int)) (hl2 : (bs.length : Int) ≤ 300) (hc : Hid (BytesIn w g o bs)) (hg : Hid (g < w.heap.size)) (a2 a3 : Int) (h2 : 0 ≤ a2) (h2b : a2 < 65536) (h3 : 0 ≤ a3) (h3b : a3 < 256)
    (j x u : Nat) (hj : Hid (a2 % (bs.length : Int) = (j : Int))) (hjl : (j : Int) < (bs.length : Int)) (hx : Hid (∃ h : j < bs.length, bs[j] = x)) (hu : Hid (bits .xor .u8 (x : Int) a3 = (u : Int))) (X Y : Nat) (hq : Hid (((X : Int) == (Y : Int)) = (a3 == 0))) (aw : AwC)
    (cS : SumAtI w (.agg #[.int .i64 16, .int .u32 4129, .int .u32 65535, .bool false, .int .u32 0]) (.slice (some ⟨g, o, none⟩) bs.length cap) X 0) (cY : SumCp (.agg #[.int .i64 16, .int .u32 4129, .int .u32 65535, .bool false, .int .u32 0]) (bs.set j u) bs.length Y) :
    Calls Try.prog 7 #[.int .u8 a0, .slice (some ⟨g, o, none⟩) bs.length cap, .int .u16 a2, .int .u8 a3] w fun e w' => e = .returned (.bool true) ∧ Below w.heap.size w w' := by
  obtain ⟨i0, hi, hz0, hz1, hz2⟩ := info_parts info_u8
  have hne : ((bs.length : Int) == 0) = false := by rw [beq_eq_false_iff_ne]; omega
  go_enter Try.func7, Try.ntmps7
  go_wp2_with fail
  refine (aw _).mono ?_
  rintro e w1 ⟨rfl, hb⟩
  have B : Hid (Below w.heap.size w w1) := hb
  clear hb
  go_wp2_with fail
  refine (named_nC _).mono ?_
  rintro e w2 ⟨rfl, hb⟩
  replace B : Hid (Below w.heap.size w w2) := belowT (B.out.alloc B.out.size _) hb
  clear hb
  have B3 : Hid (Below w.heap.size w ((w2.alloc (.cells #[.int .i64 16, .int .u32 4129, .int .u32 65535, .bool false, .int .u32 0] 30)).alloc (.cells #[] 5))) := (B.out.alloc B.out.size _).alloc (by have := B.out.size; simp; omega) _
  have hnw : Hid (∀ q y, (u8v bs)[q]? = some y → ((w2.alloc (.cells #[.int .i64 16, .int .u32 4129, .int .u32 65535, .bool false, .int .u32 0] 30)).alloc (.cells #[] 5)).cell? ((⟨g, o, none⟩ : Addr).add q) = some y) := bytes_news hc.out hg.out B3.out
  have h63 : 0 + bs.length ≤ maxLen := by unfold maxLen; omega
  have hby : (0 + bs.length) * 1 ≤ 140737488355328 := by omega
  have hj1 := hj.out
  have hu1 := hu.out
  go_wp2_with (at_builtin; refine wpList_append_own _ rfl _ _ 25 rfl (w2.heap.size + 1) 5 i0 (.int .u8 0) 1 1 Try.underlying25 hi hz0 hz1 hz2 rfl (by decide) _ _ _ rfl (row_none w2 _) ⟨g, o, none⟩ bs.length cap (u8v bs) rfl (by simp) hnw.out (bytes_one bs) h63 hby (by simp) ?_; intro v1 w5 hA gA _; obtain ⟨g2, cap2, rfl, st⟩ := one_row B.out (by omega) hA gA; replace st : Hid (OneSt w w5 w2.heap.size #[.int .i64 16, .int .u32 4129, .int .u32 65535, .bool false, .int .u32 0] g2 cap2 bs) := st; clear hA gA; obtain ⟨hjn, hxe⟩ := hx.out; have cj := st.out.row.cell j hjn; rw [hxe] at cj; obtain ⟨cj, fj⟩ := cj; clear hxe; have st2 : Hid (OneSt w (w5.setCell ⟨g2, j, none⟩ (.int .u8 (u : Int))) w2.heap.size #[.int .i64 16, .int .u32 4129, .int .u32 65535, .bool false, .int .u32 0] g2 cap2 (bs.set j u)) := st.out.set j u; have gne : g2 ≠ w2.heap.size := (by have := st.out.gl; omega); have k0 := st2.out.k.cell (i := 0) rfl; have k1 := st2.out.k.cell (i := 1) rfl; have k2 := st2.out.k.cell (i := 2) rfl; have k3 := st2.out.k.cell (i := 3) rfl; have k4 := st2.out.k.cell (i := 4) rfl)
  refine (cS _ st2.out.b).mono ?_
  rintro e w6 ⟨rfl, hb⟩
  have st3 : Hid (OneSt w w6 w2.heap.size #[.int .i64 16, .int .u32 4129, .int .u32 65535, .bool false, .int .u32 0] g2 cap2 (bs.set j u)) := st2.out.below hb
  clear hb st st2 cj fj k0 k1 k2 k3 k4 hj1 hu1
  have k0 := st3.out.k.cell (i := 0) rfl
  have k1 := st3.out.k.cell (i := 1) rfl
  have k2 := st3.out.k.cell (i := 2) rfl
  have k3 := st3.out.k.cell (i := 3) rfl
  have k4 := st3.out.k.cell (i := 4) rfl
  go_wp2_with fail
  refine (cY _ _ _ st3.out.row).mono ?_
  rintro e w7 ⟨rfl, hb⟩
  have B7 : Hid (Below w.heap.size w w7) := belowT st3.out.b hb
  clear hb st3 k0 k1 k2 k3 k4
  have hq1 := hq.out
  go_wp2
  go_ret
  exact ⟨rfl, B7.out⟩

set_option maxRecDepth 100000 in
set_option maxHeartbeats 4000000 in
theorem one_n32 (w : World) (a0 : Int) (h0 : 0 ≤ a0) (h0b : a0 < 256) (ha : a0 % 4 = 3) (g o cap : Nat) (bs : List Nat) (hl1 : 1 ≤ (bs.length : Int)) (hl2 : (bs.length : Int) ≤ 300) (hc : Hid (BytesIn w g o bs)) (hg : Hid (g < w.heap.size)) (a2 a3 : Int) (h2 : 0 ≤ a2) (h2b : a2 < 65536) (h3 : 0 ≤ a3) (h3b : a3 < 256)
    (j x u : Nat) (hj : Hid (a2 % (bs.length : Int) = (j : Int))) (hjl : (j : Int) < (bs.length : Int)) (hx : Hid (∃ h : j < bs.length, bs[j] = x)) (hu : Hid (bits .xor .u8 (x : Int) a3 = (u : Int))) (X Y : Nat) (hq : Hid (((X : Int) == (Y : Int)) = (a3 == 0))) (aw : AwC)
    (cS : SumAtI w (.agg #[.int .i64 32, .int .u32 79764919, .int .u32 4294967295, .bool true, .int .u32 4294967295]) (.slice (some ⟨g, o, none⟩) bs.length cap) X 0) (cY : SumCp (.agg #[.int .i64 32, .int .u32 79764919, .int .u32 4294967295, .bool true, .int .u32 4294967295]) (bs.set j u) bs.length Y) :
    Calls Try.prog 7 #[.int .u8 a0, .slice (some ⟨g, o, none⟩) bs.length cap, .int .u16 a2, .int .u8 a3] w fun e w' => e = .returned (.bool true) ∧ Below w.heap.size w w' := by
  obtain ⟨i0, hi, hz0, hz1, hz2⟩ := info_parts info_u8
  have hne : ((bs.length : Int) == 0) = false := by rw [beq_eq_false_iff_ne]; omega
  go_enter Try.func7, Try.ntmps7
  go_wp2_with fail
  refine (aw _).mono ?_
  rintro e w1 ⟨rfl, hb⟩
  have B : Hid (Below w.heap.size w w1) := hb
  clear hb
  go_wp2_with fail
  refine (named_n32 _).mono ?_
  rintro e w2 ⟨rfl, hb⟩
  replace B : Hid (Below w.heap.size w w2) := belowT (B.out.alloc B.out.size _) hb
  clear hb
  have B3 : Hid (Below w.heap.size w ((w2.alloc (.cells #[.int .i64 32, .int .u32 79764919, .int .u32 4294967295, .bool true, .int .u32 4294967295] 30)).alloc (.cells #[] 5))) := (B.out.alloc B.out.size _).alloc (by have := B.out.size; simp; omega) _
  have hnw : Hid (∀ q y, (u8v bs)[q]? = some y → ((w2.alloc (.cells #[.int .i64 32, .int .u32 79764919, .int .u32 4294967295, .bool true, .int .u32 4294967295] 30)).alloc (.cells #[] 5)).cell? ((⟨g, o, none⟩ : Addr).add q) = some y) := bytes_news hc.out hg.out B3.out
  have h63 : 0 + bs.length ≤ maxLen := by unfold maxLen; omega
  have hby : (0 + bs.length) * 1 ≤ 140737488355328 := by omega
  have hj1 := hj.out
  have hu1 := hu.out
  go_wp2_with (at_builtin; refine wpList_append_own _ rfl _ _ 25 rfl (w2.heap.size + 1) 5 i0 (.int .u8 0) 1 1 Try.underlying25 hi hz0 hz1 hz2 rfl (by decide) _ _ _ rfl (row_none w2 _) ⟨g, o, none⟩ bs.length cap (u8v bs) rfl (by simp) hnw.out (bytes_one bs) h63 hby (by simp) ?_; intro v1 w5 hA gA _; obtain ⟨g2, cap2, rfl, st⟩ := one_row B.out (by omega) hA gA; replace st : Hid (OneSt w w5 w2.heap.size #[.int .i64 32, .int .u32 79764919, .int .u32 4294967295, .bool true, .int .u32 4294967295] g2 cap2 bs) := st; clear hA gA; obtain ⟨hjn, hxe⟩ := hx.out; have cj := st.out.row.cell j hjn; rw [hxe] at cj; obtain ⟨cj, fj⟩ := cj; clear hxe; have st2 : Hid (OneSt w (w5.setCell ⟨g2, j, none⟩ (.int .u8 (u : Int))) w2.heap.size #[.int .i64 32, .int .u32 79764919, .int .u32 4294967295, .bool true, .int .u32 4294967295] g2 cap2 (bs.set j u)) := st.out.set j u; have gne : g2 ≠ w2.heap.size := (by have := st.out.gl; omega); have k0 := st2.out.k.cell (i := 0) rfl; have k1 := st2.out.k.cell (i := 1) rfl; have k2 := st2.out.k.cell (i := 2) rfl; have k3 := st2.out.k.cell (i := 3) rfl; have k4 := st2.out.k.cell (i := 4) rfl)
  refine (cS _ st2.out.b).mono ?_
  rintro e w6 ⟨rfl, hb⟩
  have st3 : Hid (OneSt w w6 w2.heap.size #[.int .i64 32, .int .u32 79764919, .int .u32 4294967295, .bool true, .int .u32 4294967295] g2 cap2 (bs.set j u)) := st2.out.below hb
  clear hb st st2 cj fj k0 k1 k2 k3 k4 hj1 hu1
  have k0 := st3.out.k.cell (i := 0) rfl
  have k1 := st3.out.k.cell (i := 1) rfl
  have k2 := st3.out.k.cell (i := 2) rfl
  have k3 := st3.out.k.cell (i := 3) rfl
  have k4 := st3.out.k.cell (i := 4) rfl
  go_wp2_with fail
  refine (cY _ _ _ st3.out.row).mono ?_
  rintro e w7 ⟨rfl, hb⟩
  have B7 : Hid (Below w.heap.size w w7) := belowT st3.out.b hb
  clear hb st3 k0 k1 k2 k3 k4
  have hq1 := hq.out
  go_wp2
  go_ret
  exact ⟨rfl, B7.out⟩

set_option maxRecDepth 100000 in
set_option maxHeartbeats 2000000 in
theorem one_nil (w : World) (a0 a2 a3 : Int) (aw : AwC) : Calls Try.prog 7 #[.int .u8 a0, .slice none 0 0, .int .u16 a2, .int .u8 a3] w fun e w' => e = .returned (.bool true) ∧ Below w.heap.size w w' := by
  go_enter Try.func7, Try.ntmps7
  go_wp2_with fail
  refine (aw _).mono ?_
  rintro e w1 ⟨rfl, hb⟩
  have B : Hid (Below w.heap.size w w1) := hb
  clear hb
  go_wp2_with fail
  refine (aw _).mono ?_
  rintro e w2 ⟨rfl, hb⟩
  replace B : Hid (Below w.heap.size w w2) := belowT B.out hb
  clear hb
  go_wp2
  go_ret
  exact ⟨rfl, B.out⟩

set_option maxRecDepth 100000 in
set_option maxHeartbeats 2000000 in
theorem one_zero (w : World) (a0 a2 a3 : Int) (g o cap : Nat) (aw : AwC) : Calls Try.prog 7 #[.int .u8 a0, .slice (some ⟨g, o, none⟩) 0 cap, .int .u16 a2, .int .u8 a3] w fun e w' => e = .returned (.bool true) ∧ Below w.heap.size w w' := by
  go_enter Try.func7, Try.ntmps7
  go_wp2_with fail
  refine (aw _).mono ?_
  rintro e w1 ⟨rfl, hb⟩
  have B : Hid (Below w.heap.size w w1) := hb
  clear hb
  go_wp2_with fail
  refine (aw _).mono ?_
  rintro e w2 ⟨rfl, hb⟩
  replace B : Hid (Below w.heap.size w w2) := belowT B.out hb
  clear hb
  go_wp2
  go_ret
  exact ⟨rfl, B.out⟩

set_option maxRecDepth 100000 in
set_option maxHeartbeats 2000000 in
theorem one_long (w : World) (a0 a2 a3 : Int) (g o L cap : Nat) (hl : 300 < (L : Int)) (aw : AwC) : Calls Try.prog 7 #[.int .u8 a0, .slice (some ⟨g, o, none⟩) L cap, .int .u16 a2, .int .u8 a3] w fun e w' => e = .returned (.bool true) ∧ Below w.heap.size w w' := by
  go_enter Try.func7, Try.ntmps7
  go_wp2_with fail
  refine (aw _).mono ?_
  rintro e w1 ⟨rfl, hb⟩
  have B : Hid (Below w.heap.size w w1) := hb
  clear hb
  go_wp2_with fail
  refine (aw _).mono ?_
  rintro e w2 ⟨rfl, hb⟩
  replace B : Hid (Below w.heap.size w w2) := belowT B.out hb
  clear hb
  go_wp2
  go_ret
  exact ⟨rfl, B.out⟩
end Go.Proofs.Ytjbgjiodmhpbbaa
