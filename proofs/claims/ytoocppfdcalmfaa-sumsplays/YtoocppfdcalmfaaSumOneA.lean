/-
  The ways through the law on one changed byte (layer 5), out of the contracts. Conditions: as each says.
-/
import Derived.Test.YtoocppfdcalmfaaSumZeroA
namespace Go.Proofs.Ytoocppfdcalmfaa
open Go.RowKit
set_option linter.unusedVariables false

/-- behind the copy: it lies in block g2 -/
structure CpSt (w x : World) (g2 cap2 : Nat) (bs : List Nat) : Prop where
  row : RowU x g2 cap2 bs
  gl : w.heap.size ≤ g2
  b : Below w.heap.size w x
theorem CpSt.set {w x : World} {g2 cap2 : Nat} {bs : List Nat} (h : CpSt w x g2 cap2 bs) (j u : Nat) : CpSt w (x.setCell ⟨g2, j, none⟩ (.int .u8 (u : Int))) g2 cap2 (bs.set j u) :=
  ⟨h.row.set j u, h.gl, h.b.setCell (p := ⟨g2, j, none⟩) h.gl _⟩
theorem CpSt.below {w x y : World} {g2 cap2 : Nat} {bs : List Nat} (h : CpSt w x g2 cap2 bs) (hb : Below x.heap.size x y) : CpSt w y g2 cap2 bs := ⟨h.row.below hb, h.gl, belowT h.b hb⟩
theorem cp_row {w w2 w5 : World} {v1 : Value} {bs : List Nat} (B : Below w.heap.size w w2) (hl : 0 < bs.length) (hA : w5.ownsRow w2.heap.size 5 1 v1 (0 + bs.length) ([] ++ u8v bs))
    (gA : (w2.alloc (.cells #[] 5)).grownBy w5 (Value.slice (some ⟨w2.heap.size, 0, none⟩) 0 0).ownBlock) : ∃ g2 cap2, v1 = .slice (some ⟨g2, 0, none⟩) bs.length cap2 ∧ CpSt w w5 g2 cap2 bs := by
  have bA := copy_below hA gA
  rw [Nat.zero_add, List.nil_append] at hA
  obtain ⟨g2, cap2, ev, gb, r2⟩ := RowU.of hA hl
  exact ⟨g2, cap2, ev, r2, Nat.le_trans B.size gb, belowT B bA⟩
def EndAt (w : World) (nm : ByteArray) (v : Value) (E : List Nat) : Prop := ∀ x, Below w.heap.size w x → Calls Try.prog 8 #[.string nm, v] x fun e w' => ∃ y, e = .returned (.tuple #[y, .int .i64 0]) ∧ BytesAt w' y E ∧ Below x.heap.size x w'
def GoodCp (nm : ByteArray) (bs : List Nat) (L : Nat) (E : List Nat) (R : Bool) : Prop := ∀ (x : World) (g cap : Nat) (y : Value), RowU x g cap bs → BytesAt x y E → Calls Try.prog 11 #[.string nm, .slice (some ⟨g, 0, none⟩) L cap, y] x fun e w' => e = .returned (.bool R) ∧ Below x.heap.size x w'

set_option maxRecDepth 100000 in
set_option maxHeartbeats 4000000 in
theorem sone_A (w : World) (a0 : Int) (h0 : 0 ≤ a0) (h0b : a0 < 256) (nm : ByteArray) (kk : Nat) (hk9 : (kk : Int) < 9) (ha : a0 % 9 = (kk : Int)) (g o cap : Nat) (bs E : List Nat) (hl1 : 1 ≤ (bs.length : Int)) (hl2 : (bs.length : Int) ≤ 200) (hb0 : Hid (ByB w g o bs)) (a2 : Int) (h2 : 0 ≤ a2) (h2b : a2 < 65536)
    (j x d : Nat) (hj : Hid (a2 % (bs.length : Int) = (j : Int))) (hjl : (j : Int) < (bs.length : Int)) (hx : Hid (∃ h : j < bs.length, bs[j] = x)) (f1 : ((x : Int) == (d : Int)) = true)
    (aw : AwC5) (cN : ∀ x, Calls Try.prog 12 #[] x fun e w' => ∃ gn cn, e = .returned (.slice (some ⟨gn, 0, none⟩) 9 cn) ∧ w'.cell? ⟨gn, kk, none⟩ = some (.string nm) ∧ Below x.heap.size x w') (cE : EndAt w nm (.slice (some ⟨g, o, none⟩) bs.length cap) E) (cG : GoodCp nm (bs.set j d) bs.length E true) :
    Calls Try.prog 4 #[.int .u8 a0, .slice (some ⟨g, o, none⟩) bs.length cap, .int .u16 a2, .int .u8 (d : Int)] w fun e w' => e = .returned (.bool true) ∧ Below w.heap.size w w' := by
  obtain ⟨i0, hi, hz0, hz1, hz2⟩ := info_parts info_u8
  have hne : ((bs.length : Int) == 0) = false := by rw [beq_eq_false_iff_ne]; omega
  have cN' : Hid (∀ x, Calls Try.prog 12 #[] x fun e w' => ∃ gn cn, e = .returned (.slice (some ⟨gn, 0, none⟩) 9 cn) ∧ w'.cell? ⟨gn, kk, none⟩ = some (.string nm) ∧ Below x.heap.size x w') := cN
  clear cN
  go_enter Try.func4, Try.ntmps4
  go_wp2_with fail
  refine (aw _).mono ?_
  rintro e w1 ⟨rfl, hb⟩
  have B : Hid (Below w.heap.size w w1) := hb
  clear hb
  go_wp2_with fail
  refine (cN'.out _).mono ?_
  rintro e w2 ⟨gn, cn, rfl, nc, hb⟩
  replace B : Hid (Below w.heap.size w w2) := belowT B.out hb
  clear hb cN'
  have nw : Hid (∀ q y, (u8v bs)[q]? = some y → (w2.alloc (.cells #[] 5)).cell? ((⟨g, o, none⟩ : Addr).add q) = some y) := bytes_news hb0.out.i hb0.out.g (B.out.alloc B.out.size _)
  have h63 : 0 + bs.length ≤ maxLen := by unfold maxLen; omega
  have hby : (0 + bs.length) * 1 ≤ 140737488355328 := by omega
  have hj1 := hj.out
  go_wp2_with (at_builtin; refine wpList_append_own _ rfl _ _ 22 rfl w2.heap.size 5 i0 (.int .u8 0) 1 1 Try.underlying22 hi hz0 hz1 hz2 rfl (by decide) _ _ _ rfl (row_zeroU w2) ⟨g, o, none⟩ bs.length cap (u8v bs) rfl (by simp) nw.out (bytes_one bs) h63 hby (by simp) ?_; intro v1 w5 hA gA _; obtain ⟨g2, cap2, rfl, st⟩ := cp_row B.out (by omega) hA gA; replace st : Hid (CpSt w w5 g2 cap2 bs) := st; clear hA gA; obtain ⟨hjn, hxe⟩ := hx.out; have cj := st.out.row.cell j hjn; rw [hxe] at cj; obtain ⟨cj, fj⟩ := cj; clear hxe; have st2 : Hid (CpSt w (w5.setCell ⟨g2, j, none⟩ (.int .u8 (d : Int))) g2 cap2 (bs.set j d)) := st.out.set j d)
  refine (cE _ st2.out.b).mono ?_
  rintro e w6 ⟨y, rfl, hy, hb⟩
  have Y : Hid (BytesAt w6 y E) := hy
  have st3 : Hid (CpSt w w6 g2 cap2 (bs.set j d)) := st2.out.below hb
  clear hb hy st st2 cj fj hj1 nc
  go_wp2_with fail
  refine (cG _ _ _ _ st3.out.row Y.out).mono ?_
  rintro e w7 ⟨rfl, hb⟩
  have B7 : Hid (Below w.heap.size w w7) := belowT st3.out.b hb
  clear hb st3
  go_wp2
  go_ret
  exact ⟨rfl, B7.out⟩

set_option maxRecDepth 100000 in
set_option maxHeartbeats 4000000 in
theorem sone_B (w : World) (a0 : Int) (h0 : 0 ≤ a0) (h0b : a0 < 256) (nm : ByteArray) (kk : Nat) (hk9 : (kk : Int) < 9) (ha : a0 % 9 = (kk : Int)) (g o cap : Nat) (bs E : List Nat) (hl1 : 1 ≤ (bs.length : Int)) (hl2 : (bs.length : Int) ≤ 200) (hb0 : Hid (ByB w g o bs)) (a2 : Int) (h2 : 0 ≤ a2) (h2b : a2 < 65536)
    (j x d : Nat) (hj : Hid (a2 % (bs.length : Int) = (j : Int))) (hjl : (j : Int) < (bs.length : Int)) (hx : Hid (∃ h : j < bs.length, bs[j] = x)) (f1 : ((x : Int) == (d : Int)) = false) (f2 : (nm.toList == [110, 111, 110, 101]) = true)
    (aw : AwC5) (cN : ∀ x, Calls Try.prog 12 #[] x fun e w' => ∃ gn cn, e = .returned (.slice (some ⟨gn, 0, none⟩) 9 cn) ∧ w'.cell? ⟨gn, kk, none⟩ = some (.string nm) ∧ Below x.heap.size x w') (cE : EndAt w nm (.slice (some ⟨g, o, none⟩) bs.length cap) E) (cG : GoodCp nm (bs.set j d) bs.length E true) :
    Calls Try.prog 4 #[.int .u8 a0, .slice (some ⟨g, o, none⟩) bs.length cap, .int .u16 a2, .int .u8 (d : Int)] w fun e w' => e = .returned (.bool true) ∧ Below w.heap.size w w' := by
  obtain ⟨i0, hi, hz0, hz1, hz2⟩ := info_parts info_u8
  have hne : ((bs.length : Int) == 0) = false := by rw [beq_eq_false_iff_ne]; omega
  have cN' : Hid (∀ x, Calls Try.prog 12 #[] x fun e w' => ∃ gn cn, e = .returned (.slice (some ⟨gn, 0, none⟩) 9 cn) ∧ w'.cell? ⟨gn, kk, none⟩ = some (.string nm) ∧ Below x.heap.size x w') := cN
  clear cN
  go_enter Try.func4, Try.ntmps4
  go_wp2_with fail
  refine (aw _).mono ?_
  rintro e w1 ⟨rfl, hb⟩
  have B : Hid (Below w.heap.size w w1) := hb
  clear hb
  go_wp2_with fail
  refine (cN'.out _).mono ?_
  rintro e w2 ⟨gn, cn, rfl, nc, hb⟩
  replace B : Hid (Below w.heap.size w w2) := belowT B.out hb
  clear hb cN'
  have nw : Hid (∀ q y, (u8v bs)[q]? = some y → (w2.alloc (.cells #[] 5)).cell? ((⟨g, o, none⟩ : Addr).add q) = some y) := bytes_news hb0.out.i hb0.out.g (B.out.alloc B.out.size _)
  have h63 : 0 + bs.length ≤ maxLen := by unfold maxLen; omega
  have hby : (0 + bs.length) * 1 ≤ 140737488355328 := by omega
  have hj1 := hj.out
  go_wp2_with (at_builtin; refine wpList_append_own _ rfl _ _ 22 rfl w2.heap.size 5 i0 (.int .u8 0) 1 1 Try.underlying22 hi hz0 hz1 hz2 rfl (by decide) _ _ _ rfl (row_zeroU w2) ⟨g, o, none⟩ bs.length cap (u8v bs) rfl (by simp) nw.out (bytes_one bs) h63 hby (by simp) ?_; intro v1 w5 hA gA _; obtain ⟨g2, cap2, rfl, st⟩ := cp_row B.out (by omega) hA gA; replace st : Hid (CpSt w w5 g2 cap2 bs) := st; clear hA gA; obtain ⟨hjn, hxe⟩ := hx.out; have cj := st.out.row.cell j hjn; rw [hxe] at cj; obtain ⟨cj, fj⟩ := cj; clear hxe; have st2 : Hid (CpSt w (w5.setCell ⟨g2, j, none⟩ (.int .u8 (d : Int))) g2 cap2 (bs.set j d)) := st.out.set j d)
  refine (cE _ st2.out.b).mono ?_
  rintro e w6 ⟨y, rfl, hy, hb⟩
  have Y : Hid (BytesAt w6 y E) := hy
  have st3 : Hid (CpSt w w6 g2 cap2 (bs.set j d)) := st2.out.below hb
  clear hb hy st st2 cj fj hj1 nc
  go_wp2_with fail
  refine (cG _ _ _ _ st3.out.row Y.out).mono ?_
  rintro e w7 ⟨rfl, hb⟩
  have B7 : Hid (Below w.heap.size w w7) := belowT st3.out.b hb
  clear hb st3
  go_wp2
  go_ret
  exact ⟨rfl, B7.out⟩

set_option maxRecDepth 100000 in
set_option maxHeartbeats 4000000 in
theorem sone_C (w : World) (a0 : Int) (h0 : 0 ≤ a0) (h0b : a0 < 256) (nm : ByteArray) (kk : Nat) (hk9 : (kk : Int) < 9) (ha : a0 % 9 = (kk : Int)) (g o cap : Nat) (bs E : List Nat) (hl1 : 1 ≤ (bs.length : Int)) (hl2 : (bs.length : Int) ≤ 200) (hb0 : Hid (ByB w g o bs)) (a2 : Int) (h2 : 0 ≤ a2) (h2b : a2 < 65536)
    (j x d : Nat) (hj : Hid (a2 % (bs.length : Int) = (j : Int))) (hjl : (j : Int) < (bs.length : Int)) (hx : Hid (∃ h : j < bs.length, bs[j] = x)) (f1 : ((x : Int) == (d : Int)) = false) (f2 : (nm.toList == [110, 111, 110, 101]) = false) (f3 : (nm.toList == [102, 108, 101, 116, 99, 104, 101, 114]) = false)
    (aw : AwC5) (cN : ∀ x, Calls Try.prog 12 #[] x fun e w' => ∃ gn cn, e = .returned (.slice (some ⟨gn, 0, none⟩) 9 cn) ∧ w'.cell? ⟨gn, kk, none⟩ = some (.string nm) ∧ Below x.heap.size x w') (cE : EndAt w nm (.slice (some ⟨g, o, none⟩) bs.length cap) E) (cG : GoodCp nm (bs.set j d) bs.length E false) :
    Calls Try.prog 4 #[.int .u8 a0, .slice (some ⟨g, o, none⟩) bs.length cap, .int .u16 a2, .int .u8 (d : Int)] w fun e w' => e = .returned (.bool true) ∧ Below w.heap.size w w' := by
  obtain ⟨i0, hi, hz0, hz1, hz2⟩ := info_parts info_u8
  have hne : ((bs.length : Int) == 0) = false := by rw [beq_eq_false_iff_ne]; omega
  have cN' : Hid (∀ x, Calls Try.prog 12 #[] x fun e w' => ∃ gn cn, e = .returned (.slice (some ⟨gn, 0, none⟩) 9 cn) ∧ w'.cell? ⟨gn, kk, none⟩ = some (.string nm) ∧ Below x.heap.size x w') := cN
  clear cN
  go_enter Try.func4, Try.ntmps4
  go_wp2_with fail
  refine (aw _).mono ?_
  rintro e w1 ⟨rfl, hb⟩
  have B : Hid (Below w.heap.size w w1) := hb
  clear hb
  go_wp2_with fail
  refine (cN'.out _).mono ?_
  rintro e w2 ⟨gn, cn, rfl, nc, hb⟩
  replace B : Hid (Below w.heap.size w w2) := belowT B.out hb
  clear hb cN'
  have nw : Hid (∀ q y, (u8v bs)[q]? = some y → (w2.alloc (.cells #[] 5)).cell? ((⟨g, o, none⟩ : Addr).add q) = some y) := bytes_news hb0.out.i hb0.out.g (B.out.alloc B.out.size _)
  have h63 : 0 + bs.length ≤ maxLen := by unfold maxLen; omega
  have hby : (0 + bs.length) * 1 ≤ 140737488355328 := by omega
  have hj1 := hj.out
  go_wp2_with (at_builtin; refine wpList_append_own _ rfl _ _ 22 rfl w2.heap.size 5 i0 (.int .u8 0) 1 1 Try.underlying22 hi hz0 hz1 hz2 rfl (by decide) _ _ _ rfl (row_zeroU w2) ⟨g, o, none⟩ bs.length cap (u8v bs) rfl (by simp) nw.out (bytes_one bs) h63 hby (by simp) ?_; intro v1 w5 hA gA _; obtain ⟨g2, cap2, rfl, st⟩ := cp_row B.out (by omega) hA gA; replace st : Hid (CpSt w w5 g2 cap2 bs) := st; clear hA gA; obtain ⟨hjn, hxe⟩ := hx.out; have cj := st.out.row.cell j hjn; rw [hxe] at cj; obtain ⟨cj, fj⟩ := cj; clear hxe; have st2 : Hid (CpSt w (w5.setCell ⟨g2, j, none⟩ (.int .u8 (d : Int))) g2 cap2 (bs.set j d)) := st.out.set j d)
  refine (cE _ st2.out.b).mono ?_
  rintro e w6 ⟨y, rfl, hy, hb⟩
  have Y : Hid (BytesAt w6 y E) := hy
  have st3 : Hid (CpSt w w6 g2 cap2 (bs.set j d)) := st2.out.below hb
  clear hb hy st st2 cj fj hj1 nc
  go_wp2_with fail
  refine (cG _ _ _ _ st3.out.row Y.out).mono ?_
  rintro e w7 ⟨rfl, hb⟩
  have B7 : Hid (Below w.heap.size w w7) := belowT st3.out.b hb
  clear hb st3
  go_wp2
  go_ret
  exact ⟨rfl, B7.out⟩

set_option maxRecDepth 100000 in
set_option maxHeartbeats 4000000 in
theorem sone_D (w : World) (a0 : Int) (h0 : 0 ≤ a0) (h0b : a0 < 256) (nm : ByteArray) (kk : Nat) (hk9 : (kk : Int) < 9) (ha : a0 % 9 = (kk : Int)) (g o cap : Nat) (bs E : List Nat) (hl1 : 1 ≤ (bs.length : Int)) (hl2 : (bs.length : Int) ≤ 200) (hb0 : Hid (ByB w g o bs)) (a2 : Int) (h2 : 0 ≤ a2) (h2b : a2 < 65536)
    (j x d : Nat) (hj : Hid (a2 % (bs.length : Int) = (j : Int))) (hjl : (j : Int) < (bs.length : Int)) (hx : Hid (∃ h : j < bs.length, bs[j] = x)) (f1 : ((x : Int) == (d : Int)) = false) (f2 : (nm.toList == [110, 111, 110, 101]) = false) (f3 : (nm.toList == [102, 108, 101, 116, 99, 104, 101, 114]) = true) (f4 : ((x : Int) == 0) = true) (f5 : ((d : Int) == 255) = true)
    (aw : AwC5) (cN : ∀ x, Calls Try.prog 12 #[] x fun e w' => ∃ gn cn, e = .returned (.slice (some ⟨gn, 0, none⟩) 9 cn) ∧ w'.cell? ⟨gn, kk, none⟩ = some (.string nm) ∧ Below x.heap.size x w') (cE : EndAt w nm (.slice (some ⟨g, o, none⟩) bs.length cap) E) (cG : GoodCp nm (bs.set j d) bs.length E true) :
    Calls Try.prog 4 #[.int .u8 a0, .slice (some ⟨g, o, none⟩) bs.length cap, .int .u16 a2, .int .u8 (d : Int)] w fun e w' => e = .returned (.bool true) ∧ Below w.heap.size w w' := by
  obtain ⟨i0, hi, hz0, hz1, hz2⟩ := info_parts info_u8
  have hne : ((bs.length : Int) == 0) = false := by rw [beq_eq_false_iff_ne]; omega
  have cN' : Hid (∀ x, Calls Try.prog 12 #[] x fun e w' => ∃ gn cn, e = .returned (.slice (some ⟨gn, 0, none⟩) 9 cn) ∧ w'.cell? ⟨gn, kk, none⟩ = some (.string nm) ∧ Below x.heap.size x w') := cN
  clear cN
  go_enter Try.func4, Try.ntmps4
  go_wp2_with fail
  refine (aw _).mono ?_
  rintro e w1 ⟨rfl, hb⟩
  have B : Hid (Below w.heap.size w w1) := hb
  clear hb
  go_wp2_with fail
  refine (cN'.out _).mono ?_
  rintro e w2 ⟨gn, cn, rfl, nc, hb⟩
  replace B : Hid (Below w.heap.size w w2) := belowT B.out hb
  clear hb cN'
  have nw : Hid (∀ q y, (u8v bs)[q]? = some y → (w2.alloc (.cells #[] 5)).cell? ((⟨g, o, none⟩ : Addr).add q) = some y) := bytes_news hb0.out.i hb0.out.g (B.out.alloc B.out.size _)
  have h63 : 0 + bs.length ≤ maxLen := by unfold maxLen; omega
  have hby : (0 + bs.length) * 1 ≤ 140737488355328 := by omega
  have hj1 := hj.out
  go_wp2_with (at_builtin; refine wpList_append_own _ rfl _ _ 22 rfl w2.heap.size 5 i0 (.int .u8 0) 1 1 Try.underlying22 hi hz0 hz1 hz2 rfl (by decide) _ _ _ rfl (row_zeroU w2) ⟨g, o, none⟩ bs.length cap (u8v bs) rfl (by simp) nw.out (bytes_one bs) h63 hby (by simp) ?_; intro v1 w5 hA gA _; obtain ⟨g2, cap2, rfl, st⟩ := cp_row B.out (by omega) hA gA; replace st : Hid (CpSt w w5 g2 cap2 bs) := st; clear hA gA; obtain ⟨hjn, hxe⟩ := hx.out; have cj := st.out.row.cell j hjn; rw [hxe] at cj; obtain ⟨cj, fj⟩ := cj; clear hxe; have st2 : Hid (CpSt w (w5.setCell ⟨g2, j, none⟩ (.int .u8 (d : Int))) g2 cap2 (bs.set j d)) := st.out.set j d)
  refine (cE _ st2.out.b).mono ?_
  rintro e w6 ⟨y, rfl, hy, hb⟩
  have Y : Hid (BytesAt w6 y E) := hy
  have st3 : Hid (CpSt w w6 g2 cap2 (bs.set j d)) := st2.out.below hb
  clear hb hy st st2 cj fj hj1 nc
  go_wp2_with fail
  refine (cG _ _ _ _ st3.out.row Y.out).mono ?_
  rintro e w7 ⟨rfl, hb⟩
  have B7 : Hid (Below w.heap.size w w7) := belowT st3.out.b hb
  clear hb st3
  go_wp2
  go_ret
  exact ⟨rfl, B7.out⟩

set_option maxRecDepth 100000 in
set_option maxHeartbeats 4000000 in
theorem sone_E (w : World) (a0 : Int) (h0 : 0 ≤ a0) (h0b : a0 < 256) (nm : ByteArray) (kk : Nat) (hk9 : (kk : Int) < 9) (ha : a0 % 9 = (kk : Int)) (g o cap : Nat) (bs E : List Nat) (hl1 : 1 ≤ (bs.length : Int)) (hl2 : (bs.length : Int) ≤ 200) (hb0 : Hid (ByB w g o bs)) (a2 : Int) (h2 : 0 ≤ a2) (h2b : a2 < 65536)
    (j x d : Nat) (hj : Hid (a2 % (bs.length : Int) = (j : Int))) (hjl : (j : Int) < (bs.length : Int)) (hx : Hid (∃ h : j < bs.length, bs[j] = x)) (f1 : ((x : Int) == (d : Int)) = false) (f2 : (nm.toList == [110, 111, 110, 101]) = false) (f3 : (nm.toList == [102, 108, 101, 116, 99, 104, 101, 114]) = true) (f4 : ((x : Int) == 0) = false) (f5 : ((x : Int) == 255) = true) (f6 : ((d : Int) == 0) = true)
    (aw : AwC5) (cN : ∀ x, Calls Try.prog 12 #[] x fun e w' => ∃ gn cn, e = .returned (.slice (some ⟨gn, 0, none⟩) 9 cn) ∧ w'.cell? ⟨gn, kk, none⟩ = some (.string nm) ∧ Below x.heap.size x w') (cE : EndAt w nm (.slice (some ⟨g, o, none⟩) bs.length cap) E) (cG : GoodCp nm (bs.set j d) bs.length E true) :
    Calls Try.prog 4 #[.int .u8 a0, .slice (some ⟨g, o, none⟩) bs.length cap, .int .u16 a2, .int .u8 (d : Int)] w fun e w' => e = .returned (.bool true) ∧ Below w.heap.size w w' := by
  obtain ⟨i0, hi, hz0, hz1, hz2⟩ := info_parts info_u8
  have hne : ((bs.length : Int) == 0) = false := by rw [beq_eq_false_iff_ne]; omega
  have cN' : Hid (∀ x, Calls Try.prog 12 #[] x fun e w' => ∃ gn cn, e = .returned (.slice (some ⟨gn, 0, none⟩) 9 cn) ∧ w'.cell? ⟨gn, kk, none⟩ = some (.string nm) ∧ Below x.heap.size x w') := cN
  clear cN
  go_enter Try.func4, Try.ntmps4
  go_wp2_with fail
  refine (aw _).mono ?_
  rintro e w1 ⟨rfl, hb⟩
  have B : Hid (Below w.heap.size w w1) := hb
  clear hb
  go_wp2_with fail
  refine (cN'.out _).mono ?_
  rintro e w2 ⟨gn, cn, rfl, nc, hb⟩
  replace B : Hid (Below w.heap.size w w2) := belowT B.out hb
  clear hb cN'
  have nw : Hid (∀ q y, (u8v bs)[q]? = some y → (w2.alloc (.cells #[] 5)).cell? ((⟨g, o, none⟩ : Addr).add q) = some y) := bytes_news hb0.out.i hb0.out.g (B.out.alloc B.out.size _)
  have h63 : 0 + bs.length ≤ maxLen := by unfold maxLen; omega
  have hby : (0 + bs.length) * 1 ≤ 140737488355328 := by omega
  have hj1 := hj.out
  go_wp2_with (at_builtin; refine wpList_append_own _ rfl _ _ 22 rfl w2.heap.size 5 i0 (.int .u8 0) 1 1 Try.underlying22 hi hz0 hz1 hz2 rfl (by decide) _ _ _ rfl (row_zeroU w2) ⟨g, o, none⟩ bs.length cap (u8v bs) rfl (by simp) nw.out (bytes_one bs) h63 hby (by simp) ?_; intro v1 w5 hA gA _; obtain ⟨g2, cap2, rfl, st⟩ := cp_row B.out (by omega) hA gA; replace st : Hid (CpSt w w5 g2 cap2 bs) := st; clear hA gA; obtain ⟨hjn, hxe⟩ := hx.out; have cj := st.out.row.cell j hjn; rw [hxe] at cj; obtain ⟨cj, fj⟩ := cj; clear hxe; have st2 : Hid (CpSt w (w5.setCell ⟨g2, j, none⟩ (.int .u8 (d : Int))) g2 cap2 (bs.set j d)) := st.out.set j d)
  refine (cE _ st2.out.b).mono ?_
  rintro e w6 ⟨y, rfl, hy, hb⟩
  have Y : Hid (BytesAt w6 y E) := hy
  have st3 : Hid (CpSt w w6 g2 cap2 (bs.set j d)) := st2.out.below hb
  clear hb hy st st2 cj fj hj1 nc
  go_wp2_with fail
  refine (cG _ _ _ _ st3.out.row Y.out).mono ?_
  rintro e w7 ⟨rfl, hb⟩
  have B7 : Hid (Below w.heap.size w w7) := belowT st3.out.b hb
  clear hb st3
  go_wp2
  go_ret
  exact ⟨rfl, B7.out⟩

set_option maxRecDepth 100000 in
set_option maxHeartbeats 4000000 in
theorem sone_F (w : World) (a0 : Int) (h0 : 0 ≤ a0) (h0b : a0 < 256) (nm : ByteArray) (kk : Nat) (hk9 : (kk : Int) < 9) (ha : a0 % 9 = (kk : Int)) (g o cap : Nat) (bs E : List Nat) (hl1 : 1 ≤ (bs.length : Int)) (hl2 : (bs.length : Int) ≤ 200) (hb0 : Hid (ByB w g o bs)) (a2 : Int) (h2 : 0 ≤ a2) (h2b : a2 < 65536)
    (j x d : Nat) (hj : Hid (a2 % (bs.length : Int) = (j : Int))) (hjl : (j : Int) < (bs.length : Int)) (hx : Hid (∃ h : j < bs.length, bs[j] = x)) (f1 : ((x : Int) == (d : Int)) = false) (f2 : (nm.toList == [110, 111, 110, 101]) = false) (f3 : (nm.toList == [102, 108, 101, 116, 99, 104, 101, 114]) = true) (f4 : ((x : Int) == 0) = true) (f5 : ((d : Int) == 255) = false) (f6 : ((x : Int) == 255) = false)
    (aw : AwC5) (cN : ∀ x, Calls Try.prog 12 #[] x fun e w' => ∃ gn cn, e = .returned (.slice (some ⟨gn, 0, none⟩) 9 cn) ∧ w'.cell? ⟨gn, kk, none⟩ = some (.string nm) ∧ Below x.heap.size x w') (cE : EndAt w nm (.slice (some ⟨g, o, none⟩) bs.length cap) E) (cG : GoodCp nm (bs.set j d) bs.length E false) :
    Calls Try.prog 4 #[.int .u8 a0, .slice (some ⟨g, o, none⟩) bs.length cap, .int .u16 a2, .int .u8 (d : Int)] w fun e w' => e = .returned (.bool true) ∧ Below w.heap.size w w' := by
  obtain ⟨i0, hi, hz0, hz1, hz2⟩ := info_parts info_u8
  have hne : ((bs.length : Int) == 0) = false := by rw [beq_eq_false_iff_ne]; omega
  have cN' : Hid (∀ x, Calls Try.prog 12 #[] x fun e w' => ∃ gn cn, e = .returned (.slice (some ⟨gn, 0, none⟩) 9 cn) ∧ w'.cell? ⟨gn, kk, none⟩ = some (.string nm) ∧ Below x.heap.size x w') := cN
  clear cN
  go_enter Try.func4, Try.ntmps4
  go_wp2_with fail
  refine (aw _).mono ?_
  rintro e w1 ⟨rfl, hb⟩
  have B : Hid (Below w.heap.size w w1) := hb
  clear hb
  go_wp2_with fail
  refine (cN'.out _).mono ?_
  rintro e w2 ⟨gn, cn, rfl, nc, hb⟩
  replace B : Hid (Below w.heap.size w w2) := belowT B.out hb
  clear hb cN'
  have nw : Hid (∀ q y, (u8v bs)[q]? = some y → (w2.alloc (.cells #[] 5)).cell? ((⟨g, o, none⟩ : Addr).add q) = some y) := bytes_news hb0.out.i hb0.out.g (B.out.alloc B.out.size _)
  have h63 : 0 + bs.length ≤ maxLen := by unfold maxLen; omega
  have hby : (0 + bs.length) * 1 ≤ 140737488355328 := by omega
  have hj1 := hj.out
  go_wp2_with (at_builtin; refine wpList_append_own _ rfl _ _ 22 rfl w2.heap.size 5 i0 (.int .u8 0) 1 1 Try.underlying22 hi hz0 hz1 hz2 rfl (by decide) _ _ _ rfl (row_zeroU w2) ⟨g, o, none⟩ bs.length cap (u8v bs) rfl (by simp) nw.out (bytes_one bs) h63 hby (by simp) ?_; intro v1 w5 hA gA _; obtain ⟨g2, cap2, rfl, st⟩ := cp_row B.out (by omega) hA gA; replace st : Hid (CpSt w w5 g2 cap2 bs) := st; clear hA gA; obtain ⟨hjn, hxe⟩ := hx.out; have cj := st.out.row.cell j hjn; rw [hxe] at cj; obtain ⟨cj, fj⟩ := cj; clear hxe; have st2 : Hid (CpSt w (w5.setCell ⟨g2, j, none⟩ (.int .u8 (d : Int))) g2 cap2 (bs.set j d)) := st.out.set j d)
  refine (cE _ st2.out.b).mono ?_
  rintro e w6 ⟨y, rfl, hy, hb⟩
  have Y : Hid (BytesAt w6 y E) := hy
  have st3 : Hid (CpSt w w6 g2 cap2 (bs.set j d)) := st2.out.below hb
  clear hb hy st st2 cj fj hj1 nc
  go_wp2_with fail
  refine (cG _ _ _ _ st3.out.row Y.out).mono ?_
  rintro e w7 ⟨rfl, hb⟩
  have B7 : Hid (Below w.heap.size w w7) := belowT st3.out.b hb
  clear hb st3
  go_wp2
  go_ret
  exact ⟨rfl, B7.out⟩

set_option maxRecDepth 100000 in
set_option maxHeartbeats 4000000 in
theorem sone_G (w : World) (a0 : Int) (h0 : 0 ≤ a0) (h0b : a0 < 256) (nm : ByteArray) (kk : Nat) (hk9 : (kk : Int) < 9) (ha : a0 % 9 = (kk : Int)) (g o cap : Nat) (bs E : List Nat) (hl1 : 1 ≤ (bs.length : Int)) (hl2 : (bs.length : Int) ≤ 200) (hb0 : Hid (ByB w g o bs)) (a2 : Int) (h2 : 0 ≤ a2) (h2b : a2 < 65536)
    (j x d : Nat) (hj : Hid (a2 % (bs.length : Int) = (j : Int))) (hjl : (j : Int) < (bs.length : Int)) (hx : Hid (∃ h : j < bs.length, bs[j] = x)) (f1 : ((x : Int) == (d : Int)) = false) (f2 : (nm.toList == [110, 111, 110, 101]) = false) (f3 : (nm.toList == [102, 108, 101, 116, 99, 104, 101, 114]) = true) (f4 : ((x : Int) == 0) = false) (f5 : ((x : Int) == 255) = true) (f6 : ((d : Int) == 0) = false)
    (aw : AwC5) (cN : ∀ x, Calls Try.prog 12 #[] x fun e w' => ∃ gn cn, e = .returned (.slice (some ⟨gn, 0, none⟩) 9 cn) ∧ w'.cell? ⟨gn, kk, none⟩ = some (.string nm) ∧ Below x.heap.size x w') (cE : EndAt w nm (.slice (some ⟨g, o, none⟩) bs.length cap) E) (cG : GoodCp nm (bs.set j d) bs.length E false) :
    Calls Try.prog 4 #[.int .u8 a0, .slice (some ⟨g, o, none⟩) bs.length cap, .int .u16 a2, .int .u8 (d : Int)] w fun e w' => e = .returned (.bool true) ∧ Below w.heap.size w w' := by
  obtain ⟨i0, hi, hz0, hz1, hz2⟩ := info_parts info_u8
  have hne : ((bs.length : Int) == 0) = false := by rw [beq_eq_false_iff_ne]; omega
  have cN' : Hid (∀ x, Calls Try.prog 12 #[] x fun e w' => ∃ gn cn, e = .returned (.slice (some ⟨gn, 0, none⟩) 9 cn) ∧ w'.cell? ⟨gn, kk, none⟩ = some (.string nm) ∧ Below x.heap.size x w') := cN
  clear cN
  go_enter Try.func4, Try.ntmps4
  go_wp2_with fail
  refine (aw _).mono ?_
  rintro e w1 ⟨rfl, hb⟩
  have B : Hid (Below w.heap.size w w1) := hb
  clear hb
  go_wp2_with fail
  refine (cN'.out _).mono ?_
  rintro e w2 ⟨gn, cn, rfl, nc, hb⟩
  replace B : Hid (Below w.heap.size w w2) := belowT B.out hb
  clear hb cN'
  have nw : Hid (∀ q y, (u8v bs)[q]? = some y → (w2.alloc (.cells #[] 5)).cell? ((⟨g, o, none⟩ : Addr).add q) = some y) := bytes_news hb0.out.i hb0.out.g (B.out.alloc B.out.size _)
  have h63 : 0 + bs.length ≤ maxLen := by unfold maxLen; omega
  have hby : (0 + bs.length) * 1 ≤ 140737488355328 := by omega
  have hj1 := hj.out
  go_wp2_with (at_builtin; refine wpList_append_own _ rfl _ _ 22 rfl w2.heap.size 5 i0 (.int .u8 0) 1 1 Try.underlying22 hi hz0 hz1 hz2 rfl (by decide) _ _ _ rfl (row_zeroU w2) ⟨g, o, none⟩ bs.length cap (u8v bs) rfl (by simp) nw.out (bytes_one bs) h63 hby (by simp) ?_; intro v1 w5 hA gA _; obtain ⟨g2, cap2, rfl, st⟩ := cp_row B.out (by omega) hA gA; replace st : Hid (CpSt w w5 g2 cap2 bs) := st; clear hA gA; obtain ⟨hjn, hxe⟩ := hx.out; have cj := st.out.row.cell j hjn; rw [hxe] at cj; obtain ⟨cj, fj⟩ := cj; clear hxe; have st2 : Hid (CpSt w (w5.setCell ⟨g2, j, none⟩ (.int .u8 (d : Int))) g2 cap2 (bs.set j d)) := st.out.set j d)
  refine (cE _ st2.out.b).mono ?_
  rintro e w6 ⟨y, rfl, hy, hb⟩
  have Y : Hid (BytesAt w6 y E) := hy
  have st3 : Hid (CpSt w w6 g2 cap2 (bs.set j d)) := st2.out.below hb
  clear hb hy st st2 cj fj hj1 nc
  go_wp2_with fail
  refine (cG _ _ _ _ st3.out.row Y.out).mono ?_
  rintro e w7 ⟨rfl, hb⟩
  have B7 : Hid (Below w.heap.size w w7) := belowT st3.out.b hb
  clear hb st3
  go_wp2
  go_ret
  exact ⟨rfl, B7.out⟩

set_option maxRecDepth 100000 in
set_option maxHeartbeats 4000000 in
theorem sone_H (w : World) (a0 : Int) (h0 : 0 ≤ a0) (h0b : a0 < 256) (nm : ByteArray) (kk : Nat) (hk9 : (kk : Int) < 9) (ha : a0 % 9 = (kk : Int)) (g o cap : Nat) (bs E : List Nat) (hl1 : 1 ≤ (bs.length : Int)) (hl2 : (bs.length : Int) ≤ 200) (hb0 : Hid (ByB w g o bs)) (a2 : Int) (h2 : 0 ≤ a2) (h2b : a2 < 65536)
    (j x d : Nat) (hj : Hid (a2 % (bs.length : Int) = (j : Int))) (hjl : (j : Int) < (bs.length : Int)) (hx : Hid (∃ h : j < bs.length, bs[j] = x)) (f1 : ((x : Int) == (d : Int)) = false) (f2 : (nm.toList == [110, 111, 110, 101]) = false) (f3 : (nm.toList == [102, 108, 101, 116, 99, 104, 101, 114]) = true) (f4 : ((x : Int) == 0) = false) (f5 : ((x : Int) == 255) = false)
    (aw : AwC5) (cN : ∀ x, Calls Try.prog 12 #[] x fun e w' => ∃ gn cn, e = .returned (.slice (some ⟨gn, 0, none⟩) 9 cn) ∧ w'.cell? ⟨gn, kk, none⟩ = some (.string nm) ∧ Below x.heap.size x w') (cE : EndAt w nm (.slice (some ⟨g, o, none⟩) bs.length cap) E) (cG : GoodCp nm (bs.set j d) bs.length E false) :
    Calls Try.prog 4 #[.int .u8 a0, .slice (some ⟨g, o, none⟩) bs.length cap, .int .u16 a2, .int .u8 (d : Int)] w fun e w' => e = .returned (.bool true) ∧ Below w.heap.size w w' := by
  obtain ⟨i0, hi, hz0, hz1, hz2⟩ := info_parts info_u8
  have hne : ((bs.length : Int) == 0) = false := by rw [beq_eq_false_iff_ne]; omega
  have cN' : Hid (∀ x, Calls Try.prog 12 #[] x fun e w' => ∃ gn cn, e = .returned (.slice (some ⟨gn, 0, none⟩) 9 cn) ∧ w'.cell? ⟨gn, kk, none⟩ = some (.string nm) ∧ Below x.heap.size x w') := cN
  clear cN
  go_enter Try.func4, Try.ntmps4
  go_wp2_with fail
  refine (aw _).mono ?_
  rintro e w1 ⟨rfl, hb⟩
  have B : Hid (Below w.heap.size w w1) := hb
  clear hb
  go_wp2_with fail
  refine (cN'.out _).mono ?_
  rintro e w2 ⟨gn, cn, rfl, nc, hb⟩
  replace B : Hid (Below w.heap.size w w2) := belowT B.out hb
  clear hb cN'
  have nw : Hid (∀ q y, (u8v bs)[q]? = some y → (w2.alloc (.cells #[] 5)).cell? ((⟨g, o, none⟩ : Addr).add q) = some y) := bytes_news hb0.out.i hb0.out.g (B.out.alloc B.out.size _)
  have h63 : 0 + bs.length ≤ maxLen := by unfold maxLen; omega
  have hby : (0 + bs.length) * 1 ≤ 140737488355328 := by omega
  have hj1 := hj.out
  go_wp2_with (at_builtin; refine wpList_append_own _ rfl _ _ 22 rfl w2.heap.size 5 i0 (.int .u8 0) 1 1 Try.underlying22 hi hz0 hz1 hz2 rfl (by decide) _ _ _ rfl (row_zeroU w2) ⟨g, o, none⟩ bs.length cap (u8v bs) rfl (by simp) nw.out (bytes_one bs) h63 hby (by simp) ?_; intro v1 w5 hA gA _; obtain ⟨g2, cap2, rfl, st⟩ := cp_row B.out (by omega) hA gA; replace st : Hid (CpSt w w5 g2 cap2 bs) := st; clear hA gA; obtain ⟨hjn, hxe⟩ := hx.out; have cj := st.out.row.cell j hjn; rw [hxe] at cj; obtain ⟨cj, fj⟩ := cj; clear hxe; have st2 : Hid (CpSt w (w5.setCell ⟨g2, j, none⟩ (.int .u8 (d : Int))) g2 cap2 (bs.set j d)) := st.out.set j d)
  refine (cE _ st2.out.b).mono ?_
  rintro e w6 ⟨y, rfl, hy, hb⟩
  have Y : Hid (BytesAt w6 y E) := hy
  have st3 : Hid (CpSt w w6 g2 cap2 (bs.set j d)) := st2.out.below hb
  clear hb hy st st2 cj fj hj1 nc
  go_wp2_with fail
  refine (cG _ _ _ _ st3.out.row Y.out).mono ?_
  rintro e w7 ⟨rfl, hb⟩
  have B7 : Hid (Below w.heap.size w w7) := belowT st3.out.b hb
  clear hb st3
  go_wp2
  go_ret
  exact ⟨rfl, B7.out⟩

set_option maxRecDepth 100000 in
set_option maxHeartbeats 2000000 in
theorem sone_nil (w : World) (a0 a2 a3 : Int) (aw : AwC5) : Calls Try.prog 4 #[.int .u8 a0, .slice none 0 0, .int .u16 a2, .int .u8 a3] w fun e w' => e = .returned (.bool true) ∧ Below w.heap.size w w' := by
  go_enter Try.func4, Try.ntmps4
  go_wp2_with fail
  refine (aw _).mono ?_
  rintro e w1 ⟨rfl, hb⟩
  have B : Hid (Below w.heap.size w w1) := hb
  clear hb
  go_wp2_with fail
  refine (aw _).mono ?_
  rintro e w2 ⟨rfl, hb⟩
  replace B : Hid (Below w.heap.size w w2) := belowT B.out hb
  clear hb
  go_wp2
  go_ret
  exact ⟨rfl, B.out⟩

set_option maxRecDepth 100000 in
set_option maxHeartbeats 2000000 in
theorem sone_zero (w : World) (a0 a2 a3 : Int) (g o cap : Nat) (aw : AwC5) : Calls Try.prog 4 #[.int .u8 a0, .slice (some ⟨g, o, none⟩) 0 cap, .int .u16 a2, .int .u8 a3] w fun e w' => e = .returned (.bool true) ∧ Below w.heap.size w w' := by
  go_enter Try.func4, Try.ntmps4
  go_wp2_with fail
  refine (aw _).mono ?_
  rintro e w1 ⟨rfl, hb⟩
  have B : Hid (Below w.heap.size w w1) := hb
  clear hb
  go_wp2_with fail
  refine (aw _).mono ?_
  rintro e w2 ⟨rfl, hb⟩
  replace B : Hid (Below w.heap.size w w2) := belowT B.out hb
  clear hb
  go_wp2
  go_ret
  exact ⟨rfl, B.out⟩

set_option maxRecDepth 100000 in
set_option maxHeartbeats 2000000 in
theorem sone_long (w : World) (a0 a2 a3 : Int) (g o L cap : Nat) (hl : 200 < (L : Int)) (aw : AwC5) : Calls Try.prog 4 #[.int .u8 a0, .slice (some ⟨g, o, none⟩) L cap, .int .u16 a2, .int .u8 a3] w fun e w' => e = .returned (.bool true) ∧ Below w.heap.size w w' := by
  go_enter Try.func4, Try.ntmps4
  go_wp2_with fail
  refine (aw _).mono ?_
  rintro e w1 ⟨rfl, hb⟩
  have B : Hid (Below w.heap.size w w1) := hb
  clear hb
  go_wp2_with fail
  refine (aw _).mono ?_
  rintro e w2 ⟨rfl, hb⟩
  replace B : Hid (Below w.heap.size w w2) := belowT B.out hb
  clear hb
  go_wp2
  go_ret
  exact ⟨rfl, B.out⟩

theorem nm_none {k : Nat} (h : k < 9) : ((nameN k).toList == [110, 111, 110, 101]) = decide (k = 0) := by
  match k, h with
  | 0, _ => rw [ByteArray.toList_eq]; rfl
  | 1, _ => rw [ByteArray.toList_eq]; rfl
  | 2, _ => rw [ByteArray.toList_eq]; rfl
  | 3, _ => rw [ByteArray.toList_eq]; rfl
  | 4, _ => rw [ByteArray.toList_eq]; rfl
  | 5, _ => rw [ByteArray.toList_eq]; rfl
  | 6, _ => rw [ByteArray.toList_eq]; rfl
  | 7, _ => rw [ByteArray.toList_eq]; rfl
  | 8, _ => rw [ByteArray.toList_eq]; rfl
theorem nm_fle {k : Nat} (h : k < 9) : ((nameN k).toList == [102, 108, 101, 116, 99, 104, 101, 114]) = decide (k = 4) := by
  match k, h with
  | 0, _ => rw [ByteArray.toList_eq]; rfl
  | 1, _ => rw [ByteArray.toList_eq]; rfl
  | 2, _ => rw [ByteArray.toList_eq]; rfl
  | 3, _ => rw [ByteArray.toList_eq]; rfl
  | 4, _ => rw [ByteArray.toList_eq]; rfl
  | 5, _ => rw [ByteArray.toList_eq]; rfl
  | 6, _ => rw [ByteArray.toList_eq]; rfl
  | 7, _ => rw [ByteArray.toList_eq]; rfl
  | 8, _ => rw [ByteArray.toList_eq]; rfl
theorem set_all {bs : List Nat} {j u : Nat} (h : AllBytes bs) (hu : u < 256) : AllBytes (bs.set j u) := fun c hc => by
  rcases List.mem_or_eq_of_mem_set hc with h1 | h1
  · exact h c h1
  · rw [h1]; exact hu
/-- the law, out of the contracts of Of, Good and Names -/
theorem sone_any (h : OfP) (hG : GoodP) (hN : NamesP) (w : World) (a0 : Nat) (h0 : a0 < 256) (v : Value) (bs : List Nat) (hv : BytesV w v bs) (hb : AllBytes bs) (a2 : Nat) (h2 : a2 < 65536) (a3 : Nat) (h3 : a3 < 256) :
    Calls Try.prog 4 #[.int .u8 (a0 : Int), v, .int .u16 (a2 : Int), .int .u8 (a3 : Int)] w fun e w' => e = .returned (.bool true) ∧ Below w.heap.size w w' := by
  have aw := awake5 h
  rcases hv with ⟨rfl, rfl⟩ | ⟨g, o, cap, rfl, q1, q2, q3, q4⟩
  · exact sone_nil w _ _ _ aw
  by_cases hl0 : bs = []
  · subst hl0
    exact sone_zero w _ _ _ g o cap aw
  have hlp : 0 < bs.length := List.length_pos_iff.2 hl0
  by_cases hl : (bs.length : Int) ≤ 200
  · have hj : a2 % bs.length < bs.length := Nat.mod_lt _ hlp
    have hk : a0 % 9 < 9 := Nat.mod_lt _ (by omega)
    have hc : bs[a2 % bs.length] < 256 := hb _ (List.getElem_mem hj)
    have cN : ∀ x, Calls Try.prog 12 #[] x fun e w' => ∃ gn cn, e = .returned (.slice (some ⟨gn, 0, none⟩) 9 cn) ∧ w'.cell? ⟨gn, a0 % 9, none⟩ = some (.string (nameN (a0 % 9))) ∧ Below x.heap.size x w' := fun x =>
      (hN x).mono fun e w' ⟨gn, cn, he, hn, _, hb⟩ => ⟨gn, cn, he, hn _ hk, hb⟩
    have hv : BytesAt w (.slice (some ⟨g, o, none⟩) bs.length cap) bs := .inr ⟨g, o, cap, rfl, q3, q4⟩
    have cE : EndAt w (nameN (a0 % 9)) (.slice (some ⟨g, o, none⟩) bs.length cap) (endK (a0 % 9) bs) := fun x hx => h _ _ bs x hk (hv.below hx) (by omega) hb
    have e1 : bs = bs.take (a2 % bs.length) ++ bs[a2 % bs.length] :: bs.drop (a2 % bs.length + 1) := by rw [← List.drop_eq_getElem_cons hj, List.take_append_drop]
    have e2 : bs.set (a2 % bs.length) a3 = bs.take (a2 % bs.length) ++ a3 :: bs.drop (a2 % bs.length + 1) := by rw [List.set_eq_take_append_cons_drop, if_pos hj]
    have eo : (endK (a0 % 9) bs = endK (a0 % 9) (bs.set (a2 % bs.length) a3)) ↔ sameK (a0 % 9) bs[a2 % bs.length] a3 = true := by
      rw [e2]
      conv => lhs; lhs; rw [e1]
      exact eq_comm.trans (end_one hk _ _ _ _ hc h3)
    have cG : ∀ R : Bool, sameK (a0 % 9) bs[a2 % bs.length] a3 = R → GoodCp (nameN (a0 % 9)) (bs.set (a2 % bs.length) a3) bs.length (endK (a0 % 9) bs) R := by
      intro R hR x gg cc y hr hy
      have rt := hr.at
      rw [List.length_set] at rt
      have k := hG (a0 % 9) _ y (bs.set (a2 % bs.length) a3) (endK (a0 % 9) bs) x hk rt (by rw [List.length_set]; omega) (set_all hb h3) hy (by rw [end_len hk]; unfold sizeK; split <;> omega) (end_bytes hk hb)
      have er : decide (endK (a0 % 9) bs = endK (a0 % 9) (bs.set (a2 % bs.length) a3)) = R := by
        rw [← hR, Bool.eq_iff_iff, decide_eq_true_iff]; exact eo
      rw [er] at k
      exact k
    have sm : ∀ P : Prop, [Decidable P] → (sameK (a0 % 9) bs[a2 % bs.length] a3 = true ↔ P) → sameK (a0 % 9) bs[a2 % bs.length] a3 = decide P := fun P _ hP => by
      rw [Bool.eq_iff_iff, decide_eq_true_iff]; exact hP
    have sd : sameK (a0 % 9) bs[a2 % bs.length] a3 = true ↔ (bs[a2 % bs.length] = a3 ∨ a0 % 9 = 0 ∨ (a0 % 9 = 4 ∧ ((bs[a2 % bs.length] = 0 ∧ a3 = 255) ∨ (bs[a2 % bs.length] = 255 ∧ a3 = 0)))) := by unfold sameK; rw [decide_eq_true_iff]
    have yes : (bs[a2 % bs.length] = a3 ∨ a0 % 9 = 0 ∨ (a0 % 9 = 4 ∧ ((bs[a2 % bs.length] = 0 ∧ a3 = 255) ∨ (bs[a2 % bs.length] = 255 ∧ a3 = 0)))) → sameK (a0 % 9) bs[a2 % bs.length] a3 = true := sd.2
    have no : ¬ (bs[a2 % bs.length] = a3 ∨ a0 % 9 = 0 ∨ (a0 % 9 = 4 ∧ ((bs[a2 % bs.length] = 0 ∧ a3 = 255) ∨ (bs[a2 % bs.length] = 255 ∧ a3 = 0)))) → sameK (a0 % 9) bs[a2 % bs.length] a3 = false := fun q => by
      rw [Bool.eq_false_iff]; exact fun t => q (sd.1 t)
    have bt : ∀ a b : Nat, a = b → ((a : Int) == (b : Int)) = true := fun a b q => by rw [q]; simp
    have bf : ∀ a b : Nat, ¬ a = b → ((a : Int) == (b : Int)) = false := fun a b q => by rw [beq_eq_false_iff_ne]; omega
    have n0 := nm_none hk
    have n4 := nm_fle hk
    by_cases f1 : bs[a2 % bs.length] = a3
    · exact sone_A w (a0 : Int) (by omega) (by omega) (nameN (a0 % 9)) (a0 % 9) (by omega) (by omega) g o cap bs (endK (a0 % 9) bs) (by omega) hl ⟨q3, q4⟩ (a2 : Int) (by omega) (by omega) (a2 % bs.length) bs[a2 % bs.length] a3 (by show _ = _; simp) (by omega) ⟨hj, rfl⟩ (bt _ _ f1) aw cN cE (cG true (yes (.inl f1)))
    by_cases f2 : a0 % 9 = 0
    · exact sone_B w (a0 : Int) (by omega) (by omega) (nameN (a0 % 9)) (a0 % 9) (by omega) (by omega) g o cap bs (endK (a0 % 9) bs) (by omega) hl ⟨q3, q4⟩ (a2 : Int) (by omega) (by omega) (a2 % bs.length) bs[a2 % bs.length] a3 (by show _ = _; simp) (by omega) ⟨hj, rfl⟩ (bf _ _ f1) (by rw [n0]; exact decide_eq_true f2) aw cN cE (cG true (yes (.inr (.inl f2))))
    by_cases f3 : a0 % 9 = 4
    · by_cases f4 : bs[a2 % bs.length] = 0
      · by_cases f5 : a3 = 255
        · exact sone_D w (a0 : Int) (by omega) (by omega) (nameN (a0 % 9)) (a0 % 9) (by omega) (by omega) g o cap bs (endK (a0 % 9) bs) (by omega) hl ⟨q3, q4⟩ (a2 : Int) (by omega) (by omega) (a2 % bs.length) bs[a2 % bs.length] a3 (by show _ = _; simp) (by omega) ⟨hj, rfl⟩ (bf _ _ f1) (by rw [n0]; exact decide_eq_false f2) (by rw [n4]; exact decide_eq_true f3) (bt _ 0 f4) (bt _ 255 f5) aw cN cE (cG true (yes (.inr (.inr ⟨f3, .inl ⟨f4, f5⟩⟩))))
        · exact sone_F w (a0 : Int) (by omega) (by omega) (nameN (a0 % 9)) (a0 % 9) (by omega) (by omega) g o cap bs (endK (a0 % 9) bs) (by omega) hl ⟨q3, q4⟩ (a2 : Int) (by omega) (by omega) (a2 % bs.length) bs[a2 % bs.length] a3 (by show _ = _; simp) (by omega) ⟨hj, rfl⟩ (bf _ _ f1) (by rw [n0]; exact decide_eq_false f2) (by rw [n4]; exact decide_eq_true f3) (bt _ 0 f4) (bf _ 255 f5) (bf _ 255 (by omega)) aw cN cE (cG false (no (by omega)))
      · by_cases f5 : bs[a2 % bs.length] = 255
        · by_cases f6 : a3 = 0
          · exact sone_E w (a0 : Int) (by omega) (by omega) (nameN (a0 % 9)) (a0 % 9) (by omega) (by omega) g o cap bs (endK (a0 % 9) bs) (by omega) hl ⟨q3, q4⟩ (a2 : Int) (by omega) (by omega) (a2 % bs.length) bs[a2 % bs.length] a3 (by show _ = _; simp) (by omega) ⟨hj, rfl⟩ (bf _ _ f1) (by rw [n0]; exact decide_eq_false f2) (by rw [n4]; exact decide_eq_true f3) (bf _ 0 f4) (bt _ 255 f5) (bt _ 0 f6) aw cN cE (cG true (yes (.inr (.inr ⟨f3, .inr ⟨f5, f6⟩⟩))))
          · exact sone_G w (a0 : Int) (by omega) (by omega) (nameN (a0 % 9)) (a0 % 9) (by omega) (by omega) g o cap bs (endK (a0 % 9) bs) (by omega) hl ⟨q3, q4⟩ (a2 : Int) (by omega) (by omega) (a2 % bs.length) bs[a2 % bs.length] a3 (by show _ = _; simp) (by omega) ⟨hj, rfl⟩ (bf _ _ f1) (by rw [n0]; exact decide_eq_false f2) (by rw [n4]; exact decide_eq_true f3) (bf _ 0 f4) (bt _ 255 f5) (bf _ 0 f6) aw cN cE (cG false (no (by omega)))
        · exact sone_H w (a0 : Int) (by omega) (by omega) (nameN (a0 % 9)) (a0 % 9) (by omega) (by omega) g o cap bs (endK (a0 % 9) bs) (by omega) hl ⟨q3, q4⟩ (a2 : Int) (by omega) (by omega) (a2 % bs.length) bs[a2 % bs.length] a3 (by show _ = _; simp) (by omega) ⟨hj, rfl⟩ (bf _ _ f1) (by rw [n0]; exact decide_eq_false f2) (by rw [n4]; exact decide_eq_true f3) (bf _ 0 f4) (bf _ 255 f5) aw cN cE (cG false (no (by omega)))
    · exact sone_C w (a0 : Int) (by omega) (by omega) (nameN (a0 % 9)) (a0 % 9) (by omega) (by omega) g o cap bs (endK (a0 % 9) bs) (by omega) hl ⟨q3, q4⟩ (a2 : Int) (by omega) (by omega) (a2 % bs.length) bs[a2 % bs.length] a3 (by show _ = _; simp) (by omega) ⟨hj, rfl⟩ (bf _ _ f1) (by rw [n0]; exact decide_eq_false f2) (by rw [n4]; exact decide_eq_false f3) aw cN cE (cG false (no (by omega)))
  · exact sone_long w _ _ _ g o bs.length cap (by omega) aw
end Go.Proofs.Ytoocppfdcalmfaa
