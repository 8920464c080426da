/-
  The ways through the law on sizes (layer 5), out of the contracts. Conditions: as each says.
-/
import Derived.Test.YtoocppfdcalmfaaSumOneA
namespace Go.Proofs.Ytoocppfdcalmfaa
open Go.RowKit
set_option linter.unusedVariables false

theorem names_ne {i k : Nat} (hi : i < 9) (hk : k < 9) (h : k < i) : ((nameN i).toList == (nameN k).toList) = false := by
  refine txt_no fun e => ?_
  have := congrArg whichN e
  rw [which_name hi, which_name hk] at this
  omega
/-- what is kept while the names are looked at -/
structure NmSt (w x : World) (gn : Nat) : Prop where
  n : NamesIn x gn
  g : gn < x.heap.size
  b : Below w.heap.size w x
theorem NmSt.drewN {w x : World} {gn : Nat} (h : NmSt w x gn) (n : Nat) : NmSt w (x.drewN n) gn := ⟨h.n, h.g, below_drN h.b n⟩
/-- how long the ending is -/
def LenAt (w : World) (nm : ByteArray) (v : Value) (N : Nat) : Prop := ∀ x, Below w.heap.size w x → Calls Try.prog 8 #[.string nm, v] x fun e w' => ∃ y, e = .returned (.tuple #[y, .int .i64 0]) ∧ ((y = .slice none 0 0 ∧ N = 0) ∨ ∃ g o cap, y = .slice (some ⟨g, o, none⟩) N cap) ∧ Below x.heap.size x w'
def RefAt (nm : ByteArray) : Prop := ∀ x, Calls Try.prog 10 #[.string nm, .slice none 0 0] x fun e w' => ∃ y, e = .returned (.tuple #[y, .bool true]) ∧ Below x.heap.size x w'
def SzAt (nm : ByteArray) (N : Nat) : Prop := ∀ x, Calls Try.prog 9 #[.string nm] x fun e w' => e = .returned (.tuple #[.int .i64 (N : Int), .bool true]) ∧ Below x.heap.size x w'
theorem lenAt (h : OfP) {k : Nat} (hk : k < 9) {w : World} {v : Value} {bs : List Nat} (hv : BytesAt w v bs) (hl : (bs.length : Int) ≤ 300) (hb : AllBytes bs) : LenAt w (nameN k) v (sizeK k) := fun x hx =>
  (h k v bs x hk (hv.below hx) hl hb).mono fun e w' ⟨y, he, hy, hb⟩ => by
    refine ⟨y, he, ?_, hb⟩
    have e1 := end_len hk bs
    rcases hy with ⟨h1, h2⟩ | ⟨g, o, cap, h1, _⟩
    · left; rw [h2] at e1; exact ⟨h1, e1.symm⟩
    · right; rw [e1] at h1; exact ⟨g, o, cap, h1⟩
theorem size_le {k : Nat} (hk : k < 9) : sizeK k ≤ 4 := by unfold sizeK; split <;> omega

set_option maxRecDepth 100000 in
set_option maxHeartbeats 4000000 in
theorem sizes_NN (w : World) (a0 : Int) (h0 : 0 ≤ a0) (h0b : a0 < 256) (nm : ByteArray) (kk : Nat) (hk9 : (kk : Int) < 9) (ha : Hid (a0 % 9 = (kk : Int))) (hnm : Hid (nameN kk = nm)) (N : Nat) (hN : (N : Int) ≤ 4)
    (aw : AwC5) (cN : NamesP) (cR : RefAt nm) (cB : LenAt w nm (.slice none 0 0) N) (cC : LenAt w nm (.slice none 0 0) N) (cS : SzAt nm N) :
    Calls Try.prog 6 #[.int .u8 a0, .slice none 0 0, .slice none 0 0] w fun e w' => e = .returned (.bool true) ∧ Below w.heap.size w w' := by
  go_enter Try.func6, Try.ntmps6
  go_wp2_with fail
  refine (aw _).mono ?_
  rintro e w1 ⟨rfl, hb⟩
  have B : Hid (Below w.heap.size w w1) := hb
  clear hb
  go_wp2_with fail
  refine (cN _).mono ?_
  rintro e w2 ⟨gn, cn, rfl, hn, hg, hb⟩
  have st0 : Hid (NmSt w w2 gn) := ⟨hn, hg, belowT B.out hb⟩
  clear hb hn hg B cN
  go_wp2
  go_loopw [8] (fun i wr => ∃ q : Nat, (q : Int) ≤ 9 ∧ i = .int .i64 (q : Int) ∧ Hid (NmSt w wr gn)) (fun i _ => 9 - (intOf i).toNat)
  case atStart => exact ⟨0, by omega, rfl, st0⟩
  case round =>
    obtain ⟨q, hq, rfl, st⟩ := hrel
    clear st0
    by_cases hlt : (q : Int) < 9
    · go_wp2
      go_loopw [9] (fun j wq => ∃ r : Nat, (r : Int) ≤ (q : Int) ∧ j = .int .i64 (r : Int) ∧ Hid (NmSt w wq gn)) (fun j _ => q - (intOf j).toNat)
      case atStart => exact ⟨0, by omega, rfl, st⟩
      case round =>
        obtain ⟨r, hr, rfl, st1⟩ := hrel
        clear st
        by_cases hrq : (r : Int) < (q : Int)
        · have c1 := st1.out.n q (by omega)
          have c2 := st1.out.n r (by omega)
          have nq := names_ne (i := q) (k := r) (by omega) (by omega) (by omega)
          have hr9 : (r : Int) < 9 := by omega
          generalize nameN q = A at *
          generalize nameN r = A2 at *
          go_wp2_with fail
          go_quiet (fail)
          go_wp2
          exact ⟨⟨r + 1, by omega, by simp, st1.out.drewN _⟩, by simp [intOf]; omega⟩
        · go_wp2
          exact ⟨⟨q + 1, by omega, by simp, st1⟩, by simp [intOf]; omega⟩
    · obtain rfl : q = 9 := by omega
      have c1 := st.out.n kk (by omega)
      rw [hnm.out] at c1
      have B : Hid (Below w.heap.size w wr) := st.out.b
      have ha1 := ha.out
      clear st hlt hq
      go_wp2_with fail
      refine (cR _).mono ?_
      rintro e w3 ⟨y0, rfl, hb⟩
      replace B : Hid (Below w.heap.size w w3) := belowT B.out hb
      clear hb c1 ha1
      go_wp2_with fail
      refine (cB _ B.out).mono ?_
      rintro e w4 ⟨y1, rfl, f1, hb⟩
      replace B : Hid (Below w.heap.size w w4) := belowT B.out hb
      replace f1 : Hid ((y1 = .slice none 0 0 ∧ N = 0) ∨ ∃ g o cap, y1 = .slice (some ⟨g, o, none⟩) N cap) := f1
      clear hb
      go_wp2_with fail
      refine (cC _ B.out).mono ?_
      rintro e w5 ⟨y2, rfl, f2, hb⟩
      replace B : Hid (Below w.heap.size w w5) := belowT B.out hb
      replace f2 : Hid ((y2 = .slice none 0 0 ∧ N = 0) ∨ ∃ g o cap, y2 = .slice (some ⟨g, o, none⟩) N cap) := f2
      clear hb
      go_wp2_with fail
      refine (cS _).mono ?_
      rintro e w6 ⟨rfl, hb⟩
      replace B : Hid (Below w.heap.size w w6) := belowT B.out hb
      clear hb cS cC cB cR aw
      rcases f1.out with ⟨rfl, rfl⟩ | ⟨ga, oa, ca, rfl⟩
      · rcases f2.out with ⟨rfl, _⟩ | ⟨gb, ob, cb, rfl⟩
        all_goals
          clear f1 f2
          go_wp2
          go_ret
          exact ⟨rfl, B.out⟩
      · rcases f2.out with ⟨rfl, rfl⟩ | ⟨gb, ob, cb, rfl⟩
        all_goals
          clear f1 f2
          go_wp2
          go_ret
          exact ⟨rfl, B.out⟩

set_option maxRecDepth 100000 in
set_option maxHeartbeats 4000000 in
theorem sizes_NR (w : World) (a0 : Int) (h0 : 0 ≤ a0) (h0b : a0 < 256) (nm : ByteArray) (kk : Nat) (hk9 : (kk : Int) < 9) (ha : Hid (a0 % 9 = (kk : Int))) (hnm : Hid (nameN kk = nm)) (N : Nat) (hN : (N : Int) ≤ 4) (g2 o2 L2 c2 : Nat) (hl2 : (L2 : Int) ≤ 200)
    (aw : AwC5) (cN : NamesP) (cR : RefAt nm) (cB : LenAt w nm (.slice none 0 0) N) (cC : LenAt w nm (.slice (some ⟨g2, o2, none⟩) L2 c2) N) (cS : SzAt nm N) :
    Calls Try.prog 6 #[.int .u8 a0, .slice none 0 0, .slice (some ⟨g2, o2, none⟩) L2 c2] w fun e w' => e = .returned (.bool true) ∧ Below w.heap.size w w' := by
  go_enter Try.func6, Try.ntmps6
  go_wp2_with fail
  refine (aw _).mono ?_
  rintro e w1 ⟨rfl, hb⟩
  have B : Hid (Below w.heap.size w w1) := hb
  clear hb
  go_wp2_with fail
  refine (cN _).mono ?_
  rintro e w2 ⟨gn, cn, rfl, hn, hg, hb⟩
  have st0 : Hid (NmSt w w2 gn) := ⟨hn, hg, belowT B.out hb⟩
  clear hb hn hg B cN
  go_wp2
  go_loopw [8] (fun i wr => ∃ q : Nat, (q : Int) ≤ 9 ∧ i = .int .i64 (q : Int) ∧ Hid (NmSt w wr gn)) (fun i _ => 9 - (intOf i).toNat)
  case atStart => exact ⟨0, by omega, rfl, st0⟩
  case round =>
    obtain ⟨q, hq, rfl, st⟩ := hrel
    clear st0
    by_cases hlt : (q : Int) < 9
    · go_wp2
      go_loopw [9] (fun j wq => ∃ r : Nat, (r : Int) ≤ (q : Int) ∧ j = .int .i64 (r : Int) ∧ Hid (NmSt w wq gn)) (fun j _ => q - (intOf j).toNat)
      case atStart => exact ⟨0, by omega, rfl, st⟩
      case round =>
        obtain ⟨r, hr, rfl, st1⟩ := hrel
        clear st
        by_cases hrq : (r : Int) < (q : Int)
        · have c1 := st1.out.n q (by omega)
          have c2 := st1.out.n r (by omega)
          have nq := names_ne (i := q) (k := r) (by omega) (by omega) (by omega)
          have hr9 : (r : Int) < 9 := by omega
          generalize nameN q = A at *
          generalize nameN r = A2 at *
          go_wp2_with fail
          go_quiet (fail)
          go_wp2
          exact ⟨⟨r + 1, by omega, by simp, st1.out.drewN _⟩, by simp [intOf]; omega⟩
        · go_wp2
          exact ⟨⟨q + 1, by omega, by simp, st1⟩, by simp [intOf]; omega⟩
    · obtain rfl : q = 9 := by omega
      have c1 := st.out.n kk (by omega)
      rw [hnm.out] at c1
      have B : Hid (Below w.heap.size w wr) := st.out.b
      have ha1 := ha.out
      clear st hlt hq
      go_wp2_with fail
      refine (cR _).mono ?_
      rintro e w3 ⟨y0, rfl, hb⟩
      replace B : Hid (Below w.heap.size w w3) := belowT B.out hb
      clear hb c1 ha1
      go_wp2_with fail
      refine (cB _ B.out).mono ?_
      rintro e w4 ⟨y1, rfl, f1, hb⟩
      replace B : Hid (Below w.heap.size w w4) := belowT B.out hb
      replace f1 : Hid ((y1 = .slice none 0 0 ∧ N = 0) ∨ ∃ g o cap, y1 = .slice (some ⟨g, o, none⟩) N cap) := f1
      clear hb
      go_wp2_with fail
      refine (cC _ B.out).mono ?_
      rintro e w5 ⟨y2, rfl, f2, hb⟩
      replace B : Hid (Below w.heap.size w w5) := belowT B.out hb
      replace f2 : Hid ((y2 = .slice none 0 0 ∧ N = 0) ∨ ∃ g o cap, y2 = .slice (some ⟨g, o, none⟩) N cap) := f2
      clear hb
      go_wp2_with fail
      refine (cS _).mono ?_
      rintro e w6 ⟨rfl, hb⟩
      replace B : Hid (Below w.heap.size w w6) := belowT B.out hb
      clear hb cS cC cB cR aw
      rcases f1.out with ⟨rfl, rfl⟩ | ⟨ga, oa, ca, rfl⟩
      · rcases f2.out with ⟨rfl, _⟩ | ⟨gb, ob, cb, rfl⟩
        all_goals
          clear f1 f2
          go_wp2
          go_ret
          exact ⟨rfl, B.out⟩
      · rcases f2.out with ⟨rfl, rfl⟩ | ⟨gb, ob, cb, rfl⟩
        all_goals
          clear f1 f2
          go_wp2
          go_ret
          exact ⟨rfl, B.out⟩

set_option maxRecDepth 100000 in
set_option maxHeartbeats 4000000 in
theorem sizes_RN (w : World) (a0 : Int) (h0 : 0 ≤ a0) (h0b : a0 < 256) (nm : ByteArray) (kk : Nat) (hk9 : (kk : Int) < 9) (ha : Hid (a0 % 9 = (kk : Int))) (hnm : Hid (nameN kk = nm)) (N : Nat) (hN : (N : Int) ≤ 4) (g1 o1 L1 c1 : Nat) (hl1 : (L1 : Int) ≤ 200)
    (aw : AwC5) (cN : NamesP) (cR : RefAt nm) (cB : LenAt w nm (.slice (some ⟨g1, o1, none⟩) L1 c1) N) (cC : LenAt w nm (.slice none 0 0) N) (cS : SzAt nm N) :
    Calls Try.prog 6 #[.int .u8 a0, .slice (some ⟨g1, o1, none⟩) L1 c1, .slice none 0 0] w fun e w' => e = .returned (.bool true) ∧ Below w.heap.size w w' := by
  go_enter Try.func6, Try.ntmps6
  go_wp2_with fail
  refine (aw _).mono ?_
  rintro e w1 ⟨rfl, hb⟩
  have B : Hid (Below w.heap.size w w1) := hb
  clear hb
  go_wp2_with fail
  refine (cN _).mono ?_
  rintro e w2 ⟨gn, cn, rfl, hn, hg, hb⟩
  have st0 : Hid (NmSt w w2 gn) := ⟨hn, hg, belowT B.out hb⟩
  clear hb hn hg B cN
  go_wp2
  go_loopw [8] (fun i wr => ∃ q : Nat, (q : Int) ≤ 9 ∧ i = .int .i64 (q : Int) ∧ Hid (NmSt w wr gn)) (fun i _ => 9 - (intOf i).toNat)
  case atStart => exact ⟨0, by omega, rfl, st0⟩
  case round =>
    obtain ⟨q, hq, rfl, st⟩ := hrel
    clear st0
    by_cases hlt : (q : Int) < 9
    · go_wp2
      go_loopw [9] (fun j wq => ∃ r : Nat, (r : Int) ≤ (q : Int) ∧ j = .int .i64 (r : Int) ∧ Hid (NmSt w wq gn)) (fun j _ => q - (intOf j).toNat)
      case atStart => exact ⟨0, by omega, rfl, st⟩
      case round =>
        obtain ⟨r, hr, rfl, st1⟩ := hrel
        clear st
        by_cases hrq : (r : Int) < (q : Int)
        · have c1 := st1.out.n q (by omega)
          have c2 := st1.out.n r (by omega)
          have nq := names_ne (i := q) (k := r) (by omega) (by omega) (by omega)
          have hr9 : (r : Int) < 9 := by omega
          generalize nameN q = A at *
          generalize nameN r = A2 at *
          go_wp2_with fail
          go_quiet (fail)
          go_wp2
          exact ⟨⟨r + 1, by omega, by simp, st1.out.drewN _⟩, by simp [intOf]; omega⟩
        · go_wp2
          exact ⟨⟨q + 1, by omega, by simp, st1⟩, by simp [intOf]; omega⟩
    · obtain rfl : q = 9 := by omega
      have c1 := st.out.n kk (by omega)
      rw [hnm.out] at c1
      have B : Hid (Below w.heap.size w wr) := st.out.b
      have ha1 := ha.out
      clear st hlt hq
      go_wp2_with fail
      refine (cR _).mono ?_
      rintro e w3 ⟨y0, rfl, hb⟩
      replace B : Hid (Below w.heap.size w w3) := belowT B.out hb
      clear hb c1 ha1
      go_wp2_with fail
      refine (cB _ B.out).mono ?_
      rintro e w4 ⟨y1, rfl, f1, hb⟩
      replace B : Hid (Below w.heap.size w w4) := belowT B.out hb
      replace f1 : Hid ((y1 = .slice none 0 0 ∧ N = 0) ∨ ∃ g o cap, y1 = .slice (some ⟨g, o, none⟩) N cap) := f1
      clear hb
      go_wp2_with fail
      refine (cC _ B.out).mono ?_
      rintro e w5 ⟨y2, rfl, f2, hb⟩
      replace B : Hid (Below w.heap.size w w5) := belowT B.out hb
      replace f2 : Hid ((y2 = .slice none 0 0 ∧ N = 0) ∨ ∃ g o cap, y2 = .slice (some ⟨g, o, none⟩) N cap) := f2
      clear hb
      go_wp2_with fail
      refine (cS _).mono ?_
      rintro e w6 ⟨rfl, hb⟩
      replace B : Hid (Below w.heap.size w w6) := belowT B.out hb
      clear hb cS cC cB cR aw
      rcases f1.out with ⟨rfl, rfl⟩ | ⟨ga, oa, ca, rfl⟩
      · rcases f2.out with ⟨rfl, _⟩ | ⟨gb, ob, cb, rfl⟩
        all_goals
          clear f1 f2
          go_wp2
          go_ret
          exact ⟨rfl, B.out⟩
      · rcases f2.out with ⟨rfl, rfl⟩ | ⟨gb, ob, cb, rfl⟩
        all_goals
          clear f1 f2
          go_wp2
          go_ret
          exact ⟨rfl, B.out⟩

set_option maxRecDepth 100000 in
set_option maxHeartbeats 4000000 in
theorem sizes_RR (w : World) (a0 : Int) (h0 : 0 ≤ a0) (h0b : a0 < 256) (nm : ByteArray) (kk : Nat) (hk9 : (kk : Int) < 9) (ha : Hid (a0 % 9 = (kk : Int))) (hnm : Hid (nameN kk = nm)) (N : Nat) (hN : (N : Int) ≤ 4) (g1 o1 L1 c1 : Nat) (hl1 : (L1 : Int) ≤ 200) (g2 o2 L2 c2 : Nat) (hl2 : (L2 : Int) ≤ 200)
    (aw : AwC5) (cN : NamesP) (cR : RefAt nm) (cB : LenAt w nm (.slice (some ⟨g1, o1, none⟩) L1 c1) N) (cC : LenAt w nm (.slice (some ⟨g2, o2, none⟩) L2 c2) N) (cS : SzAt nm N) :
    Calls Try.prog 6 #[.int .u8 a0, .slice (some ⟨g1, o1, none⟩) L1 c1, .slice (some ⟨g2, o2, none⟩) L2 c2] w fun e w' => e = .returned (.bool true) ∧ Below w.heap.size w w' := by
  go_enter Try.func6, Try.ntmps6
  go_wp2_with fail
  refine (aw _).mono ?_
  rintro e w1 ⟨rfl, hb⟩
  have B : Hid (Below w.heap.size w w1) := hb
  clear hb
  go_wp2_with fail
  refine (cN _).mono ?_
  rintro e w2 ⟨gn, cn, rfl, hn, hg, hb⟩
  have st0 : Hid (NmSt w w2 gn) := ⟨hn, hg, belowT B.out hb⟩
  clear hb hn hg B cN
  go_wp2
  go_loopw [8] (fun i wr => ∃ q : Nat, (q : Int) ≤ 9 ∧ i = .int .i64 (q : Int) ∧ Hid (NmSt w wr gn)) (fun i _ => 9 - (intOf i).toNat)
  case atStart => exact ⟨0, by omega, rfl, st0⟩
  case round =>
    obtain ⟨q, hq, rfl, st⟩ := hrel
    clear st0
    by_cases hlt : (q : Int) < 9
    · go_wp2
      go_loopw [9] (fun j wq => ∃ r : Nat, (r : Int) ≤ (q : Int) ∧ j = .int .i64 (r : Int) ∧ Hid (NmSt w wq gn)) (fun j _ => q - (intOf j).toNat)
      case atStart => exact ⟨0, by omega, rfl, st⟩
      case round =>
        obtain ⟨r, hr, rfl, st1⟩ := hrel
        clear st
        by_cases hrq : (r : Int) < (q : Int)
        · have c1 := st1.out.n q (by omega)
          have c2 := st1.out.n r (by omega)
          have nq := names_ne (i := q) (k := r) (by omega) (by omega) (by omega)
          have hr9 : (r : Int) < 9 := by omega
          generalize nameN q = A at *
          generalize nameN r = A2 at *
          go_wp2_with fail
          go_quiet (fail)
          go_wp2
          exact ⟨⟨r + 1, by omega, by simp, st1.out.drewN _⟩, by simp [intOf]; omega⟩
        · go_wp2
          exact ⟨⟨q + 1, by omega, by simp, st1⟩, by simp [intOf]; omega⟩
    · obtain rfl : q = 9 := by omega
      have c1 := st.out.n kk (by omega)
      rw [hnm.out] at c1
      have B : Hid (Below w.heap.size w wr) := st.out.b
      have ha1 := ha.out
      clear st hlt hq
      go_wp2_with fail
      refine (cR _).mono ?_
      rintro e w3 ⟨y0, rfl, hb⟩
      replace B : Hid (Below w.heap.size w w3) := belowT B.out hb
      clear hb c1 ha1
      go_wp2_with fail
      refine (cB _ B.out).mono ?_
      rintro e w4 ⟨y1, rfl, f1, hb⟩
      replace B : Hid (Below w.heap.size w w4) := belowT B.out hb
      replace f1 : Hid ((y1 = .slice none 0 0 ∧ N = 0) ∨ ∃ g o cap, y1 = .slice (some ⟨g, o, none⟩) N cap) := f1
      clear hb
      go_wp2_with fail
      refine (cC _ B.out).mono ?_
      rintro e w5 ⟨y2, rfl, f2, hb⟩
      replace B : Hid (Below w.heap.size w w5) := belowT B.out hb
      replace f2 : Hid ((y2 = .slice none 0 0 ∧ N = 0) ∨ ∃ g o cap, y2 = .slice (some ⟨g, o, none⟩) N cap) := f2
      clear hb
      go_wp2_with fail
      refine (cS _).mono ?_
      rintro e w6 ⟨rfl, hb⟩
      replace B : Hid (Below w.heap.size w w6) := belowT B.out hb
      clear hb cS cC cB cR aw
      rcases f1.out with ⟨rfl, rfl⟩ | ⟨ga, oa, ca, rfl⟩
      · rcases f2.out with ⟨rfl, _⟩ | ⟨gb, ob, cb, rfl⟩
        all_goals
          clear f1 f2
          go_wp2
          go_ret
          exact ⟨rfl, B.out⟩
      · rcases f2.out with ⟨rfl, rfl⟩ | ⟨gb, ob, cb, rfl⟩
        all_goals
          clear f1 f2
          go_wp2
          go_ret
          exact ⟨rfl, B.out⟩

set_option maxRecDepth 100000 in
set_option maxHeartbeats 2000000 in
theorem sizes_long_b (w : World) (a0 : Int) (vc : Value) (g1 o1 L1 c1 : Nat) (hl : 200 < (L1 : Int)) (aw : AwC5) : Calls Try.prog 6 #[.int .u8 a0, .slice (some ⟨g1, o1, none⟩) L1 c1, vc] w fun e w' => e = .returned (.bool true) ∧ Below w.heap.size w w' := by
  go_enter Try.func6, Try.ntmps6
  go_wp2_with fail
  refine (aw _).mono ?_
  rintro e w1 ⟨rfl, hb⟩
  have B : Hid (Below w.heap.size w w1) := hb
  clear hb
  go_wp2_with fail
  refine (aw _).mono ?_
  rintro e w2 ⟨rfl, hb⟩
  replace B : Hid (Below w.heap.size w w2) := belowT B.out hb
  clear hb
  go_wp2
  go_ret
  exact ⟨rfl, B.out⟩

set_option maxRecDepth 100000 in
set_option maxHeartbeats 2000000 in
theorem sizes_long_cN (w : World) (a0 : Int) (g2 o2 L2 c2 : Nat) (hl : 200 < (L2 : Int)) (aw : AwC5) : Calls Try.prog 6 #[.int .u8 a0, .slice none 0 0, .slice (some ⟨g2, o2, none⟩) L2 c2] w fun e w' => e = .returned (.bool true) ∧ Below w.heap.size w w' := by
  go_enter Try.func6, Try.ntmps6
  go_wp2_with fail
  refine (aw _).mono ?_
  rintro e w1 ⟨rfl, hb⟩
  have B : Hid (Below w.heap.size w w1) := hb
  clear hb
  go_wp2_with fail
  refine (aw _).mono ?_
  rintro e w2 ⟨rfl, hb⟩
  replace B : Hid (Below w.heap.size w w2) := belowT B.out hb
  clear hb
  go_wp2
  go_ret
  exact ⟨rfl, B.out⟩

set_option maxRecDepth 100000 in
set_option maxHeartbeats 2000000 in
theorem sizes_long_cR (w : World) (a0 : Int) (g1 o1 L1 c1 g2 o2 L2 c2 : Nat) (hl1 : (L1 : Int) ≤ 200) (hl : 200 < (L2 : Int)) (aw : AwC5) : Calls Try.prog 6 #[.int .u8 a0, .slice (some ⟨g1, o1, none⟩) L1 c1, .slice (some ⟨g2, o2, none⟩) L2 c2] w fun e w' => e = .returned (.bool true) ∧ Below w.heap.size w w' := by
  go_enter Try.func6, Try.ntmps6
  go_wp2_with fail
  refine (aw _).mono ?_
  rintro e w1 ⟨rfl, hb⟩
  have B : Hid (Below w.heap.size w w1) := hb
  clear hb
  go_wp2_with fail
  refine (aw _).mono ?_
  rintro e w2 ⟨rfl, hb⟩
  replace B : Hid (Below w.heap.size w w2) := belowT B.out hb
  clear hb
  go_wp2
  go_ret
  exact ⟨rfl, B.out⟩

/-- the law, out of the contracts of Of, Size and Names -/
theorem sizes_any (h : OfP) (hZ : SizeP) (hN : NamesP) (w : World) (a0 : Nat) (h0 : a0 < 256) (v1 : Value) (b1 : List Nat) (hv1 : BytesV w v1 b1) (hb1 : AllBytes b1) (v2 : Value) (b2 : List Nat) (hv2 : BytesV w v2 b2) (hb2 : AllBytes b2) :
    Calls Try.prog 6 #[.int .u8 (a0 : Int), v1, v2] w fun e w' => e = .returned (.bool true) ∧ Below w.heap.size w w' := by
  have aw := awake5 h
  have hk : a0 % 9 < 9 := Nat.mod_lt _ (by omega)
  have cR : RefAt (nameN (a0 % 9)) := fun x => (rof_yes hk (.slice none 0 0) [] x (.inl ⟨rfl, rfl⟩) (by simp) (fun c hc => by cases hc)).mono fun e w' ⟨y, he, _, hb⟩ => ⟨y, he, hb⟩
  have cS : SzAt (nameN (a0 % 9)) (sizeK (a0 % 9)) := fun x => hZ _ x hk
  by_cases l1 : (b1.length : Int) ≤ 200
  · by_cases l2 : (b2.length : Int) ≤ 200
    · have cB := lenAt h hk hv1.at (by omega) hb1
      have cC := lenAt h hk hv2.at (by omega) hb2
      rcases hv1 with ⟨rfl, rfl⟩ | ⟨g1, o1, c1, rfl, _, _, _, _⟩
      · rcases hv2 with ⟨rfl, rfl⟩ | ⟨g2, o2, c2, rfl, _, _, _, _⟩
        · exact sizes_NN w (a0 : Int) (by omega) (by omega) _ (a0 % 9) (by omega) (by show _ = _; omega) rfl _ (by have := size_le hk; omega) aw hN cR cB cC cS
        · exact sizes_NR w (a0 : Int) (by omega) (by omega) _ (a0 % 9) (by omega) (by show _ = _; omega) rfl _ (by have := size_le hk; omega) g2 o2 _ c2 l2 aw hN cR cB cC cS
      · rcases hv2 with ⟨rfl, rfl⟩ | ⟨g2, o2, c2, rfl, _, _, _, _⟩
        · exact sizes_RN w (a0 : Int) (by omega) (by omega) _ (a0 % 9) (by omega) (by show _ = _; omega) rfl _ (by have := size_le hk; omega) g1 o1 _ c1 l1 aw hN cR cB cC cS
        · exact sizes_RR w (a0 : Int) (by omega) (by omega) _ (a0 % 9) (by omega) (by show _ = _; omega) rfl _ (by have := size_le hk; omega) g1 o1 _ c1 l1 g2 o2 _ c2 l2 aw hN cR cB cC cS
    · rcases hv2 with ⟨rfl, rfl⟩ | ⟨g2, o2, c2, rfl, _, _, _, _⟩
      · simp at l2
      · rcases hv1 with ⟨rfl, rfl⟩ | ⟨g1, o1, c1, rfl, _, _, _, _⟩
        · exact sizes_long_cN w _ g2 o2 _ c2 (by omega) aw
        · exact sizes_long_cR w _ g1 o1 _ c1 g2 o2 _ c2 l1 (by omega) aw
  · rcases hv1 with ⟨rfl, rfl⟩ | ⟨g1, o1, c1, rfl, _, _, _, _⟩
    · simp at l1
    · exact sizes_long_b w _ v2 g1 o1 _ c1 (by omega) aw
end Go.Proofs.Ytoocppfdcalmfaa
