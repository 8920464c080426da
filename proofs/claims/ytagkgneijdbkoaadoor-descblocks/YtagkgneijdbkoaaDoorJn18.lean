/-
  Texts that belong together, one behind the other: DsP2, DsSt, DsMean, DsMk, DsMkA, DsTake, DsTakeA, DsLack, DsRead, DsRes, DsReadK, DsReadA. Conditions: as each says.
-/
import Derived.Deep.AppendLies
import Derived.Deep.RegionHeld3
import Derived.Lib.BufferOwn
import Derived.Maps.AppendAt
import Derived.Maps.RangeRun
import Derived.Test.YtagkgneijdbkoaaDoorJn1
import Derived.Test.YtagkgneijdbkoaaDoorJn13
import Derived.Test.YtagkgneijdbkoaaDoorJn14
import Derived.Test.YtagkgneijdbkoaaDoorJn17
/-
  What the meaning of a line of field does (layer 8). Conditions: a word is at most 5000 bytes; as each says.
-/
namespace Go.Proofs.YtagkgneijdbkoaaDoor
open Go.RowKit
set_option linter.unusedVariables false

set_option maxRecDepth 100000 in
set_option maxHeartbeats 2000000 in
theorem fie_len (p : Option Addr) (n cap : Nat) (hn : ¬ n = 7) (hn2 : (n : Int) ≤ 9223372036854775807) (B : Nat) (w : World) :
    Calls Tryd.prog 36 #[.pointer (some ⟨B, 0, none⟩), .slice p n cap] w fun e w' => e = .returned (.bool false) ∧ w' = w := by
  have n1 : ((n : Int) != 7) = true := bne_iff_ne.2 (by omega)
  go_enter Tryd.func36, Tryd.ntmps36
  go_wp2
  go_ret
  exact ⟨rfl, rfl⟩

def NaA (z : Wd) (T : Bool) : Prop := ∀ w, Calls Tryd.prog 47 #[.string (txt z)] w fun e w' => e = .returned (.bool T) ∧ Below w.heap.size w w'
theorem naA (z : Wd) (hz : (z.length : Int) ≤ 5000) : NaA z (nameB z) := fun w => HM (txt z) w (by rw [txt_size]; exact hz)
def NuA (z : Wd) (lo hi V : Int) (T : Bool) : Prop := ∀ w, Calls Tryd.prog 50 #[.string (txt z), .int .i64 lo, .int .i64 hi] w fun e w' => e = .returned (.tuple #[.int .i64 V, .bool T]) ∧ w' = w
theorem nuA (z : Wd) (hz : (z.length : Int) ≤ 5000) (lo hi : Int) : NuA z lo hi (numV z lo hi) (numB z lo hi) := fun w => pnum_any (txt z) w (by rw [txt_size]; unfold maxLen; omega) lo hi
def FrA (z : Wd) (N D E : Int) : Prop := ∀ w, Calls Tryd.prog 51 #[.string (txt z)] w fun e w' => e = .returned (.tuple #[rv N D, .int .i64 E]) ∧ Below w.heap.size w w'
theorem frA (z : Wd) (hz : (z.length : Int) ≤ 5000) : FrA z (rdN (txt z)) (rdD (txt z)) (rdE (txt z)) := fun w => ratRead_any (txt z) w (by rw [txt_size]; unfold maxLen; omega)
theorem belowT2 {a b c : World} (h : Below a.heap.size a b) (k : Below b.heap.size b c) : Below a.heap.size a c := h.trans (k.mono h.size)
theorem kp {w x : World} {p : Addr} {v : Value} (h : Below w.heap.size w x) (hc : w.cell? p = some v) : x.cell? p = some v := (h.cell (block_lt_of_cell hc)).trans hc
theorem kpf {w x : World} {p : Addr} {v : Value} (h : Below w.heap.size w x) (hc : w.cell? p = some v) (hf : w.frozen? p = false) : x.frozen? p = false := (h.frozen (block_lt_of_cell hc)).trans hf
/-- seven words -/
def Seven (w : World) (g o : Nat) (n p k d s f u : Wd) : Prop := w.cell? ⟨g, o, none⟩ = some (.string (txt n)) ∧ w.cell? ⟨g, o + 1, none⟩ = some (.string (txt p)) ∧ w.cell? ⟨g, o + 2, none⟩ = some (.string (txt k)) ∧ w.cell? ⟨g, o + 3, none⟩ = some (.string (txt d)) ∧ w.cell? ⟨g, o + 4, none⟩ = some (.string (txt s)) ∧ w.cell? ⟨g, o + 5, none⟩ = some (.string (txt f)) ∧ w.cell? ⟨g, o + 6, none⟩ = some (.string (txt u))
theorem Seven.below {w x : World} {g o : Nat} {n p k d s f u : Wd} (h : Seven w g o n p k d s f u) (hb : Below w.heap.size w x) : Seven x g o n p k d s f u :=
  ⟨kp hb h.1, kp hb h.2.1, kp hb h.2.2.1, kp hb h.2.2.2.1, kp hb h.2.2.2.2.1, kp hb h.2.2.2.2.2.1, kp hb h.2.2.2.2.2.2⟩

set_option maxRecDepth 100000 in
set_option maxHeartbeats 4000000 in
theorem fie_names (n p k d s f u : Wd) (N0 N2 N6 : Bool) (h0 : NaA n N0) (h2 : NaA k N2) (h6 : NaA u N6) (hno : (N0 && (N2 && N6)) = false) (g o cap B : Nat) (w : World) (hc : Seven w g o n p k d s f u) :
    Calls Tryd.prog 36 #[.pointer (some ⟨B, 0, none⟩), .slice (some ⟨g, o, none⟩) 7 cap] w fun e w' => e = .returned (.bool false) ∧ Below w.heap.size w w' := by
  replace hc : Hid (Seven w g o n p k d s f u) := hc
  replace h0 : Hid (NaA n N0) := h0
  replace h2 : Hid (NaA k N2) := h2
  replace h6 : Hid (NaA u N6) := h6
  obtain ⟨c0, c1, c2, c3, c4, c5, c6⟩ := hc.out
  go_enter Tryd.func36, Tryd.ntmps36
  go_wp2_with fail
  refine (h0.out _).mono ?_
  rintro e w1 ⟨rfl, hb1⟩
  have B1 : Hid (Below w.heap.size w w1) := hb1
  clear c0 c1 c2 c3 c4 c5 c6 hb1
  obtain ⟨c0, c1, c2, c3, c4, c5, c6⟩ := hc.out.below B1.out
  cases N0
  · go_wp2
    go_ret
    exact ⟨rfl, B1.out⟩
  · go_wp2_with fail
    refine (h2.out _).mono ?_
    rintro e w2 ⟨rfl, hb2⟩
    have B2 : Hid (Below w.heap.size w w2) := belowT2 B1.out hb2
    clear c0 c1 c2 c3 c4 c5 c6 hb2 B1
    obtain ⟨c0, c1, c2, c3, c4, c5, c6⟩ := hc.out.below B2.out
    cases N2
    · go_wp2
      go_ret
      exact ⟨rfl, B2.out⟩
    · cases N6
      · go_wp2_with fail
        refine (h6.out _).mono ?_
        rintro e w3 ⟨rfl, hb3⟩
        have B3 : Hid (Below w.heap.size w w3) := belowT2 B2.out hb3
        clear c0 c1 c2 c3 c4 c5 c6 hb3 B2
        go_wp2
        go_ret
        exact ⟨rfl, B3.out⟩
      · cases hno

theorem ownsRow_below {w x : World} {base : Nat} {e : TypeId} {size : Nat} {v : Value} {n : Nat} {xs : List Value} (hb : Below w.heap.size w x) (h : w.ownsRow base e size v n xs) : x.ownsRow base e size v n xs := by
  refine ⟨h.1, ?_⟩
  rcases h.2 with h | ⟨g, cap, cur, h1, h2, h3, h4⟩
  · exact .inl h
  · exact .inr ⟨g, cap, cur, h1, h2, (hb.block g (Array.getElem?_eq_some_iff.1 h3).1).trans h3, h4⟩
theorem info_fd : (Tryd.prog.info? 56).map (fun i => (i.zero, i.size, i.bytes)) = some (some (.agg #[.string ⟨#[]⟩, .int .i64 0, .string ⟨#[]⟩, .int .i64 0, .int .i64 0, .int .i64 0, .int .i64 0, .int .i64 0, .string ⟨#[]⟩]), 9, 96) := by kernel_rfl

/-- what the region's operations yield -/
def fieV (B g o cap : Nat) (fv : Value) (n : Wd) (P : Int) (k : Wd) (D N1 D1 N2 D2 : Int) (u : Wd) (H : Nat) (i : Nat) : Value :=
  (#[.pointer (some ⟨B, 0, none⟩), .pointer (some ⟨B, 0, none⟩), .pointer (some ⟨B, 0, none⟩), .pointer (some ⟨B, 0, none⟩), .pointer (some ⟨B, 6, none⟩), fv,
    .slice (some ⟨g, o, none⟩) 7 cap, .pointer (some ⟨g, o, none⟩), .string (txt n), .int .i64 P, .slice (some ⟨g, o, none⟩) 7 cap, .pointer (some ⟨g, o + 2, none⟩), .string (txt k), .int .i64 D, rv N1 D1, rv N2 D2,
    .slice (some ⟨g, o, none⟩) 7 cap, .pointer (some ⟨g, o + 6, none⟩), .string (txt u), .agg #[.string (txt n), .int .i64 P, .string (txt k), .int .i64 D, .int .i64 N1, .int .i64 D1, .int .i64 N2, .int .i64 D2, .string (txt u)], .slice (some ⟨H, 0, none⟩) 1 1, undef,
    .pointer (some ⟨B, 0, none⟩), .pointer (some ⟨B, 0, none⟩), .pointer (some ⟨B, 6, none⟩)] : Array Value).getD i undef
/-- the fields with one more -/
def ApY (w8 : World) (base m : Nat) (xs : List Value) (fv : Value) (fc : List Value) (y : World) (v : Value) : Prop :=
  ∃ gg cap', v = .slice (some ⟨gg, 0, none⟩) (m + 1) cap' ∧ y.ownsRow base 56 9 v (m + 1) (xs ++ fc) ∧ w8.grownBy y fv.ownBlock ∧ (fv.ownBlock = some gg ∨ w8.heap.size ≤ gg)
def ApR (w8 : World) (base B m : Nat) (xs : List Value) (fv : Value) (fc : List Value) (v : Value) (x : World) : Prop :=
  ApY w8 base m xs fv fc x v ∨ ∃ u, x.cell? ⟨B, 6, none⟩ = some u ∧ u ≠ fv
/-- memory, by what has come up -/
structure FieW (w8 : World) (base B m : Nat) (xs : List Value) (fv : Value) (g o b5 b7 : Nat) (n : Wd) (P : Int) (k : Wd) (D N1 D1 N2 D2 : Int) (u : Wd) (x : Array Bool) (z : World) : Prop where
  c0 : z.cell? ⟨g, o, none⟩ = some (.string (txt n))
  c2 : z.cell? ⟨g, o + 2, none⟩ = some (.string (txt k))
  c6 : z.cell? ⟨g, o + 6, none⟩ = some (.string (txt u))
  p0 : z.cell? ⟨b5, 0, none⟩ = some (.int .i64 N1)
  p1 : z.cell? ⟨b5, 1, none⟩ = some (.int .i64 D1)
  q0 : z.cell? ⟨b7, 0, none⟩ = some (.int .i64 N2)
  q1 : z.cell? ⟨b7, 1, none⟩ = some (.int .i64 D2)
  fc : x.getD 25 false = false → z.cell? ⟨B, 6, none⟩ = some fv ∧ z.frozen? ⟨B, 6, none⟩ = false
  f0 : x.getD 20 false = false → z = w8.drew
  f1 : x.getD 20 false = true → x.getD 21 false = false → z = w8.drew.alloc (.cells #[.string (txt n), .int .i64 P, .string (txt k), .int .i64 D, .int .i64 N1, .int .i64 D1, .int .i64 N2, .int .i64 D2, .string (txt u)] 56)
  f5 : x.getD 25 false = true → x.getD 5 false = true
  f21 : x.getD 21 false = true → x.getD 20 false = true
  f25 : x.getD 25 false = true → x.getD 21 false = true
  fin : x.getD 25 false = true → ∃ y v, ApY w8 base m xs fv (fdC ⟨n, P, k, D, N1, D1, N2, D2, u⟩) y v ∧ z = y.setCell ⟨B, 6, none⟩ v
theorem FieW.other {w8 : World} {base B m : Nat} {xs : List Value} {fv : Value} {g o b5 b7 : Nat} {n : Wd} {P : Int} {k : Wd} {D N1 D1 N2 D2 : Int} {u : Wd} {x : Array Bool} {z : World} (h : FieW w8 base B m xs fv g o b5 b7 n P k D N1 D1 N2 D2 u x z) {i : Nat} (h20 : i ≠ 20) (h21 : i ≠ 21) (h25 : i ≠ 25) : FieW w8 base B m xs fv g o b5 b7 n P k D N1 D1 N2 D2 u (x.setIfInBounds i true) z := by
  obtain ⟨c0, c2, c6, p0, p1, q0, q1, fc, f0, f1, f5, f21, f25, fin⟩ := h
  refine ⟨c0, c2, c6, p0, p1, q0, q1, ?_, ?_, ?_, ?_, ?_, ?_, ?_⟩
  · rw [getD_set_ne false h25]; exact fc
  · rw [getD_set_ne false h20]; exact f0
  · rw [getD_set_ne false h20, getD_set_ne false h21]; exact f1
  · rw [getD_set_ne false h25]; exact fun h => getD_set_true (f5 h)
  · rw [getD_set_ne false h20, getD_set_ne false h21]; exact f21
  · rw [getD_set_ne false h21, getD_set_ne false h25]; exact f25
  · rw [getD_set_ne false h25]; exact fin
set_option maxRecDepth 100000 in
set_option maxHeartbeats 8000000 in
theorem fie_rest (n p k d s f u : Wd) (P D N1 D1 E1 N2 D2 E2 : Int) (TP TD : Bool) (h0 : NaA n true) (h2 : NaA k true) (h6 : NaA u true) (hp : NuA p 0 31 P TP) (hd : NuA d 1 8 D TD) (hs : FrA s N1 D1 E1) (hf : FrA f N2 D2 E2) (g o cap B : Nat) (w : World) (hc : Seven w g o n p k d s f u)
    (fv : Value) (base m : Nat) (xs : List Value) (hm : (m : Int) ≤ 8) (hB : w.cell? ⟨B, 6, none⟩ = some fv) (hF : w.frozen? ⟨B, 6, none⟩ = false) (hO : w.ownsRow base 56 9 fv m xs) (hbs : base ≤ w.heap.size) (hg : g < base) (hgB : g ≠ B) (hne : some B ≠ fv.ownBlock) (R : Bool) (hR : (TP && (TD && (decide (E1 = 0) && decide (E2 = 0)))) = R) :
    Calls Tryd.prog 36 #[.pointer (some ⟨B, 0, none⟩), .slice (some ⟨g, o, none⟩) 7 cap] w fun e w' => e = .returned (.bool R) ∧ (R = false → Below w.heap.size w w') ∧ (R = true → ∃ x g' cap', x.ownsRow base 56 9 (.slice (some ⟨g', 0, none⟩) (m + 1) cap') (m + 1) (xs ++ fdC ⟨n, P, k, D, N1, D1, N2, D2, u⟩) ∧ w.grownBy x fv.ownBlock ∧ (fv.ownBlock = some g' ∨ w.heap.size ≤ g') ∧ w' = x.setCell ⟨B, 6, none⟩ (.slice (some ⟨g', 0, none⟩) (m + 1) cap')) := by
  obtain ⟨r0, hri, hr0, hr1, hr2⟩ := info_parts info_fd
  replace hc : Hid (Seven w g o n p k d s f u) := hc
  replace h0 : Hid (NaA n true) := h0
  replace h2 : Hid (NaA k true) := h2
  replace h6 : Hid (NaA u true) := h6
  replace hp : Hid (NuA p 0 31 P TP) := hp
  replace hd : Hid (NuA d 1 8 D TD) := hd
  replace hs : Hid (FrA s N1 D1 E1) := hs
  replace hf : Hid (FrA f N2 D2 E2) := hf
  replace hR : Hid ((TP && (TD && (decide (E1 = 0) && decide (E2 = 0)))) = R) := hR
  replace hO : Hid (w.ownsRow base 56 9 fv m xs) := hO
  replace hB : Hid (w.cell? ⟨B, 6, none⟩ = some fv) := hB
  replace hF : Hid (w.frozen? ⟨B, 6, none⟩ = false) := hF
  replace hne : Hid (some B ≠ fv.ownBlock) := hne
  obtain ⟨c0, c1, c2, c3, c4, c5, c6⟩ := hc.out
  go_enter Tryd.func36, Tryd.ntmps36
  go_wp2_with fail
  refine (h0.out _).mono ?_
  rintro e w1 ⟨rfl, hb1⟩
  have B1 : Hid (Below w.heap.size w w1) := hb1
  clear c0 c1 c2 c3 c4 c5 c6 hb1 h0
  obtain ⟨c0, c1, c2, c3, c4, c5, c6⟩ := hc.out.below B1.out
  go_wp2_with fail
  refine (h2.out _).mono ?_
  rintro e w2 ⟨rfl, hb2⟩
  have B2 : Hid (Below w.heap.size w w2) := belowT2 B1.out hb2
  clear c0 c1 c2 c3 c4 c5 c6 hb2 B1 h2
  obtain ⟨c0, c1, c2, c3, c4, c5, c6⟩ := hc.out.below B2.out
  go_wp2_with fail
  refine (h6.out _).mono ?_
  rintro e w3 ⟨rfl, hb3⟩
  have B3 : Hid (Below w.heap.size w w3) := belowT2 B2.out hb3
  clear c0 c1 c2 c3 c4 c5 c6 hb3 B2 h6
  obtain ⟨c0, c1, c2, c3, c4, c5, c6⟩ := hc.out.below B3.out
  go_wp2_with fail
  refine (hp.out _).mono ?_
  rintro e w4 ⟨rfl, rfl⟩
  clear hp
  go_wp2_with fail
  refine (hd.out _).mono ?_
  rintro e w4 ⟨rfl, rfl⟩
  clear hd
  go_wp2_with fail
  refine (hs.out _).mono ?_
  rintro e w5 ⟨rfl, hb5⟩
  have B5 : Hid (Below w.heap.size w (w5.alloc (.cells #[.int .i64 N1, .int .i64 D1] 54))) := (belowT2 B3.out hb5).alloc (belowT2 B3.out hb5).size _
  have b5l : w.heap.size ≤ w5.heap.size := (belowT2 B3.out hb5).size
  clear c0 c1 c2 c3 c4 c5 c6 hb5 B3 hs
  have H5 : Hid (Has (w5.alloc (.cells #[.int .i64 N1, .int .i64 D1] 54)) w5.heap.size (.int .i64 N1) (.int .i64 D1)) := has_new _ _ _ _
  go_upto_region 6 with fail
  generalize hX : w5.alloc (.cells #[.int .i64 N1, .int .i64 D1] 54) = w6 at *
  have eX : w6.heap.size = w5.heap.size + 1 := by rw [← hX, World.size_alloc]
  clear hX
  obtain ⟨c0, c1, c2, c3, c4, c5, c6⟩ := hc.out.below B5.out
  generalize w5.heap.size = b5 at *
  go_wp2_with fail
  refine (hf.out _).mono ?_
  rintro e w7 ⟨rfl, hb7⟩
  have B7 : Hid (Below w.heap.size w (w7.alloc (.cells #[.int .i64 N2, .int .i64 D2] 54))) := (belowT2 B5.out hb7).alloc (belowT2 B5.out hb7).size _
  have H7 : Hid (Has (w7.alloc (.cells #[.int .i64 N2, .int .i64 D2] 54)) b5 (.int .i64 N1) (.int .i64 D1)) := (H5.out.below hb7).alloc _
  have H8 : Hid (Has (w7.alloc (.cells #[.int .i64 N2, .int .i64 D2] 54)) w7.heap.size (.int .i64 N2) (.int .i64 D2)) := has_new _ _ _ _
  have b7l : w.heap.size ≤ w7.heap.size := (belowT2 B5.out hb7).size
  clear c0 c1 c2 c3 c4 c5 c6 hb7 B5 H5 hf eX
  have X8 : Hid (Seven (w7.alloc (.cells #[.int .i64 N2, .int .i64 D2] 54)) g o n p k d s f u) := hc.out.below B7.out
  go_upto_region 7 with fail
  by_cases e1 : E1 = 0
  · by_cases e2 : E2 = 0
    · subst e1
      subst e2
      cases TP
      · obtain rfl : R = false := hR.out.symm
        go_wp2
        go_ret
        exact ⟨rfl, B7.out⟩
      · cases TD
        · obtain rfl : R = false := hR.out.symm
          go_wp2
          go_ret
          exact ⟨rfl, B7.out⟩
        · obtain rfl : R = true := hR.out.symm
          generalize hX : w7.alloc (.cells #[.int .i64 N2, .int .i64 D2] 54) = w8 at *
          have hB0 : Hid (w.cell? ⟨B, 6, none⟩ = some fv) := hB
          have hO0 : Hid (w.ownsRow base 56 9 fv m xs) := hO
          have hO8 : Hid (w8.ownsRow base 56 9 fv m xs) := ownsRow_below B7.out hO.out
          have hB8 := kp B7.out hB.out
          have hF8 := kpf B7.out hB.out hF.out
          have sz8 := B7.out.size
          generalize w7.heap.size = b7 at *
          clear hX hc hO hB hF hR
          obtain ⟨p0, p1, y0, y1, yl⟩ := H7.out
          obtain ⟨q0, q1, z0, z1, zl⟩ := H8.out
          obtain ⟨c0, c1, c2, c3, c4, c5, c6⟩ := X8.out
          clear H7 H8 X8 c1 c3 c4 c5
          have ow := World.ownsRow.lt hO8.out
          have far : Hid (∀ k, k < base ∨ k = B ∨ b5 = k ∨ b7 = k → some k ≠ fv.ownBlock) := by
            intro k hk e
            have h1 := World.ownsRow.lt hO0.out k e.symm
            rcases hk with hk | hk | hk | hk
            · omega
            · rw [hk] at e; exact hne.out e
            · omega
            · omega
          have hgl : Hid (g < w8.heap.size ∧ B < w8.heap.size) := ⟨block_lt_of_cell c0, block_lt_of_cell hB8⟩
          have nb5 : Hid (b5 ≠ B) := by have := block_lt_of_cell hB0.out; unfold Hid; simp only at this; omega
          have nb7 : Hid (b7 ≠ B) := by have := block_lt_of_cell hB0.out; unfold Hid; simp only at this; omega
          have hBl : B < w8.heap.size := hgl.out.2
          clear ow hne
          go_upto_region 9 with fail
          refine region_props (fun i v z => (i = 21 → ApR w8 base B m xs fv (fdC ⟨n, P, k, D, N1, D1, N2, D2, u⟩) v z) ∧ (i ≠ 21 → v = fieV B g o cap fv n P k D N1 D1 N2 D2 u w8.heap.size i)) (FieW w8 base B m xs fv g o b5 b7 n P k D N1 D1 N2 D2 u) (by kernel_rfl) (by kernel_rfl) ?_ ?_ ?_
          · intro x a z i op ho hI haf hx hxi hW
            have hi : i < 26 := (List.getElem?_eq_some_iff.1 ho).1
            match i, hi with
            | 0, _ =>
              obtain rfl := Option.some.inj (show some _ = some op from ho)
              have e1 : a.tmps.getD 0 undef = .pointer (some ⟨B, 0, none⟩) := (hI.was (by kernel_rfl)).trans rfl
              go_simp
              exact ⟨_, rfl, rfl, RegK.refl _ _ _, (hW.other (by decide) (by decide) (by decide))⟩
            | 1, _ =>
              obtain rfl := Option.some.inj (show some _ = some op from ho)
              have e1 : a.tmps.getD 0 undef = .pointer (some ⟨B, 0, none⟩) := (hI.was (by kernel_rfl)).trans rfl
              go_simp
              exact ⟨_, rfl, rfl, RegK.refl _ _ _, (hW.other (by decide) (by decide) (by decide))⟩
            | 2, _ =>
              obtain rfl := Option.some.inj (show some _ = some op from ho)
              have e1 : a.tmps.getD 80 undef = .pointer (some ⟨B, 0, none⟩) := (hI.val 1 _ 80 rfl rfl (dep_at haf (by kernel_rfl))).2 (by decide)
              go_simp
              exact ⟨_, rfl, rfl, RegK.refl _ _ _, (hW.other (by decide) (by decide) (by decide))⟩
            | 3, _ =>
              obtain rfl := Option.some.inj (show some _ = some op from ho)
              have e1 : a.tmps.getD 81 undef = .pointer (some ⟨B, 0, none⟩) := (hI.val 2 _ 81 rfl rfl (dep_at haf (by kernel_rfl))).2 (by decide)
              go_simp
              exact ⟨_, rfl, rfl, RegK.refl _ _ _, (hW.other (by decide) (by decide) (by decide))⟩
            | 4, _ =>
              obtain rfl := Option.some.inj (show some _ = some op from ho)
              have e1 : a.tmps.getD 82 undef = .pointer (some ⟨B, 0, none⟩) := (hI.val 3 _ 82 rfl rfl (dep_at haf (by kernel_rfl))).2 (by decide)
              go_simp
              exact ⟨_, rfl, rfl, RegK.refl _ _ _, (hW.other (by decide) (by decide) (by decide))⟩
            | 5, _ =>
              obtain rfl := Option.some.inj (show some _ = some op from ho)
              have e1 : a.tmps.getD 83 undef = .pointer (some ⟨B, 6, none⟩) := (hI.val 4 _ 83 rfl rfl (dep_at haf (by kernel_rfl))).2 (by decide)
              have l1 := (hW.fc (by cases h : x.getD 25 false; rfl; exact absurd (hW.f5 h) (by rw [getD_false hxi]; decide))).1
              go_simp
              exact ⟨_, rfl, rfl, RegK.refl _ _ _, (hW.other (by decide) (by decide) (by decide))⟩
            | 6, _ =>
              obtain rfl := Option.some.inj (show some _ = some op from ho)
              have e1 : a.tmps.getD 1 undef = .slice (some ⟨g, o, none⟩) 7 cap := (hI.was (by kernel_rfl)).trans rfl
              go_simp
              exact ⟨_, rfl, rfl, RegK.refl _ _ _, (hW.other (by decide) (by decide) (by decide))⟩
            | 7, _ =>
              obtain rfl := Option.some.inj (show some _ = some op from ho)
              have e1 : a.tmps.getD 85 undef = .slice (some ⟨g, o, none⟩) 7 cap := (hI.val 6 _ 85 rfl rfl (dep_at haf (by kernel_rfl))).2 (by decide)
              go_simp
              exact ⟨_, rfl, rfl, RegK.refl _ _ _, (hW.other (by decide) (by decide) (by decide))⟩
            | 8, _ =>
              obtain rfl := Option.some.inj (show some _ = some op from ho)
              have e1 : a.tmps.getD 86 undef = .pointer (some ⟨g, o, none⟩) := (hI.val 7 _ 86 rfl rfl (dep_at haf (by kernel_rfl))).2 (by decide)
              have l1 := hW.c0
              go_simp
              exact ⟨_, rfl, rfl, RegK.refl _ _ _, (hW.other (by decide) (by decide) (by decide))⟩
            | 9, _ =>
              obtain rfl := Option.some.inj (show some _ = some op from ho)
              have e1 : a.tmps.getD 5 undef = .int .i64 P := (hI.was (by kernel_rfl)).trans rfl
              go_simp
              exact ⟨_, rfl, rfl, RegK.refl _ _ _, (hW.other (by decide) (by decide) (by decide))⟩
            | 10, _ =>
              obtain rfl := Option.some.inj (show some _ = some op from ho)
              have e1 : a.tmps.getD 1 undef = .slice (some ⟨g, o, none⟩) 7 cap := (hI.was (by kernel_rfl)).trans rfl
              go_simp
              exact ⟨_, rfl, rfl, RegK.refl _ _ _, (hW.other (by decide) (by decide) (by decide))⟩
            | 11, _ =>
              obtain rfl := Option.some.inj (show some _ = some op from ho)
              have e1 : a.tmps.getD 89 undef = .slice (some ⟨g, o, none⟩) 7 cap := (hI.val 10 _ 89 rfl rfl (dep_at haf (by kernel_rfl))).2 (by decide)
              go_simp
              exact ⟨_, rfl, rfl, RegK.refl _ _ _, (hW.other (by decide) (by decide) (by decide))⟩
            | 12, _ =>
              obtain rfl := Option.some.inj (show some _ = some op from ho)
              have e1 : a.tmps.getD 90 undef = .pointer (some ⟨g, o + 2, none⟩) := (hI.val 11 _ 90 rfl rfl (dep_at haf (by kernel_rfl))).2 (by decide)
              have l1 := hW.c2
              go_simp
              exact ⟨_, rfl, rfl, RegK.refl _ _ _, (hW.other (by decide) (by decide) (by decide))⟩
            | 13, _ =>
              obtain rfl := Option.some.inj (show some _ = some op from ho)
              have e1 : a.tmps.getD 7 undef = .int .i64 D := (hI.was (by kernel_rfl)).trans rfl
              go_simp
              exact ⟨_, rfl, rfl, RegK.refl _ _ _, (hW.other (by decide) (by decide) (by decide))⟩
            | 14, _ =>
              obtain rfl := Option.some.inj (show some _ = some op from ho)
              have e1 : a.tmps.getD 9 undef = .pointer (some ⟨b5, 0, none⟩) := (hI.was (by kernel_rfl)).trans rfl
              have l1 := hW.p0
              have l2 := hW.p1
              go_simp
              exact ⟨_, rfl, rfl, RegK.refl _ _ _, (hW.other (by decide) (by decide) (by decide))⟩
            | 15, _ =>
              obtain rfl := Option.some.inj (show some _ = some op from ho)
              have e1 : a.tmps.getD 11 undef = .pointer (some ⟨b7, 0, none⟩) := (hI.was (by kernel_rfl)).trans rfl
              have l1 := hW.q0
              have l2 := hW.q1
              go_simp
              exact ⟨_, rfl, rfl, RegK.refl _ _ _, (hW.other (by decide) (by decide) (by decide))⟩
            | 16, _ =>
              obtain rfl := Option.some.inj (show some _ = some op from ho)
              have e1 : a.tmps.getD 1 undef = .slice (some ⟨g, o, none⟩) 7 cap := (hI.was (by kernel_rfl)).trans rfl
              go_simp
              exact ⟨_, rfl, rfl, RegK.refl _ _ _, (hW.other (by decide) (by decide) (by decide))⟩
            | 17, _ =>
              obtain rfl := Option.some.inj (show some _ = some op from ho)
              have e1 : a.tmps.getD 95 undef = .slice (some ⟨g, o, none⟩) 7 cap := (hI.val 16 _ 95 rfl rfl (dep_at haf (by kernel_rfl))).2 (by decide)
              go_simp
              exact ⟨_, rfl, rfl, RegK.refl _ _ _, (hW.other (by decide) (by decide) (by decide))⟩
            | 18, _ =>
              obtain rfl := Option.some.inj (show some _ = some op from ho)
              have e1 : a.tmps.getD 96 undef = .pointer (some ⟨g, o + 6, none⟩) := (hI.val 17 _ 96 rfl rfl (dep_at haf (by kernel_rfl))).2 (by decide)
              have l1 := hW.c6
              go_simp
              exact ⟨_, rfl, rfl, RegK.refl _ _ _, (hW.other (by decide) (by decide) (by decide))⟩
            | 19, _ =>
              obtain rfl := Option.some.inj (show some _ = some op from ho)
              have e1 : a.tmps.getD 87 undef = .string (txt n) := (hI.val 8 _ 87 rfl rfl (dep_at haf (by kernel_rfl))).2 (by decide)
              have e2 : a.tmps.getD 88 undef = .int .i64 P := (hI.val 9 _ 88 rfl rfl (dep_at haf (by kernel_rfl))).2 (by decide)
              have e3 : a.tmps.getD 91 undef = .string (txt k) := (hI.val 12 _ 91 rfl rfl (dep_at haf (by kernel_rfl))).2 (by decide)
              have e4 : a.tmps.getD 92 undef = .int .i64 D := (hI.val 13 _ 92 rfl rfl (dep_at haf (by kernel_rfl))).2 (by decide)
              have e5 : a.tmps.getD 93 undef = rv N1 D1 := (hI.val 14 _ 93 rfl rfl (dep_at haf (by kernel_rfl))).2 (by decide)
              have e6 : a.tmps.getD 94 undef = rv N2 D2 := (hI.val 15 _ 94 rfl rfl (dep_at haf (by kernel_rfl))).2 (by decide)
              have e7 : a.tmps.getD 97 undef = .string (txt u) := (hI.val 18 _ 97 rfl rfl (dep_at haf (by kernel_rfl))).2 (by decide)
              go_simp
              simp only [← Array.getD_eq_getD_getElem?, e1, e2, e3, e4, e5, e6, e7]
              go_simp
              exact ⟨_, rfl, rfl, RegK.refl _ _ _, (hW.other (by decide) (by decide) (by decide))⟩
            | 20, _ =>
              obtain rfl := Option.some.inj (show some _ = some op from ho)
              have e1 : a.tmps.getD 98 undef = .agg #[.string (txt n), .int .i64 P, .string (txt k), .int .i64 D, .int .i64 N1, .int .i64 D1, .int .i64 N2, .int .i64 D2, .string (txt u)] := (hI.val 19 _ 98 rfl rfl (dep_at haf (by kernel_rfl))).2 (by decide)
              have x20 := getD_false hxi
              have x21 : x.getD 21 false = false := by
                cases h : x.getD 21 false
                · rfl
                · rw [hW.f21 h] at x20; cases x20
              have x25 : x.getD 25 false = false := by
                cases h : x.getD 25 false
                · rfl
                · rw [hW.f25 h] at x21; cases x21
              have fc := hW.fc x25
              obtain rfl := hW.f0 x20
              go_simp
              simp only [← Array.getD_eq_getD_getElem?, e1]
              go_simp
              have gA := World.grownBy_alloc w8.drew (.cells #[.string (txt n), .int .i64 P, .string (txt k), .int .i64 D, .int .i64 N1, .int .i64 D1, .int .i64 N2, .int .i64 D2, .string (txt u)] 56) none
              refine ⟨_, rfl, rfl, fun j v hj hp => ⟨fun e => ?_, hp.2⟩, ?_⟩
              · subst e; rw [x21] at hj; cases hj
              · have s21 : (x.setIfInBounds 20 true).getD 21 false = false := (getD_set_ne false (by decide)).trans x21
                have s25 : (x.setIfInBounds 20 true).getD 25 false = false := (getD_set_ne false (by decide)).trans x25
                have s20 : (x.setIfInBounds 20 true).getD 20 false = true := getD_set_at (by rw [hx]; decide)
                refine ⟨gA.cell hW.c0 (by simp), gA.cell hW.c2 (by simp), gA.cell hW.c6 (by simp), gA.cell hW.p0 (by simp), gA.cell hW.p1 (by simp), gA.cell hW.q0 (by simp), gA.cell hW.q1 (by simp), fun _ => ⟨gA.cell fc.1 (by simp), (World.grownBy.frozen_far gA ⟨B, 6, none⟩ (block_lt_of_cell fc.1) (by simp)).trans fc.2⟩, fun h => ?_, fun _ _ => rfl, fun h => ?_, fun h => ?_, fun h => ?_, fun h => ?_⟩
                · rw [s20] at h; cases h
                · rw [s25] at h; cases h
                · rw [s21] at h; cases h
                · rw [s25] at h; cases h
                · rw [s25] at h; cases h
            | 21, _ =>
              obtain rfl := Option.some.inj (show some _ = some op from ho)
              have e1 : a.tmps.getD 84 undef = fv := (hI.val 5 _ 84 rfl rfl (dep_at haf (by kernel_rfl))).2 (by decide)
              have e2 : a.tmps.getD 99 undef = .slice (some ⟨w8.heap.size, 0, none⟩) 1 1 := (hI.val 20 _ 99 rfl rfl (dep_at haf (by kernel_rfl))).2 (by decide)
              have x21 := getD_false hxi
              have x25 : x.getD 25 false = false := by
                cases h : x.getD 25 false
                · rfl
                · rw [hW.f25 h] at x21; cases x21
              have fc := hW.fc x25
              have x20 : x.getD 20 false = true := dep_at haf (by kernel_rfl)
              obtain rfl := hW.f1 x20 x21
              refine wp_append_lies _ (.tmp 84) (.tmp 99) 23 rfl base 56 r0 (.agg #[.string ⟨#[]⟩, .int .i64 0, .string ⟨#[]⟩, .int .i64 0, .int .i64 0, .int .i64 0, .int .i64 0, .int .i64 0, .string ⟨#[]⟩]) 9 96 Tryd.underlying23 hri hr0 hr1 hr2 rfl (by omega) fv m xs e1 (World.ownsRow.alloc hO8.out.drew _)
                ⟨w8.heap.size, 0, none⟩ 1 1 (fdC ⟨n, P, k, D, N1, D1, N2, D2, u⟩) e2 rfl (World.news_of_block (cs := #[.string (txt n), .int .i64 P, .string (txt k), .int .i64 D, .int .i64 N1, .int .i64 D1, .int .i64 N2, .int .i64 D2, .string (txt u)]) (t := 56) (fr := (0, 0)) (heap_alloc_new w8.drew _)) (by simp [Value.oneCell', fdC])
                (by omega) (by unfold maxLen; omega) (by omega) (by rw [World.size_alloc]; exact Nat.le_succ_of_le (Nat.le_trans hbs sz8)) (w8.heap.size + 1) (by rw [World.size_alloc]; rfl) ?_
              intro gg cap' y hOy gO hat hlt2
              have cc : ∀ {a : Addr} {v : Value}, (w8.drew.alloc (.cells #[.string (txt n), .int .i64 P, .string (txt k), .int .i64 D, .int .i64 N1, .int .i64 D1, .int .i64 N2, .int .i64 D2, .string (txt u)] 56)).cell? a = some v → some a.block ≠ fv.ownBlock → y.cell? a = some v := fun {a v} h hn => gO.cell h hn
              have yw : ApY w8 base m xs fv (fdC ⟨n, P, k, D, N1, D1, N2, D2, u⟩) y (.slice (some ⟨gg, 0, none⟩) (m + 1) cap') := by
                refine ⟨gg, cap', rfl, hOy, ?_, hat.imp id (fun e => by omega)⟩
                have g1 : w8.grownBy (w8.drew.alloc (.cells #[.string (txt n), .int .i64 P, .string (txt k), .int .i64 D, .int .i64 N1, .int .i64 D1, .int .i64 N2, .int .i64 D2, .string (txt u)] 56)) fv.ownBlock := by
                  have g0 := World.grownBy_alloc w8.drew (.cells #[.string (txt n), .int .i64 P, .string (txt k), .int .i64 D, .int .i64 N1, .int .i64 D1, .int .i64 N2, .int .i64 D2, .string (txt u)] 56) fv.ownBlock
                  exact ⟨g0.os, g0.tape, g0.output, g0.size, g0.block⟩
                exact Lib.grownBy_trans g1 gO
              have s21 : (x.setIfInBounds 21 true).getD 21 false = true := getD_set_at (by rw [hx]; decide)
              have s25 : (x.setIfInBounds 21 true).getD 25 false = false := (getD_set_ne false (by decide)).trans x25
              have s20 : (x.setIfInBounds 21 true).getD 20 false = true := getD_set_true x20
              refine ⟨_, rfl, fun d _ => ⟨fun _ => .inl yw, fun h => absurd rfl h⟩, fun j v hj hp => ⟨fun e => ?_, hp.2⟩, ?_⟩
              · subst e; rw [x21] at hj; cases hj
              · refine ⟨cc hW.c0 (far.out g (.inl hg)), cc hW.c2 (far.out g (.inl hg)), cc hW.c6 (far.out g (.inl hg)), cc hW.p0 (far.out b5 (.inr (.inr (.inl rfl)))), cc hW.p1 (far.out b5 (.inr (.inr (.inl rfl)))), cc hW.q0 (far.out b7 (.inr (.inr (.inr rfl)))), cc hW.q1 (far.out b7 (.inr (.inr (.inr rfl)))), fun _ => ⟨cc fc.1 (far.out B (.inr (.inl rfl))), (gO.frozen_far ⟨B, 6, none⟩ (block_lt_of_cell fc.1) (far.out B (.inr (.inl rfl)))).trans fc.2⟩, fun h => ?_, fun _ h => ?_, fun h => ?_, fun h => ?_, fun h => ?_, fun h => ?_⟩
                · rw [s20] at h; cases h
                · rw [s21] at h; cases h
                · rw [s25] at h; cases h
                · exact s20
                · rw [s25] at h; cases h
                · rw [s25] at h; cases h
            | 22, _ =>
              obtain rfl := Option.some.inj (show some _ = some op from ho)
              have e1 : a.tmps.getD 79 undef = .pointer (some ⟨B, 0, none⟩) := (hI.val 0 _ 79 rfl rfl (dep_at haf (by kernel_rfl))).2 (by decide)
              go_simp
              exact ⟨_, rfl, rfl, RegK.refl _ _ _, (hW.other (by decide) (by decide) (by decide))⟩
            | 23, _ =>
              obtain rfl := Option.some.inj (show some _ = some op from ho)
              have e1 : a.tmps.getD 101 undef = .pointer (some ⟨B, 0, none⟩) := (hI.val 22 _ 101 rfl rfl (dep_at haf (by kernel_rfl))).2 (by decide)
              go_simp
              exact ⟨_, rfl, rfl, RegK.refl _ _ _, (hW.other (by decide) (by decide) (by decide))⟩
            | 24, _ =>
              obtain rfl := Option.some.inj (show some _ = some op from ho)
              have e1 : a.tmps.getD 102 undef = .pointer (some ⟨B, 0, none⟩) := (hI.val 23 _ 102 rfl rfl (dep_at haf (by kernel_rfl))).2 (by decide)
              go_simp
              exact ⟨_, rfl, rfl, RegK.refl _ _ _, (hW.other (by decide) (by decide) (by decide))⟩
            | 25, _ =>
              obtain rfl := Option.some.inj (show some _ = some op from ho)
              have e1 : a.tmps.getD 103 undef = .pointer (some ⟨B, 6, none⟩) := (hI.val 24 _ 103 rfl rfl (dep_at haf (by kernel_rfl))).2 (by decide)
              have x25 := getD_false hxi
              have fc := hW.fc x25
              have ap := (hI.val 21 _ 100 rfl rfl (dep_at haf (by kernel_rfl))).1 rfl
              have yw : ApY w8 base m xs fv (fdC ⟨n, P, k, D, N1, D1, N2, D2, u⟩) z (a.tmps.getD 100 undef) := by
                rcases ap with h | ⟨u, h1, h2⟩
                · exact h
                · rw [fc.1] at h1; exact absurd (Option.some.inj h1).symm h2
              have yw2 := yw
              obtain ⟨gg, cap', e2, _⟩ := yw2
              rw [e2] at yw
              have fc1 := fc.1
              have fc2 := fc.2
              have nfv : Value.slice (some ⟨gg, 0, none⟩) (m + 1) cap' ≠ fv := by
                rcases own_slice hO8.out with ⟨e, hm0⟩ | ⟨g1, c1, e, _⟩
                · rw [e]; simp
                · rw [e]; simp
              go_simp
              have x20 : x.getD 20 false = true := dep_at haf (by kernel_rfl)
              have x21 : x.getD 21 false = true := dep_at haf (by kernel_rfl)
              have x5 : x.getD 5 false = true := dep_at haf (by kernel_rfl)
              have kk : ∀ {a : Addr} {u v : Value}, z.cell? a = some u → a.block ≠ B → (z.setCell ⟨B, 6, none⟩ v).cell? a = some u := fun {a u v} h hn => by rw [World.cell?_setCell_other _ _ _ _ (fun e => hn (by rw [← e]))]; exact h
              have s25 : (x.setIfInBounds 25 true).getD 25 false = true := getD_set_at (by rw [hx]; decide)
              refine ⟨fun j v hj hp => ⟨fun e => .inr ⟨_, World.cell?_setCell_same _ _ _ fc1, nfv⟩, hp.2⟩, ?_⟩
              refine ⟨kk hW.c0 hgB, kk hW.c2 hgB, kk hW.c6 hgB, kk hW.p0 nb5.out, kk hW.p1 nb5.out, kk hW.q0 nb7.out, kk hW.q1 nb7.out, fun h => ?_, fun h => ?_, fun _ h => ?_, fun _ => getD_set_true x5, fun _ => getD_set_true x20, fun _ => getD_set_true x21, fun _ => ⟨z, _, yw, rfl⟩⟩
              · rw [s25] at h; cases h
              · rw [getD_set_true x20] at h; cases h
              · rw [getD_set_true x21] at h; cases h
          · intro x a z hx hall hI hW
            obtain ⟨y, v, ⟨gg, cap', rfl, hOy, gW, hat⟩, rfl⟩ := hW.fin (hall 25 (by decide))
            have GW : Hid (w.grownBy y fv.ownBlock) := Lib.grownBy_trans (Lib.grownBy_below ⟨rfl, rfl, rfl, Nat.le_refl _, fun _ _ _ => rfl⟩ B7.out) gW
            have AT : Hid (fv.ownBlock = some gg ∨ w.heap.size ≤ gg) := hat.imp id (fun e => by omega)
            replace hOy : Hid (y.ownsRow base 56 9 (.slice (some ⟨gg, 0, none⟩) (m + 1) cap') (m + 1) (xs ++ fdC ⟨n, P, k, D, N1, D1, N2, D2, u⟩)) := hOy
            have sz := hI.size
            have df := hI.dfr
            clear hI hW hall gW hat
            obtain ⟨T, ds⟩ := a
            simp only at df sz
            subst df
            have h4 : 4 < T.size := by rw [sz]; simp
            have hv : (T.setIfInBounds 4 (Value.bool true)).getD 4 undef = .bool true := by simp [Array.getD_eq_getD_getElem?, h4]
            go_wp2
            refine bodyPost_ret (results_tmp rfl _ _ _) rfl ?_
            exact ⟨by rw [hv], y, gg, cap', hOy.out, GW.out, AT.out, rfl⟩
          · exact ⟨c0, c2, c6, p0, p1, q0, q1, fun _ => ⟨hB8, hF8⟩, fun _ => rfl, fun h => (by simp at h), fun h => (by simp at h), fun h => (by simp at h), fun h => (by simp at h), fun h => (by simp at h)⟩
    · have b2 : (E2 != 0) = true := bne_iff_ne.2 e2
      obtain rfl : R = false := by have := hR.out; rw [decide_eq_false e2] at this; rw [← this]; cases TP <;> cases TD <;> simp
      cases TP
      · go_wp2
        go_ret
        exact ⟨rfl, B7.out⟩
      · cases TD
        · go_wp2
          go_ret
          exact ⟨rfl, B7.out⟩
        · subst e1
          go_wp2
          go_ret
          exact ⟨rfl, B7.out⟩
  · have b1 : (E1 != 0) = true := bne_iff_ne.2 e1
    obtain rfl : R = false := by have := hR.out; rw [decide_eq_false e1] at this; rw [← this]; cases TP <;> cases TD <;> simp
    cases TP
    · go_wp2
      go_ret
      exact ⟨rfl, B7.out⟩
    · cases TD
      · go_wp2
        go_ret
        exact ⟨rfl, B7.out⟩
      · go_wp2
        go_ret
        exact ⟨rfl, B7.out⟩
end Go.Proofs.YtagkgneijdbkoaaDoor
/-
  A device on its way, in memory: the reader's block, how often words were seen, the fields, the bytes (layer 8). No conditions but those that each says.
-/
namespace Go.Proofs.YtagkgneijdbkoaaDoor
open Go.RowKit
set_option linter.unusedVariables false

/-- the reader's cells -/
abbrev rdA (d : Dv) (fv qv : Value) (M : Nat) : Array Value := #[.string (txt d.nm), .int .i64 d.st, .int .i64 d.es, .int .i64 d.mx, .int .i64 d.sz, .string (txt d.sm), fv, qv, .int .i64 d.po, .int .i64 d.ti, .int .i64 d.re, .int .i64 d.ag, .map (some M)]
def fdCs (fs : List Fd) : List Value := fs.flatMap fdC
theorem fdCs_snoc (fs : List Fd) (f : Fd) : fdCs (fs ++ [f]) = fdCs fs ++ fdC f := by unfold fdCs; simp
/-- all but two blocks and a row is kept -/
structure Fr (B M : Nat) (r : Option Nat) (x y : World) : Prop where
  os : y.os = x.os
  tape : y.tape = x.tape
  output : y.output = x.output
  size : x.heap.size ≤ y.heap.size
  block : ∀ k, k < x.heap.size → k ≠ B → k ≠ M → some k ≠ r → y.heap[k]? = x.heap[k]?
theorem Fr.refl (B M : Nat) (r : Option Nat) (x : World) : Fr B M r x x := ⟨rfl, rfl, rfl, Nat.le_refl _, fun _ _ _ _ _ => rfl⟩
theorem Fr.of_below {B M : Nat} {r : Option Nat} {x y : World} (h : Below x.heap.size x y) : Fr B M r x y := ⟨h.os, h.tape, h.output, h.size, fun k hk _ _ _ => h.block k hk⟩
theorem Fr.of_grown {B M : Nat} {r : Option Nat} {x y : World} (h : x.grownBy y r) : Fr B M r x y := ⟨h.os, h.tape, h.output, h.size, fun k hk _ _ hr => h.block k hk hr⟩
theorem Fr.trans {B M : Nat} {r : Option Nat} {x y z : World} (h : Fr B M r x y) (k : Fr B M r y z) : Fr B M r x z :=
  ⟨k.os.trans h.os, k.tape.trans h.tape, k.output.trans h.output, Nat.le_trans h.size k.size, fun j hj hB hM hr => (k.block j (Nat.lt_of_lt_of_le hj h.size) hB hM hr).trans (h.block j hj hB hM hr)⟩
theorem Fr.set (B M : Nat) (r : Option Nat) (x : World) (i : Nat) (v : Value) : Fr B M r x (x.setCell ⟨B, i, none⟩ v) :=
  have k := (Below.refl 0 x).setCell (p := ⟨B, i, none⟩) (Nat.zero_le _) v
  ⟨k.os, k.tape, k.output, k.size, fun k hk hB _ _ => Below.heap_setCell _ _ _ _ (by simpa using hB)⟩
theorem Fr.cell {B M : Nat} {r : Option Nat} {x y : World} (h : Fr B M r x y) {a : Addr} {v : Value} (hc : x.cell? a = some v) (hB : a.block ≠ B) (hM : a.block ≠ M) (hr : some a.block ≠ r) : y.cell? a = some v := by
  rw [World.cell?_of_block (h.block a.block (block_lt_of_cell hc) hB hM hr)]; exact hc
/-- the bytes that are asked with -/
def RqAt (N : Nat) (x : World) (fv qv : Value) (bs : List Nat) : Prop := (qv = .slice none 0 0 ∧ bs = []) ∨ ∃ g o cap, qv = .slice (some ⟨g, o, none⟩) bs.length cap ∧ BytesIn x g o bs ∧ g < x.heap.size ∧ N ≤ g ∧ some g ≠ fv.ownBlock
theorem RqAt.fr {N B M : Nat} {x y : World} {fv fv' qv : Value} {bs : List Nat} (h : RqAt N x fv qv bs) (k : Fr B M fv.ownBlock x y) (hB : B < N) (hM : M < N) (hf : fv'.ownBlock = fv.ownBlock ∨ ∃ g, fv'.ownBlock = some g ∧ x.heap.size ≤ g) : RqAt N y fv' qv bs := by
  rcases h with h | ⟨g, o, cap, h1, h2, h3, h4, h5⟩
  · exact .inl h
  · refine .inr ⟨g, o, cap, h1, fun j hj => k.cell (h2 j hj) (show g ≠ B by omega) (show g ≠ M by omega) h5, Nat.lt_of_lt_of_le h3 k.size, h4, ?_⟩
    rcases hf with hf | ⟨g', hf, hl⟩
    · rw [hf]; exact h5
    · rw [hf]; intro e; have := Option.some.inj e; omega
theorem RqAt.bytes {N : Nat} {x : World} {fv qv : Value} {bs : List Nat} (h : RqAt N x fv qv bs) : BytesAt x qv bs := by
  rcases h with h | ⟨g, o, cap, h1, h2, h3, _⟩
  · exact .inl h
  · exact .inr ⟨g, o, cap, h1, h2, h3⟩
/-- a device on its way -/
structure DsSt (N B M : Nat) (x : World) (d : Dv) (fv qv : Value) (seen : List Wd) : Prop where
  sz : N ≤ x.heap.size
  rd : x.heap[B]? = some (.cells (rdA d fv qv M) 66 (0, 0))
  ln : ∃ es c, x.heap[M]? = some (.map es c) ∧ LnOk es seen
  ro : x.ownsRow N 56 9 fv d.fs.length (fdCs d.fs)
  rq : RqAt N x fv qv d.rq
theorem own_ge {x : World} {N : Nat} {e : TypeId} {s : Nat} {v : Value} {n : Nat} {xs : List Value} (h : x.ownsRow N e s v n xs) {k : Nat} (hk : k < N) : some k ≠ v.ownBlock := fun e => by
  have := (World.ownsRow.lt h k e.symm).1
  omega
theorem DsSt.below {N B M : Nat} {x y : World} {d : Dv} {fv qv : Value} {seen : List Wd} (h : DsSt N B M x d fv qv seen) (hB : B < N) (hM : M < N) (k : Below x.heap.size x y) : DsSt N B M y d fv qv seen := by
  obtain ⟨es, c, h1, h2⟩ := h.ln
  exact ⟨Nat.le_trans h.sz k.size, (k.block B (Nat.lt_of_lt_of_le hB h.sz)).trans h.rd, ⟨es, c, (k.block M (Nat.lt_of_lt_of_le hM h.sz)).trans h1, h2⟩, ownsRow_below k h.ro, h.rq.fr (.of_below k) hB hM (.inl rfl)⟩
/-- a cell of the reader's -/
theorem rd_cell {x : World} {B : Nat} {C : Array Value} {t : TypeId} (h : x.heap[B]? = some (.cells C t (0, 0))) (i : Nat) : x.cell? ⟨B, i, none⟩ = C[i]? ∧ x.frozen? ⟨B, i, none⟩ = false := by
  constructor
  · simp [World.cell?, h]
  · simp [World.frozen?, h]
theorem rd_set {x : World} {B : Nat} {C : Array Value} {t : TypeId} (h : x.heap[B]? = some (.cells C t (0, 0))) (i : Nat) (v : Value) : (x.setCell ⟨B, i, none⟩ v).heap[B]? = some (.cells (C.setIfInBounds i v) t (0, 0)) := by
  rw [setCell_eq_setRow _ _ i C _ (0, 0) _ h]; exact setRow_heap _ _ C _ _ (0, 0) h
theorem ownsRow_set {x : World} {N B : Nat} (hB : B < N) {e : TypeId} {s : Nat} {fv : Value} {n : Nat} {xs : List Value} (h : x.ownsRow N e s fv n xs) (i : Nat) (v : Value) : (x.setCell ⟨B, i, none⟩ v).ownsRow N e s fv n xs := by
  refine ⟨h.1, ?_⟩
  rcases h.2 with h | ⟨g, cap, cur, h1, h2, h3, h4⟩
  · exact .inl h
  · refine .inr ⟨g, cap, cur, h1, h2, ?_, h4⟩
    rw [Below.heap_setCell _ _ _ _ (show g ≠ B by omega)]; exact h3
/-- one cell of the reader's is turned -/
theorem DsSt.set {N B M : Nat} {x : World} {d d' : Dv} {fv qv : Value} {seen : List Wd} (h : DsSt N B M x d fv qv seen) (hB : B < N) (hM : M < N) (hBM : B ≠ M) (i : Nat) (v : Value) (hr : (rdA d fv qv M).setIfInBounds i v = rdA d' fv qv M) (hf : d'.fs = d.fs) (hq : d'.rq = d.rq) : DsSt N B M (x.setCell ⟨B, i, none⟩ v) d' fv qv seen := by
  obtain ⟨es, c, h1, h2⟩ := h.ln
  refine ⟨by simpa using h.sz, by rw [rd_set h.rd, hr], ⟨es, c, ?_, h2⟩, ?_, ?_⟩
  · rw [Below.heap_setCell _ _ _ _ (show M ≠ B from fun e => hBM e.symm)]; exact h1
  · rw [hf]; exact ownsRow_set hB h.ro i v
  · rw [hq]; exact h.rq.fr (Fr.set B M _ x i v) hB hM (.inl rfl)
/-- the bytes are laid -/
theorem DsSt.setReq {N B M : Nat} {x : World} {d : Dv} {fv qv v : Value} {seen : List Wd} {bs : List Nat} {z : World} (h : DsSt N B M x d fv qv seen) (hB : B < N) (hM : M < N) (hBM : B ≠ M) (hz : Below z.heap.size z x) (hzN : N ≤ z.heap.size) (ho : z.ownsRow N 56 9 fv d.fs.length (fdCs d.fs)) (hv : BytesAt x v bs) (hfr : FreshV z v) : DsSt N B M (x.setCell ⟨B, 7, none⟩ v) { d with rq := bs } fv v seen := by
  obtain ⟨es, c, h1, h2⟩ := h.ln
  refine ⟨by simpa using h.sz, by rw [rd_set h.rd]; rfl, ⟨es, c, ?_, h2⟩, ownsRow_set hB h.ro 7 v, ?_⟩
  · rw [Below.heap_setCell _ _ _ _ (show M ≠ B from fun e => hBM e.symm)]; exact h1
  · rcases hv with hv | ⟨g, o, cap, rfl, hb, hg⟩
    · exact .inl hv
    · rcases hfr with hfr | ⟨a, n, c', hfr, hge⟩
      · cases hfr
      · injection hfr with e1 e2 e3
        have ea : a = ⟨g, o, none⟩ := (Option.some.inj e1).symm
        rw [ea] at hge
        have hge' : z.heap.size ≤ g := hge
        refine .inr ⟨g, o, cap, rfl, fun j hj => ?_, by simpa using hg, by omega, fun e => ?_⟩
        · rw [World.cell?_setCell_other _ _ _ _ (fun e => by have := congrArg Addr.block e; simp at this; omega)]
          exact hb j hj
        · have := (World.ownsRow.lt ho g e.symm).2
          omega
/-- a field more -/
theorem DsSt.addField {N B M : Nat} {x y : World} {d : Dv} {fv qv : Value} {seen : List Wd} {f : Fd} {g' cap' : Nat} (h : DsSt N B M x d fv qv seen) (hB : B < N) (hM : M < N) (hBM : B ≠ M) (ho : y.ownsRow N 56 9 (.slice (some ⟨g', 0, none⟩) (d.fs.length + 1) cap') (d.fs.length + 1) (fdCs d.fs ++ fdC f)) (hg : x.grownBy y fv.ownBlock) (hat : fv.ownBlock = some g' ∨ x.heap.size ≤ g') : DsSt N B M (y.setCell ⟨B, 6, none⟩ (.slice (some ⟨g', 0, none⟩) (d.fs.length + 1) cap')) { d with fs := d.fs ++ [f] } (.slice (some ⟨g', 0, none⟩) (d.fs.length + 1) cap') qv seen := by
  obtain ⟨es, c, h1, h2⟩ := h.ln
  have hBl : B < x.heap.size := Nat.lt_of_lt_of_le hB h.sz
  have hMl : M < x.heap.size := Nat.lt_of_lt_of_le hM h.sz
  have yB : y.heap[B]? = some (.cells (rdA d fv qv M) 66 (0, 0)) := (hg.block B hBl (own_ge h.ro hB)).trans h.rd
  refine ⟨?_, by rw [rd_set yB]; rfl, ⟨es, c, ?_, h2⟩, ?_, ?_⟩
  · simp only [World.size_setCell]; exact Nat.le_trans h.sz hg.size
  · rw [Below.heap_setCell _ _ _ _ (show M ≠ B from fun e => hBM e.symm)]; exact (hg.block M hMl (own_ge h.ro hM)).trans h1
  · have e : (d.fs ++ [f]).length = d.fs.length + 1 := by simp
    show World.ownsRow _ _ _ _ _ (d.fs ++ [f]).length (fdCs (d.fs ++ [f]))
    rw [e, fdCs_snoc]
    exact ownsRow_set hB ho 6 _
  · exact h.rq.fr ((Fr.of_grown hg).trans (Fr.set B M _ y 6 _)) hB hM (hat.imp (fun e => by rw [e]; rfl) (fun e => ⟨g', rfl, e⟩))
/-- a word more is seen -/
theorem DsSt.saw {N B M : Nat} {x : World} {d : Dv} {fv qv : Value} {seen : List Wd} (h : DsSt N B M x d fv qv seen) (hB : B < N) (hM : M < N) (hBM : B ≠ M) (f : Wd) {es : Array MapEntry} {c : Nat} (hl : LnOk es (seen ++ [f])) : DsSt N B M { x with heap := x.heap.setIfInBounds M (.map es c) } d fv qv (seen ++ [f]) := by
  have hMl : M < x.heap.size := Nat.lt_of_lt_of_le hM h.sz
  have hk : ∀ k, k ≠ M → ({ x with heap := x.heap.setIfInBounds M (.map es c) } : World).heap[k]? = x.heap[k]? := fun k hk => by simp [Array.getElem?_setIfInBounds_ne (Ne.symm hk)]
  have fr : Fr B M fv.ownBlock x { x with heap := x.heap.setIfInBounds M (.map es c) } := ⟨rfl, rfl, rfl, by simp, fun k _ _ hM' _ => hk k hM'⟩
  refine ⟨by simpa using h.sz, (hk B hBM).trans h.rd, ⟨es, c, by simp [hMl], hl⟩, ?_, h.rq.fr fr hB hM (.inl rfl)⟩
  refine ⟨h.ro.1, ?_⟩
  rcases h.ro.2 with q | ⟨g, cap, cur, q1, q2, q3, q4⟩
  · exact .inl q
  · exact .inr ⟨g, cap, cur, q1, q2, (hk g (by omega)).trans q3, q4⟩
end Go.Proofs.YtagkgneijdbkoaaDoor
/-
  What lines mean, as function values: each is as the document says (layer 8). Conditions: a word is at most 5000 bytes; as each says.
-/
namespace Go.Proofs.YtagkgneijdbkoaaDoor
open Go.RowKit
set_option linter.unusedVariables false

theorem upd_dev (a : List Wd) : updM kDev a = mName a (fun x d => { d with nm := x }) := rfl
theorem upd_sta (a : List Wd) : updM kSta a = mSta a := rfl
theorem upd_esc (a : List Wd) : updM kEsc a = mEsc a := rfl
theorem upd_siz (a : List Wd) : updM kSiz a = mNum a 1 32 (fun x d => { d with sz := x }) := rfl
theorem upd_sum (a : List Wd) : updM kSum a = mName a (fun x d => { d with sm := x }) := rfl
theorem upd_req (a : List Wd) : updM kReq a = mReq a := rfl
theorem upd_pol (a : List Wd) : updM kPol a = mNum a 1 1000 (fun x d => { d with po := x }) := rfl
theorem upd_tim (a : List Wd) : updM kTim a = mNum a 1 1000 (fun x d => { d with ti := x }) := rfl
theorem upd_ret (a : List Wd) : updM kRet a = mNum a 0 10 (fun x d => { d with re := x }) := rfl
theorem upd_age (a : List Wd) : updM kAge a = mNum a 1 1000 (fun x d => { d with ag := x }) := rfl
theorem upd_fie (a : List Wd) : updM kFie a = (fldO a).map fun x d => { d with fs := d.fs ++ [x] } := rfl

/-- the meaning of a line with a name, with a number -/
def NmF (x : World) (N B M k : Nat) (v : Value) : Prop := ∃ b, v = .func (.func 46) #[] #[.pointer (some ⟨b, 0, none⟩)] ∧ x.cell? ⟨b, 0, none⟩ = some (.pointer (some ⟨B, k, none⟩)) ∧ b < N ∧ b ≠ B ∧ b ≠ M
def NuF (x : World) (N B M k : Nat) (lo hi : Int) (v : Value) : Prop := ∃ b1 b2 b3, v = .func (.func 49) #[] #[.pointer (some ⟨b1, 0, none⟩), .pointer (some ⟨b2, 0, none⟩), .pointer (some ⟨b3, 0, none⟩)] ∧ x.cell? ⟨b1, 0, none⟩ = some (.int .i64 lo) ∧ x.cell? ⟨b2, 0, none⟩ = some (.int .i64 hi) ∧ x.cell? ⟨b3, 0, none⟩ = some (.pointer (some ⟨B, k, none⟩)) ∧ (b1 < N ∧ b1 ≠ B ∧ b1 ≠ M) ∧ (b2 < N ∧ b2 ≠ B ∧ b2 ≠ M) ∧ (b3 < N ∧ b3 ≠ B ∧ b3 ≠ M)
/-- what a first word's function value is -/
def MnF (x : World) (N B M : Nat) (f : Wd) (v : Value) : Prop :=
  (f = kDev ∧ NmF x N B M 0 v) ∨ (f = kSum ∧ NmF x N B M 5 v) ∨ (f = kSiz ∧ NuF x N B M 4 1 32 v) ∨ (f = kPol ∧ NuF x N B M 8 1 1000 v) ∨ (f = kTim ∧ NuF x N B M 9 1 1000 v) ∨ (f = kRet ∧ NuF x N B M 10 0 10 v) ∨ (f = kAge ∧ NuF x N B M 11 1 1000 v)
  ∨ (f = kSta ∧ v = .func (.func 33) #[.pointer (some ⟨B, 0, none⟩)] #[]) ∨ (f = kEsc ∧ v = .func (.func 34) #[.pointer (some ⟨B, 0, none⟩)] #[]) ∨ (f = kReq ∧ v = .func (.func 37) #[.pointer (some ⟨B, 0, none⟩)] #[]) ∨ (f = kFie ∧ v = .func (.func 36) #[.pointer (some ⟨B, 0, none⟩)] #[])
theorem NmF.fr {x y : World} {N B M k : Nat} {v : Value} {r : Option Nat} (h : NmF x N B M k v) (hf : Fr B M r x y) (hr : ∀ j, j < N → some j ≠ r) : NmF y N B M k v := by
  obtain ⟨b, h1, h2, h3, h4, h5⟩ := h
  exact ⟨b, h1, hf.cell h2 h4 h5 (hr b h3), h3, h4, h5⟩
theorem NuF.fr {x y : World} {N B M k : Nat} {lo hi : Int} {v : Value} {r : Option Nat} (h : NuF x N B M k lo hi v) (hf : Fr B M r x y) (hr : ∀ j, j < N → some j ≠ r) : NuF y N B M k lo hi v := by
  obtain ⟨b1, b2, b3, h0, h1, h2, h3, ⟨p1, p2, p3⟩, ⟨q1, q2, q3⟩, ⟨r1, r2, r3⟩⟩ := h
  exact ⟨b1, b2, b3, h0, hf.cell h1 p2 p3 (hr b1 p1), hf.cell h2 q2 q3 (hr b2 q1), hf.cell h3 r2 r3 (hr b3 r1), ⟨p1, p2, p3⟩, ⟨q1, q2, q3⟩, ⟨r1, r2, r3⟩⟩
theorem MnF.fr {x y : World} {N B M : Nat} {f : Wd} {v : Value} {r : Option Nat} (h : MnF x N B M f v) (hf : Fr B M r x y) (hr : ∀ j, j < N → some j ≠ r) : MnF y N B M f v := by
  rcases h with ⟨e, h⟩ | ⟨e, h⟩ | ⟨e, h⟩ | ⟨e, h⟩ | ⟨e, h⟩ | ⟨e, h⟩ | ⟨e, h⟩ | ⟨e, h⟩ | ⟨e, h⟩ | ⟨e, h⟩ | ⟨e, h⟩
  · exact .inl ⟨e, h.fr hf hr⟩
  · exact .inr (.inl ⟨e, h.fr hf hr⟩)
  · exact .inr (.inr (.inl ⟨e, h.fr hf hr⟩))
  · exact .inr (.inr (.inr (.inl ⟨e, h.fr hf hr⟩)))
  · exact .inr (.inr (.inr (.inr (.inl ⟨e, h.fr hf hr⟩))))
  · exact .inr (.inr (.inr (.inr (.inr (.inl ⟨e, h.fr hf hr⟩)))))
  · exact .inr (.inr (.inr (.inr (.inr (.inr (.inl ⟨e, h.fr hf hr⟩))))))
  · exact .inr (.inr (.inr (.inr (.inr (.inr (.inr (.inl ⟨e, h⟩)))))))
  · exact .inr (.inr (.inr (.inr (.inr (.inr (.inr (.inr (.inl ⟨e, h⟩))))))))
  · exact .inr (.inr (.inr (.inr (.inr (.inr (.inr (.inr (.inr (.inl ⟨e, h⟩)))))))))
  · exact .inr (.inr (.inr (.inr (.inr (.inr (.inr (.inr (.inr (.inr ⟨e, h⟩)))))))))
/-- words in memory that was there ahead of the call -/
def WdsAt (L0 : Nat) (x : World) (v : Value) (ws : List Wd) : Prop := (∃ a c, v = .slice a 0 c ∧ ws = []) ∨ ∃ g o cap, v = .slice (some ⟨g, o, none⟩) ws.length cap ∧ ws.length ≤ cap ∧ StrsIn x g o ws ∧ g < L0
theorem WdsAt.form {L0 : Nat} {x : World} {v : Value} {ws : List Wd} (h : WdsAt L0 x v ws) : ∃ p cap, v = .slice p ws.length cap := by
  rcases h with ⟨a, c, rfl, rfl⟩ | ⟨g, o, cap, rfl, _⟩
  · exact ⟨_, _, rfl⟩
  · exact ⟨_, _, rfl⟩
theorem WdsAt.cons {L0 : Nat} {x : World} {v : Value} {z : Wd} {ws : List Wd} (h : WdsAt L0 x v (z :: ws)) : ∃ g o cap, v = .slice (some ⟨g, o, none⟩) (ws.length + 1) cap ∧ StrsIn x g o (z :: ws) ∧ g < L0 ∧ ws.length + 1 ≤ cap := by
  rcases h with ⟨_, _, _, h⟩ | ⟨g, o, cap, rfl, h1, h2, h3⟩
  · cases h
  · exact ⟨g, o, cap, rfl, h2, h3, h1⟩
/-- what is asked of a meaning -/
def Mean (N B M : Nat) (x : World) (d : Dv) (fv qv : Value) (seen : List Wd) (U : Option (Dv → Dv)) (e : Ending) (y : World) : Prop :=
  e = .returned (.bool U.isSome) ∧ Fr B M fv.ownBlock x y ∧ ∀ u, U = some u → ∃ fv' qv', DsSt N B M y (u d) fv' qv' seen ∧ (fv'.ownBlock = fv.ownBlock ∨ ∃ g, fv'.ownBlock = some g ∧ x.heap.size ≤ g)
theorem Mean.no {N B M : Nat} {x : World} {d : Dv} {fv qv : Value} {seen : List Wd} {y : World} (h : Below x.heap.size x y) : Mean N B M x d fv qv seen none (.returned (.bool false)) y := ⟨rfl, .of_below h, fun u hu => by cases hu⟩
theorem Mean.one {N B M : Nat} (hB : B < N) (hM : M < N) (hBM : B ≠ M) {x : World} {d : Dv} {fv qv : Value} {seen : List Wd} (St : DsSt N B M x d fv qv seen) {y : World} (h : Below x.heap.size x y) (u : Dv → Dv) (i : Nat) (v : Value) (hr : (rdA d fv qv M).setIfInBounds i v = rdA (u d) fv qv M) (hf : (u d).fs = d.fs) (hq : (u d).rq = d.rq) : Mean N B M x d fv qv seen (some u) (.returned (.bool true)) (y.setCell ⟨B, i, none⟩ v) := by
  refine ⟨rfl, (Fr.of_below h).trans (Fr.set B M _ y i v), fun u' hu => ?_⟩
  cases hu
  exact ⟨fv, qv, (St.below hB hM h).set hB hM hBM i v hr hf hq, .inl rfl⟩
theorem len_one {a : List Wd} (h : a.length = 1) : ∃ z, a = [z] := by
  match a, h with
  | [z], _ => exact ⟨z, rfl⟩
theorem mName_len {a : List Wd} (h : ¬ a.length = 1) (k : Wd → Dv → Dv) : mName a k = none := by
  match a, h with
  | [], _ => rfl
  | [z], h => exact absurd rfl h
  | _ :: _ :: _, _ => rfl
theorem mNum_len {a : List Wd} (h : ¬ a.length = 1) (lo hi : Int) (k : Int → Dv → Dv) : mNum a lo hi k = none := by
  match a, h with
  | [], _ => rfl
  | [z], h => exact absurd rfl h
  | _ :: _ :: _, _ => rfl
theorem mSta_len {a : List Wd} (h : ¬ a.length = 1) : mSta a = none := by
  match a, h with
  | [], _ => rfl
  | [z], h => exact absurd rfl h
  | _ :: _ :: _, _ => rfl
theorem mReq_len {a : List Wd} (h : ¬ a.length = 1) : mReq a = none := by
  match a, h with
  | [], _ => rfl
  | [z], h => exact absurd rfl h
  | _ :: _ :: _, _ => rfl
theorem mEsc_len {a : List Wd} (h : ¬ a.length = 2) : mEsc a = none := by
  match a, h with
  | [], _ => rfl
  | [_], _ => rfl
  | [_, _], h => exact absurd rfl h
  | _ :: _ :: _ :: _, _ => rfl
theorem fld_len {a : List Wd} (h : ¬ a.length = 7) : fldO a = none := by
  match a, h with
  | [], _ => rfl
  | [_], _ => rfl
  | [_, _], _ => rfl
  | [_, _, _], _ => rfl
  | [_, _, _, _], _ => rfl
  | [_, _, _, _, _], _ => rfl
  | [_, _, _, _, _, _], _ => rfl
  | [_, _, _, _, _, _, _], h => exact absurd rfl h
  | _ :: _ :: _ :: _ :: _ :: _ :: _ :: _ :: _, _ => rfl
section
variable {N B M L0 : Nat} (hB : B < N) (hM : M < N) (hBM : B ≠ M) (hL : L0 ≤ B) (hLM : L0 ≤ M) {x : World} {d : Dv} {fv qv : Value} {seen : List Wd} (St : DsSt N B M x d fv qv seen) {a : List Wd} {vw : Value} (hw : WdsAt L0 x vw a) (hz : ∀ z ∈ a, (z.length : Int) ≤ 5000) (hl : (a.length : Int) ≤ 5000)
include hB hM hBM St hw hz hl
set_option maxRecDepth 100000 in
theorem nm_run {k : Nat} {v : Value} (hv : NmF x N B M k v) (old : Value) (ho : (rdA d fv qv M)[k]? = some old) (K : Wd → Dv → Dv) (hK : ∀ z, (rdA d fv qv M).setIfInBounds k (.string (txt z)) = rdA (K z d) fv qv M ∧ (K z d).fs = d.fs ∧ (K z d).rq = d.rq) :
    ∃ b, v = .func (.func 46) #[] #[.pointer (some ⟨b, 0, none⟩)] ∧ Calls Tryd.prog 46 #[vw, .pointer (some ⟨b, 0, none⟩)] x (Mean N B M x d fv qv seen (mName a K)) := by
  obtain ⟨b, h1, h2, _⟩ := hv
  refine ⟨b, h1, ?_⟩
  by_cases h : a.length = 1
  · obtain ⟨z, rfl⟩ := len_one h
    obtain ⟨g, o, cap, rfl, hi, _⟩ := hw.cons
    have hc : x.cell? ⟨g, o, none⟩ = some (.string (txt z)) := hi 0 (by simp)
    have hz5 := hz z (by simp)
    have hm : mName [z] K = if nameB z = true then some (K z) else none := rfl
    rw [hm]
    by_cases hn : nameB z = true
    · rw [if_pos hn]
      have cc := rd_cell St.rd k
      refine (name_yes z hz5 hn g o cap b B k old x hc h2 (cc.1.trans ho) cc.2).mono ?_
      rintro e y ⟨rfl, x1, hb, rfl⟩
      exact Mean.one hB hM hBM St hb (K z) k _ (hK z).1 (hK z).2.1 (hK z).2.2
    · rw [if_neg hn]
      refine (name_no z hz5 (by simpa using hn) g o cap b x hc).mono ?_
      rintro e y ⟨rfl, hb⟩
      exact Mean.no hb
  · rw [mName_len h]
    obtain ⟨p, cap, rfl⟩ := hw.form
    refine (name_len p a.length cap h (by omega) b x).mono ?_
    rintro e y ⟨rfl, rfl⟩
    exact Mean.no (Below.refl _ _)
set_option maxRecDepth 100000 in
theorem nu_run {k : Nat} {lo hi : Int} {v : Value} (hv : NuF x N B M k lo hi v) (old : Value) (ho : (rdA d fv qv M)[k]? = some old) (K : Int → Dv → Dv) (hK : ∀ z, (rdA d fv qv M).setIfInBounds k (.int .i64 z) = rdA (K z d) fv qv M ∧ (K z d).fs = d.fs ∧ (K z d).rq = d.rq) :
    ∃ b1 b2 b3, v = .func (.func 49) #[] #[.pointer (some ⟨b1, 0, none⟩), .pointer (some ⟨b2, 0, none⟩), .pointer (some ⟨b3, 0, none⟩)] ∧ Calls Tryd.prog 49 #[vw, .pointer (some ⟨b1, 0, none⟩), .pointer (some ⟨b2, 0, none⟩), .pointer (some ⟨b3, 0, none⟩)] x (Mean N B M x d fv qv seen (mNum a lo hi K)) := by
  obtain ⟨b1, b2, b3, h0, h1, h2, h3, _⟩ := hv
  refine ⟨b1, b2, b3, h0, ?_⟩
  by_cases h : a.length = 1
  · obtain ⟨z, rfl⟩ := len_one h
    obtain ⟨g, o, cap, rfl, hi', _⟩ := hw.cons
    have hc : x.cell? ⟨g, o, none⟩ = some (.string (txt z)) := hi' 0 (by simp)
    have hz5 := hz z (by simp)
    have hm : mNum [z] lo hi K = if numB z lo hi = true then some (K (readV z)) else none := rfl
    rw [hm]
    have cc := rd_cell St.rd k
    refine (num_one z hz5 lo hi g o cap b1 b2 b3 B k old x hc h1 h2 h3 (cc.1.trans ho) cc.2).mono ?_
    rintro e y ⟨rfl, x1, hb, rfl⟩
    by_cases hn : numB z lo hi = true
    · have e1 : numV z lo hi = readV z := by unfold numV; rw [if_pos hn]
      rw [if_pos hn, e1, hn]
      exact Mean.one hB hM hBM St hb (K (readV z)) k _ (hK _).1 (hK _).2.1 (hK _).2.2
    · rw [if_neg hn, show numB z lo hi = false by simpa using hn]
      exact ⟨rfl, (Fr.of_below hb).trans (Fr.set B M _ x1 k _), fun u hu => by cases hu⟩
  · rw [mNum_len h]
    obtain ⟨p, cap, rfl⟩ := hw.form
    refine (num_len p a.length cap h (by omega) b1 b2 b3 x).mono ?_
    rintro e y ⟨rfl, rfl⟩
    exact Mean.no (Below.refl _ _)
set_option maxRecDepth 100000 in
theorem sta_run : Calls Tryd.prog 33 #[.pointer (some ⟨B, 0, none⟩), vw] x (Mean N B M x d fv qv seen (mSta a)) := by
  by_cases h : a.length = 1
  · obtain ⟨z, rfl⟩ := len_one h
    obtain ⟨g, o, cap, rfl, hi', _⟩ := hw.cons
    have hc : x.cell? ⟨g, o, none⟩ = some (.string (txt z)) := hi' 0 (by simp)
    have hz5 := hz z (by simp)
    have cc := rd_cell St.rd 1
    refine (sta_one z hz5 g o cap B (.int .i64 d.st) x hc (cc.1.trans rfl) cc.2).mono ?_
    rintro e y ⟨rfl, x1, hb, rfl⟩
    have hm : mSta [z] = Option.map (fun (b : Nat) (d : Dv) => { d with st := (b : Int) }) (octO z) := rfl
    rw [hm]
    cases ho : octO z with
    | none => exact ⟨rfl, (Fr.of_below hb).trans (Fr.set B M _ x1 1 _), fun u hu => by cases hu⟩
    | some b => exact Mean.one hB hM hBM St hb (fun d => { d with st := (b : Int) }) 1 _ rfl rfl rfl
  · rw [mSta_len h]
    obtain ⟨p, cap, rfl⟩ := hw.form
    refine (sta_len p a.length cap h (by omega) B x).mono ?_
    rintro e y ⟨rfl, rfl⟩
    exact Mean.no (Below.refl _ _)
set_option maxRecDepth 100000 in
theorem esc_run : Calls Tryd.prog 34 #[.pointer (some ⟨B, 0, none⟩), vw] x (Mean N B M x d fv qv seen (mEsc a)) := by
  by_cases h : a.length = 2
  · obtain ⟨z, t, rfl⟩ : ∃ z t, a = [z, t] := by
      match a, h with
      | [z, t], _ => exact ⟨z, t, rfl⟩
    obtain ⟨g, o, cap, rfl, hi', _⟩ := hw.cons
    have hc : x.cell? ⟨g, o, none⟩ = some (.string (txt z)) := hi' 0 (by simp)
    have hc2 : x.cell? ⟨g, o + 1, none⟩ = some (.string (txt t)) := hi' 1 (by simp)
    have c2 := rd_cell St.rd 2
    have c3 := rd_cell St.rd 3
    refine (esc_two z t (hz z (by simp)) (hz t (by simp)) g o cap B (.int .i64 d.es) (.int .i64 d.mx) x hc hc2 (c2.1.trans rfl) c2.2 (c3.1.trans rfl) c3.2).mono ?_
    rintro e y ⟨rfl, x1, hb, rfl⟩
    have hm : mEsc [z, t] = (octO z).bind fun (b : Nat) => Option.map (fun (c : Nat) (d : Dv) => { d with es := (b : Int), mx := (c : Int) }) (octO t) := rfl
    have hfr := ((Fr.of_below (B := B) (M := M) (r := fv.ownBlock) hb).trans (Fr.set B M _ x1 2 (.int .i64 (((octO z).getD 0 : Nat) : Int)))).trans (Fr.set B M _ _ 3 (.int .i64 (((octO t).getD 0 : Nat) : Int)))
    rw [hm]
    cases ho : octO z with
    | none => rw [ho] at hfr; exact ⟨rfl, hfr, fun u hu => by cases hu⟩
    | some b =>
      cases ho2 : octO t with
      | none => rw [ho, ho2] at hfr; exact ⟨rfl, hfr, fun u hu => by cases hu⟩
      | some c =>
        rw [ho, ho2] at hfr
        refine ⟨rfl, hfr, fun u hu => ?_⟩
        have hu' : (fun (d : Dv) => { d with es := (b : Int), mx := (c : Int) }) = u := Option.some.inj hu
        subst hu'
        exact ⟨fv, qv, ((St.below hB hM hb).set (d' := { d with es := (b : Int) }) hB hM hBM 2 _ rfl rfl rfl).set hB hM hBM 3 _ rfl rfl rfl, .inl rfl⟩
  · rw [mEsc_len h]
    obtain ⟨p, cap, rfl⟩ := hw.form
    refine (esc_len p a.length cap h (by omega) B x).mono ?_
    rintro e y ⟨rfl, rfl⟩
    exact Mean.no (Below.refl _ _)
set_option maxRecDepth 100000 in
theorem req_run : Calls Tryd.prog 37 #[.pointer (some ⟨B, 0, none⟩), vw] x (Mean N B M x d fv qv seen (mReq a)) := by
  by_cases h : a.length = 1
  · obtain ⟨z, rfl⟩ := len_one h
    obtain ⟨g, o, cap, rfl, hi', _⟩ := hw.cons
    have hc : x.cell? ⟨g, o, none⟩ = some (.string (txt z)) := hi' 0 (by simp)
    have cc := rd_cell St.rd 7
    refine (req_one z (hz z (by simp)) g o cap B qv x hc (cc.1.trans rfl) cc.2).mono ?_
    rintro e y ⟨rfl, x1, v, hb, hv, hfv, rfl⟩
    have hfr := (Fr.of_below (B := B) (M := M) (r := fv.ownBlock) hb).trans (Fr.set B M _ x1 7 v)
    have hm : mReq [z] = (hexR z).bind fun b => if b.length ≤ 16 then some fun d => { d with rq := b } else none := rfl
    rw [hm]
    unfold reqB
    cases hx : hexR z with
    | none => exact ⟨rfl, hfr, fun u hu => by cases hu⟩
    | some bs =>
      rw [hx] at hv
      by_cases h16 : bs.length ≤ 16
      · have e1 : ((some bs).bind fun b => if b.length ≤ 16 then some (fun (d : Dv) => { d with rq := b }) else none) = some fun (d : Dv) => { d with rq := bs } := if_pos h16
        rw [e1]
        refine ⟨by simp [h16], hfr, fun u hu => ?_⟩
        have hu' := Option.some.inj hu
        subst hu'
        exact ⟨fv, v, (St.below hB hM hb).setReq hB hM hBM hb St.sz St.ro hv hfv, .inl rfl⟩
      · have e1 : ((some bs).bind fun b => if b.length ≤ 16 then some (fun (d : Dv) => { d with rq := b }) else none) = none := if_neg h16
        rw [e1]
        exact ⟨by simp [h16], hfr, fun u hu => by cases hu⟩
  · rw [mReq_len h]
    obtain ⟨p, cap, rfl⟩ := hw.form
    refine (req_len p a.length cap h (by omega) B x).mono ?_
    rintro e y ⟨rfl, rfl⟩
    exact Mean.no (Below.refl _ _)
include hL
set_option maxRecDepth 100000 in
theorem fie_run (hm : d.fs.length ≤ 8) : Calls Tryd.prog 36 #[.pointer (some ⟨B, 0, none⟩), vw] x (Mean N B M x d fv qv seen ((fldO a).map fun x d => { d with fs := d.fs ++ [x] })) := by
  by_cases h : a.length = 7
  · obtain ⟨n, p, k, wd, s, f, u, rfl⟩ : ∃ n p k wd s f u, a = [n, p, k, wd, s, f, u] := by
      match a, h with
      | [n, p, k, wd, s, f, u], _ => exact ⟨n, p, k, wd, s, f, u, rfl⟩
    obtain ⟨g, o, cap, rfl, hi', hg, _⟩ := hw.cons
    have sv : Seven x g o n p k wd s f u := ⟨hi' 0 (by simp), hi' 1 (by simp), hi' 2 (by simp), hi' 3 (by simp), hi' 4 (by simp), hi' 5 (by simp), hi' 6 (by simp)⟩
    have z0 := naA n (hz n (by simp))
    have z2 := naA k (hz k (by simp))
    have z6 := naA u (hz u (by simp))
    have hm7 : fldO [n, p, k, wd, s, f, u] = if (nameB n = true ∧ nameB k = true ∧ nameB u = true) ∧ numB p 0 31 = true ∧ numB wd 1 8 = true ∧ frB s = true ∧ frB f = true then some ⟨n, readV p, k, readV wd, frN s, frD s, frN f, frD f, u⟩ else none := rfl
    by_cases hN : nameB n = true ∧ nameB k = true ∧ nameB u = true
    · rw [hN.1] at z0
      rw [hN.2.1] at z2
      rw [hN.2.2] at z6
      have cc := rd_cell St.rd 6
      refine (fie_rest n p k wd s f u _ _ _ _ _ _ _ _ _ _ z0 z2 z6 (nuA p (hz p (by simp)) 0 31) (nuA wd (hz wd (by simp)) 1 8) (frA s (hz s (by simp))) (frA f (hz f (by simp))) g o cap B x sv fv N d.fs.length (fdCs d.fs) (by omega) (cc.1.trans rfl) cc.2 St.ro St.sz (by omega) (by omega) (own_ge St.ro hB) _ rfl).mono ?_
      rintro e y ⟨rfl, h1, h2⟩
      by_cases hR : numB p 0 31 = true ∧ numB wd 1 8 = true ∧ frB s = true ∧ frB f = true
      · have e1 := fr_yes hR.2.2.1
        have e2 := fr_yes hR.2.2.2
        have eR : (numB p 0 31 && (numB wd 1 8 && (decide (rdE (txt s) = 0) && decide (rdE (txt f) = 0)))) = true := by rw [hR.1, hR.2.1, e1.1, e2.1]; rfl
        have n1 : numV p 0 31 = readV p := by unfold numV; rw [if_pos hR.1]
        have n2 : numV wd 1 8 = readV wd := by unfold numV; rw [if_pos hR.2.1]
        obtain ⟨x1, g', cap', q1, q2, q3, rfl⟩ := h2 eR
        rw [hm7, if_pos ⟨hN, hR⟩]
        rw [n1, n2, e1.2.1, e1.2.2, e2.2.1, e2.2.2] at q1
        refine ⟨by rw [eR]; rfl, (Fr.of_grown q2).trans (Fr.set B M _ x1 6 _), fun u' hu => ?_⟩
        have hu' := Option.some.inj hu
        subst hu'
        exact ⟨_, qv, St.addField hB hM hBM q1 q2 q3, q3.imp (fun e => by rw [e]; rfl) (fun e => ⟨g', rfl, e⟩)⟩
      · have eR : (numB p 0 31 && (numB wd 1 8 && (decide (rdE (txt s) = 0) && decide (rdE (txt f) = 0)))) = false := by
          cases hc : (numB p 0 31 && (numB wd 1 8 && (decide (rdE (txt s) = 0) && decide (rdE (txt f) = 0)))) with
          | false => rfl
          | true =>
            exfalso
            simp only [Bool.and_eq_true] at hc
            exact hR ⟨hc.1, hc.2.1, hc.2.2.1, hc.2.2.2⟩
        rw [hm7, if_neg (fun c => hR c.2), eR]
        exact ⟨rfl, .of_below (h1 eR), fun u' hu => by cases hu⟩
    · rw [hm7, if_neg (fun c => hN c.1)]
      refine (fie_names n p k wd s f u _ _ _ z0 z2 z6 ?_ g o cap B x sv).mono ?_
      · cases hc : (nameB n && (nameB k && nameB u)) with
        | false => rfl
        | true =>
          exfalso
          simp only [Bool.and_eq_true] at hc
          exact hN ⟨hc.1, hc.2.1, hc.2.2⟩
      · rintro e y ⟨rfl, hb⟩
        exact Mean.no hb
  · rw [fld_len h]
    obtain ⟨p, cap, rfl⟩ := hw.form
    refine (fie_len p a.length cap h (by omega) B x).mono ?_
    rintro e y ⟨rfl, rfl⟩
    exact Mean.no (Below.refl _ _)
set_option maxRecDepth 100000 in
/-- a function value, called -/
theorem mean_run (hm : d.fs.length ≤ 8) {f : Wd} {v : Value} (hv : MnF x N B M f v) : ∃ fid first caps, v = .func (.func fid) first caps ∧ Calls Tryd.prog fid (first ++ #[vw] ++ caps) x (Mean N B M x d fv qv seen (updM f a)) := by
  rcases hv with ⟨rfl, h⟩ | ⟨rfl, h⟩ | ⟨rfl, h⟩ | ⟨rfl, h⟩ | ⟨rfl, h⟩ | ⟨rfl, h⟩ | ⟨rfl, h⟩ | ⟨rfl, h⟩ | ⟨rfl, h⟩ | ⟨rfl, h⟩ | ⟨rfl, h⟩
  · obtain ⟨b, h1, h2⟩ := nm_run hB hM hBM St hw hz hl h (.string (txt d.nm)) rfl (fun x d => { d with nm := x }) (fun z => ⟨rfl, rfl, rfl⟩)
    exact ⟨_, _, _, h1, h2⟩
  · obtain ⟨b, h1, h2⟩ := nm_run hB hM hBM St hw hz hl h (.string (txt d.sm)) rfl (fun x d => { d with sm := x }) (fun z => ⟨rfl, rfl, rfl⟩)
    exact ⟨_, _, _, h1, h2⟩
  · obtain ⟨b1, b2, b3, h1, h2⟩ := nu_run hB hM hBM St hw hz hl h (.int .i64 d.sz) rfl (fun x d => { d with sz := x }) (fun z => ⟨rfl, rfl, rfl⟩)
    exact ⟨_, _, _, h1, h2⟩
  · obtain ⟨b1, b2, b3, h1, h2⟩ := nu_run hB hM hBM St hw hz hl h (.int .i64 d.po) rfl (fun x d => { d with po := x }) (fun z => ⟨rfl, rfl, rfl⟩)
    exact ⟨_, _, _, h1, h2⟩
  · obtain ⟨b1, b2, b3, h1, h2⟩ := nu_run hB hM hBM St hw hz hl h (.int .i64 d.ti) rfl (fun x d => { d with ti := x }) (fun z => ⟨rfl, rfl, rfl⟩)
    exact ⟨_, _, _, h1, h2⟩
  · obtain ⟨b1, b2, b3, h1, h2⟩ := nu_run hB hM hBM St hw hz hl h (.int .i64 d.re) rfl (fun x d => { d with re := x }) (fun z => ⟨rfl, rfl, rfl⟩)
    exact ⟨_, _, _, h1, h2⟩
  · obtain ⟨b1, b2, b3, h1, h2⟩ := nu_run hB hM hBM St hw hz hl h (.int .i64 d.ag) rfl (fun x d => { d with ag := x }) (fun z => ⟨rfl, rfl, rfl⟩)
    exact ⟨_, _, _, h1, h2⟩
  · exact ⟨_, _, _, h, sta_run hB hM hBM St hw hz hl⟩
  · exact ⟨_, _, _, h, esc_run hB hM hBM St hw hz hl⟩
  · exact ⟨_, _, _, h, req_run hB hM hBM St hw hz hl⟩
  · exact ⟨_, _, _, h, fie_run hB hM hBM hL St hw hz hl hm⟩
end
end Go.Proofs.YtagkgneijdbkoaaDoor
/-
  The map of what lines mean, as the program makes it, in whatever order its parts come up (layer 8). Conditions: as each says.
-/
namespace Go.Proofs.YtagkgneijdbkoaaDoor
open Go.RowKit
set_option linter.unusedVariables false

set_option maxHeartbeats 1000000 in
theorem pname_any (B k : Nat) (w : World) : Calls Tryd.prog 32 #[.pointer (some ⟨B, k, none⟩)] w fun e w' => e = .returned (.func (.func 46) #[] #[.pointer (some ⟨w.heap.size, 0, none⟩)]) ∧ w' = w.alloc (.cells #[.pointer (some ⟨B, k, none⟩)] 87) := by
  have hmf : ∀ (fn : Fn) (first cap : Array Value) (w : World), (Instr.makeFunc fn first cap).run Tryd.prog w = .ok (.func fn first cap) w := fun _ _ _ _ => rfl
  go_enter Tryd.func32, Tryd.ntmps32
  go_wp2
  go_ret
  exact ⟨rfl, rfl⟩
set_option maxHeartbeats 1000000 in
theorem pnumber_any (B k : Nat) (lo hi : Int) (w : World) : Calls Tryd.prog 35 #[.pointer (some ⟨B, k, none⟩), .int .i64 lo, .int .i64 hi] w fun e w' => e = .returned (.func (.func 49) #[] #[.pointer (some ⟨w.heap.size + 1, 0, none⟩), .pointer (some ⟨w.heap.size + 2, 0, none⟩), .pointer (some ⟨w.heap.size, 0, none⟩)]) ∧ w' = ((w.alloc (.cells #[.pointer (some ⟨B, k, none⟩)] 89)).alloc (.cells #[.int .i64 lo] 3)).alloc (.cells #[.int .i64 hi] 3) := by
  have hmf : ∀ (fn : Fn) (first cap : Array Value) (w : World), (Instr.makeFunc fn first cap).run Tryd.prog w = .ok (.func fn first cap) w := fun _ _ _ _ => rfl
  go_enter Tryd.func35, Tryd.ntmps35
  go_wp2
  go_ret
  refine ⟨?_, rfl⟩
  simp

/-- the words of the map, by the places of their insertions among the operations -/
def insK : Nat → Option Wd
  | 5 => some kDev
  | 8 => some kSta
  | 11 => some kEsc
  | 16 => some kSiz
  | 21 => some kSum
  | 24 => some kFie
  | 27 => some kReq
  | 32 => some kPol
  | 37 => some kTim
  | 42 => some kRet
  | 47 => some kAge
  | _ => none
/-- a name's, a number's function value, in blocks that the region made -/
def NmG (H B : Nat) (x : World) (k : Nat) (v : Value) : Prop := ∃ b, v = .func (.func 46) #[] #[.pointer (some ⟨b, 0, none⟩)] ∧ x.cell? ⟨b, 0, none⟩ = some (.pointer (some ⟨B, k, none⟩)) ∧ H ≤ b
def NuG (H B : Nat) (x : World) (k : Nat) (lo hi : Int) (v : Value) : Prop := ∃ b1 b2 b3, v = .func (.func 49) #[] #[.pointer (some ⟨b1, 0, none⟩), .pointer (some ⟨b2, 0, none⟩), .pointer (some ⟨b3, 0, none⟩)] ∧ x.cell? ⟨b1, 0, none⟩ = some (.int .i64 lo) ∧ x.cell? ⟨b2, 0, none⟩ = some (.int .i64 hi) ∧ x.cell? ⟨b3, 0, none⟩ = some (.pointer (some ⟨B, k, none⟩)) ∧ H ≤ b1 ∧ H ≤ b2 ∧ H ≤ b3
def MnG (H B : Nat) (x : World) (f : Wd) (v : Value) : Prop :=
  (f = kDev ∧ NmG H B x 0 v) ∨ (f = kSum ∧ NmG H B x 5 v) ∨ (f = kSiz ∧ NuG H B x 4 1 32 v) ∨ (f = kPol ∧ NuG H B x 8 1 1000 v) ∨ (f = kTim ∧ NuG H B x 9 1 1000 v) ∨ (f = kRet ∧ NuG H B x 10 0 10 v) ∨ (f = kAge ∧ NuG H B x 11 1 1000 v)
  ∨ (f = kSta ∧ v = .func (.func 33) #[.pointer (some ⟨B, 0, none⟩)] #[]) ∨ (f = kEsc ∧ v = .func (.func 34) #[.pointer (some ⟨B, 0, none⟩)] #[]) ∨ (f = kReq ∧ v = .func (.func 37) #[.pointer (some ⟨B, 0, none⟩)] #[]) ∨ (f = kFie ∧ v = .func (.func 36) #[.pointer (some ⟨B, 0, none⟩)] #[])
/-- no cell is lost -/
def KeepC (x y : World) : Prop := x.heap.size ≤ y.heap.size ∧ ∀ a v, x.cell? a = some v → y.cell? a = some v
theorem KeepC.of_below {x y : World} (h : Below x.heap.size x y) : KeepC x y := ⟨h.size, fun a v hc => (h.cell (block_lt_of_cell hc)).trans hc⟩
theorem NmG.keep {H B : Nat} {x y : World} {k : Nat} {v : Value} (h : NmG H B x k v) (hk : KeepC x y) : NmG H B y k v := by
  obtain ⟨b, h1, h2, h3⟩ := h
  exact ⟨b, h1, hk.2 _ _ h2, h3⟩
theorem NuG.keep {H B : Nat} {x y : World} {k : Nat} {lo hi : Int} {v : Value} (h : NuG H B x k lo hi v) (hk : KeepC x y) : NuG H B y k lo hi v := by
  obtain ⟨b1, b2, b3, h0, h1, h2, h3, h4⟩ := h
  exact ⟨b1, b2, b3, h0, hk.2 _ _ h1, hk.2 _ _ h2, hk.2 _ _ h3, h4⟩
theorem MnG.keep {H B : Nat} {x y : World} {f : Wd} {v : Value} (h : MnG H B x f v) (hk : KeepC x y) : MnG H B y f v := by
  rcases h with ⟨e, h⟩ | ⟨e, h⟩ | ⟨e, h⟩ | ⟨e, h⟩ | ⟨e, h⟩ | ⟨e, h⟩ | ⟨e, h⟩ | ⟨e, h⟩ | ⟨e, h⟩ | ⟨e, h⟩ | ⟨e, h⟩
  · exact .inl ⟨e, h.keep hk⟩
  · exact .inr (.inl ⟨e, h.keep hk⟩)
  · exact .inr (.inr (.inl ⟨e, h.keep hk⟩))
  · exact .inr (.inr (.inr (.inl ⟨e, h.keep hk⟩)))
  · exact .inr (.inr (.inr (.inr (.inl ⟨e, h.keep hk⟩))))
  · exact .inr (.inr (.inr (.inr (.inr (.inl ⟨e, h.keep hk⟩)))))
  · exact .inr (.inr (.inr (.inr (.inr (.inr (.inl ⟨e, h.keep hk⟩))))))
  · exact .inr (.inr (.inr (.inr (.inr (.inr (.inr (.inl ⟨e, h⟩)))))))
  · exact .inr (.inr (.inr (.inr (.inr (.inr (.inr (.inr (.inl ⟨e, h⟩))))))))
  · exact .inr (.inr (.inr (.inr (.inr (.inr (.inr (.inr (.inr (.inl ⟨e, h⟩)))))))))
  · exact .inr (.inr (.inr (.inr (.inr (.inr (.inr (.inr (.inr (.inr ⟨e, h⟩)))))))))
/-- the map, by what has been put in -/
structure MkMap (H B : Nat) (x : Array Bool) (z : World) (G : Nat) (ms : Array MapEntry) (c : Nat) : Prop where
  at_ : z.heap[G]? = some (.map ms c)
  lo : H ≤ G
  val : ∀ (i : Nat) (e : MapEntry), ms[i]? = some e → ∃ (j : Nat) (f : Wd), insK j = some f ∧ x.getD j false = true ∧ e.key = .string (txt f) ∧ MnG H B z f e.val
  has : ∀ (j : Nat) (f : Wd), insK j = some f → x.getD j false = true → ∃ (i : Nat) (e : MapEntry), ms[i]? = some e ∧ e.key = .string (txt f)
  born : (ms.toList.map (·.born)).Nodup
  lt : ∀ e ∈ ms.toList, e.born < c
/-- a map in a block that was made -/
def MapV (H : Nat) (z : World) (v : Value) : Prop := ∃ g, v = .map (some g) ∧ H ≤ g ∧ ∃ es c, z.heap[g]? = some (.map es c)
/-- what the operations yield -/
def mkV (B : Nat) : Nat → Value
  | 1 => .pointer (some ⟨B, 0, none⟩)
  | 2 => .pointer (some ⟨B, 0, none⟩)
  | 3 => .pointer (some ⟨B, 0, none⟩)
  | 6 => .pointer (some ⟨B, 0, none⟩)
  | 7 => .func (.func 33) #[.pointer (some ⟨B, 0, none⟩)] #[]
  | 9 => .pointer (some ⟨B, 0, none⟩)
  | 10 => .func (.func 34) #[.pointer (some ⟨B, 0, none⟩)] #[]
  | 12 => .pointer (some ⟨B, 0, none⟩)
  | 13 => .pointer (some ⟨B, 0, none⟩)
  | 14 => .pointer (some ⟨B, 4, none⟩)
  | 17 => .pointer (some ⟨B, 0, none⟩)
  | 18 => .pointer (some ⟨B, 0, none⟩)
  | 19 => .pointer (some ⟨B, 5, none⟩)
  | 22 => .pointer (some ⟨B, 0, none⟩)
  | 23 => .func (.func 36) #[.pointer (some ⟨B, 0, none⟩)] #[]
  | 25 => .pointer (some ⟨B, 0, none⟩)
  | 26 => .func (.func 37) #[.pointer (some ⟨B, 0, none⟩)] #[]
  | 28 => .pointer (some ⟨B, 0, none⟩)
  | 29 => .pointer (some ⟨B, 0, none⟩)
  | 30 => .pointer (some ⟨B, 8, none⟩)
  | 33 => .pointer (some ⟨B, 0, none⟩)
  | 34 => .pointer (some ⟨B, 0, none⟩)
  | 35 => .pointer (some ⟨B, 9, none⟩)
  | 38 => .pointer (some ⟨B, 0, none⟩)
  | 39 => .pointer (some ⟨B, 0, none⟩)
  | 40 => .pointer (some ⟨B, 10, none⟩)
  | 43 => .pointer (some ⟨B, 0, none⟩)
  | 44 => .pointer (some ⟨B, 0, none⟩)
  | 45 => .pointer (some ⟨B, 11, none⟩)
  | _ => undef
def MkP (H B : Nat) (i : Nat) (v : Value) (z : World) : Prop :=
  match i with
  | 0 => MapV H z v
  | 48 => MapV H z v
  | 49 => MapV H z v
  | 4 => NmG H B z 0 v
  | 20 => NmG H B z 5 v
  | 15 => NuG H B z 4 1 32 v
  | 31 => NuG H B z 8 1 1000 v
  | 36 => NuG H B z 9 1 1000 v
  | 41 => NuG H B z 10 0 10 v
  | 46 => NuG H B z 11 1 1000 v
  | i => v = mkV B i
/-- cells and maps stay -/
def KeepM (x y : World) : Prop := KeepC x y ∧ ∀ (g : Nat) (es : Array MapEntry) (c : Nat), x.heap[g]? = some (Obj.map es c) → ∃ (es' : Array MapEntry) (c' : Nat), y.heap[g]? = some (Obj.map es' c')
theorem KeepM.of_below {x y : World} (h : Below x.heap.size x y) : KeepM x y := ⟨.of_below h, fun g es c hg => ⟨es, c, (h.block g (Array.getElem?_eq_some_iff.1 hg).1).trans hg⟩⟩
theorem MapV.keep {H : Nat} {x y : World} {v : Value} (h : MapV H x v) (hk : KeepM x y) : MapV H y v := by
  obtain ⟨g, h1, h2, es, c, h3⟩ := h
  exact ⟨g, h1, h2, hk.2 g es c h3⟩
theorem MkP.keep {H B : Nat} {x : Array Bool} {z y : World} (hk : KeepM z y) : RegK (MkP H B) x z y := by
  intro j v _ hp
  unfold MkP at hp ⊢
  split at hp
  · exact hp.keep hk
  · exact hp.keep hk
  · exact hp.keep hk
  · exact hp.keep hk.1
  · exact hp.keep hk.1
  · exact hp.keep hk.1
  · exact hp.keep hk.1
  · exact hp.keep hk.1
  · exact hp.keep hk.1
  · exact hp.keep hk.1
  · exact hp
/-- memory, by what has come up -/
structure MkW (w0 : World) (B : Nat) (x : Array Bool) (z : World) : Prop where
  b : Below w0.heap.size w0 z
  no : x.getD 0 false = false → (∀ j f, insK j = some f → x.getD j false = false) ∧ ∀ (g : Nat) (es : Array MapEntry) (c : Nat), w0.heap.size ≤ g → z.heap[g]? ≠ some (Obj.map es c)
  mp : x.getD 0 false = true → ∃ G ms c, MkMap w0.heap.size B x z G ms c ∧ ∀ (g : Nat) (es : Array MapEntry) (c : Nat), w0.heap.size ≤ g → z.heap[g]? = some (Obj.map es c) → g = G
theorem MkMap.other {H B : Nat} {x : Array Bool} {z : World} {G : Nat} {ms : Array MapEntry} {c : Nat} (h : MkMap H B x z G ms c) {i : Nat} (hi : insK i = none) : MkMap H B (x.setIfInBounds i true) z G ms c := by
  have hj : ∀ j f, insK j = some f → (x.setIfInBounds i true).getD j false = x.getD j false := fun j f hjf => getD_set_ne false (fun e => by rw [e, hjf] at hi; cases hi)
  refine ⟨h.at_, h.lo, fun k e he => ?_, fun j f hjf hx => h.has j f hjf (by rwa [hj j f hjf] at hx), h.born, h.lt⟩
  obtain ⟨j, f, h1, h2, h3, h4⟩ := h.val k e he
  exact ⟨j, f, h1, by rw [hj j f h1]; exact h2, h3, h4⟩
theorem MkW.other {w0 : World} {B : Nat} {x : Array Bool} {z : World} (h : MkW w0 B x z) {i : Nat} (h0 : i ≠ 0) (hi : insK i = none) : MkW w0 B (x.setIfInBounds i true) z := by
  have e0 : (x.setIfInBounds i true).getD 0 false = x.getD 0 false := getD_set_ne false h0
  refine ⟨h.b, fun hx => ?_, fun hx => ?_⟩
  · rw [e0] at hx
    refine ⟨fun j f hjf => ?_, (h.no hx).2⟩
    rw [getD_set_ne false (fun e => by rw [e, hjf] at hi; cases hi)]
    exact (h.no hx).1 j f hjf
  · rw [e0] at hx
    obtain ⟨G, ms, c, h1, h2⟩ := h.mp hx
    exact ⟨G, ms, c, h1.other hi, h2⟩
/-- only cells are laid -/
theorem MkW.cells {w0 : World} {B : Nat} {x : Array Bool} {z : World} (h : MkW w0 B x z) (C : Array Value) (t : TypeId) : MkW w0 B x (z.alloc (.cells C t)) := by
  have hb : Below z.heap.size z (z.alloc (.cells C t)) := (Below.refl _ _).alloc (Nat.le_refl _) _
  have hm : ∀ (g : Nat) (es : Array MapEntry) (c : Nat), (z.alloc (.cells C t)).heap[g]? = some (Obj.map es c) → z.heap[g]? = some (Obj.map es c) := fun g es c hg => by
    rcases Nat.lt_trichotomy g z.heap.size with hlt | heq | hgt
    · rwa [hb.block g hlt] at hg
    · rw [heq, World.alloc_heap_new] at hg; cases hg
    · have := (Array.getElem?_eq_some_iff.1 hg).1
      rw [World.size_alloc] at this
      omega
  refine ⟨h.b.alloc h.b.size _, fun hx => ⟨(h.no hx).1, fun g es c hg hc => (h.no hx).2 g es c hg (hm g es c hc)⟩, fun hx => ?_⟩
  obtain ⟨G, ms, c, h1, h2⟩ := h.mp hx
  refine ⟨G, ms, c, ⟨(hb.block G (Array.getElem?_eq_some_iff.1 h1.at_).1).trans h1.at_, h1.lo, fun i e he => ?_, h1.has, h1.born, h1.lt⟩, fun g es c hg hc => h2 g es c hg (hm g es c hc)⟩
  obtain ⟨j, f, q1, q2, q3, q4⟩ := h1.val i e he
  exact ⟨j, f, q1, q2, q3, q4.keep (.of_below hb)⟩
/-- the map is laid -/
theorem MkW.made {w0 : World} {B : Nat} {x : Array Bool} {z : World} (h : MkW w0 B x z) (hx0 : x.getD 0 false = false) (hsz : 0 < x.size) : MkW w0 B (x.setIfInBounds 0 true) (z.alloc (.map #[] 0)) := by
  obtain ⟨n1, n2⟩ := h.no hx0
  have hb : Below z.heap.size z (z.alloc (.map #[] 0)) := (Below.refl _ _).alloc (Nat.le_refl _) _
  have e0 : (x.setIfInBounds 0 true).getD 0 false = true := getD_set_at hsz
  have i0 : ∀ j f, insK j = some f → j ≠ 0 := fun j f hj e => by subst e; cases hj
  refine ⟨h.b.alloc h.b.size _, fun hx => (by rw [e0] at hx; cases hx), fun _ => ⟨z.heap.size, #[], 0, ⟨World.alloc_heap_new z _, h.b.size, fun i e he => by simp at he, fun j f hj hx => ?_, by simp, fun e he => by simp at he⟩, fun g es c hg hc => ?_⟩⟩
  · rw [getD_set_ne false (Ne.symm (i0 j f hj)), n1 j f hj] at hx; cases hx
  · rcases Nat.lt_trichotomy g z.heap.size with hlt | heq | hgt
    · rw [hb.block g hlt] at hc; exact absurd hc (n2 g es c hg)
    · exact heq
    · have := (Array.getElem?_eq_some_iff.1 hc).1
      rw [World.size_alloc] at this
      omega
theorem insK_inj {i j : Nat} {f : Wd} (hi : insK i = some f) (hj : insK j = some f) : i = j := by
  unfold insK at hi hj
  split at hi <;> split at hj <;> first | rfl | (exfalso; cases hi; revert hj; decide) | cases hi | cases hj
/-- a word is put in -/
theorem MkW.put {w0 : World} {B : Nat} {x : Array Bool} {z : World} (h : MkW w0 B x z) {i : Nat} {f : Wd} (hi : insK i = some f) (hxi : x.getD i false = false) (hsz : i < x.size) (hx0 : x.getD 0 false = true) {v0 : Value} (hv0 : MapV w0.heap.size z v0) {v : Value} (hv : MnG w0.heap.size B z f v) :
    ∃ g Z, v0 = .map (some g) ∧ (Instr.mapUpdate 67 (.map (some g)) (.string (txt f)) v).run Tryd.prog z = .ok () Z ∧ KeepM z Z ∧ MkW w0 B (x.setIfInBounds i true) Z := by
  obtain ⟨G, ms, c, h1, h2⟩ := h.mp hx0
  obtain ⟨g, rfl, hg, es, c', he⟩ := hv0
  obtain rfl := h2 g es c' hg he
  have ne : ∀ (k : Nat) (e : MapEntry), ms[k]? = some e → e.key ≠ .string (txt f) := by
    intro k e hk hc
    obtain ⟨j, f', q1, q2, q3, _⟩ := h1.val k e hk
    rw [q3] at hc
    injection hc with hc
    have := txt_inj hc
    subst this
    have := insK_inj q1 hi
    subst this
    rw [hxi] at q2; cases q2
  have fn : Instr.findNow .string (.string (txt f)) ms.toList 0 = some none := by
    rcases find_arr f ms (fun k e hk => by obtain ⟨j, f', _, _, q3, _⟩ := h1.val k e hk; exact ⟨f', q3⟩) with ⟨q, _⟩ | ⟨k, e, q1, q2, _⟩
    · exact q
    · exact absurd q2 (ne k e q1)
  have hgl := (Array.getElem?_eq_some_iff.1 h1.at_).1
  have i0 : i ≠ 0 := fun e => by subst e; cases hi
  have ho : ∀ k, k ≠ g → ({ z with heap := z.heap.setIfInBounds g (.map (ms.push { key := .string (txt f), val := v, born := c }) (c + 1)) } : World).heap[k]? = z.heap[k]? := fun k hk => by simp [Array.getElem?_setIfInBounds_ne (Ne.symm hk)]
  have hat : ({ z with heap := z.heap.setIfInBounds g (.map (ms.push { key := .string (txt f), val := v, born := c }) (c + 1)) } : World).heap[g]? = some (.map (ms.push { key := .string (txt f), val := v, born := c }) (c + 1)) := by simp [hgl]
  have kc : KeepC z { z with heap := z.heap.setIfInBounds g (.map (ms.push { key := .string (txt f), val := v, born := c }) (c + 1)) } := by
    refine ⟨by simp, fun a u ha => ?_⟩
    by_cases hag : a.block = g
    · exfalso
      unfold World.cell? at ha
      rw [hag, h1.at_] at ha
      cases ha
    · rw [World.cell?_of_block (ho a.block hag)]; exact ha
  refine ⟨g, _, rfl, ins_none _ 9 85 Tryd.underlying67 Tryd.underlying9 ms c (txt f) v fn z g h1.at_, ⟨kc, fun k es c hk => ?_⟩, ?_⟩
  · by_cases hkg : k = g
    · subst hkg; exact ⟨_, _, hat⟩
    · exact ⟨es, c, (ho k hkg).trans hk⟩
  · refine ⟨⟨h.b.os, h.b.tape, h.b.output, by simpa using h.b.size, fun k hk => (ho k (by omega)).trans (h.b.block k hk)⟩, fun hx => ?_, fun _ => ⟨g, _, _, ⟨hat, hg, fun k e hk => ?_, fun j f' hj hx => ?_, ?_, ?_⟩, fun k es c' hk hc => ?_⟩⟩
    · rw [getD_set_true hx0] at hx; cases hx
    · rw [Array.getElem?_push] at hk
      split at hk
      · cases hk
        exact ⟨i, f, hi, getD_set_at hsz, rfl, hv.keep kc⟩
      · obtain ⟨j, f', q1, q2, q3, q4⟩ := h1.val k e hk
        exact ⟨j, f', q1, getD_set_true q2, q3, q4.keep kc⟩
    · by_cases hji : j = i
      · subst hji
        rw [hi] at hj; cases hj
        exact ⟨ms.size, _, by rw [Array.getElem?_push, if_pos rfl], rfl⟩
      · rw [getD_set_ne false (Ne.symm hji)] at hx
        obtain ⟨k, e, q1, q2⟩ := h1.has j f' hj hx
        have := (Array.getElem?_eq_some_iff.1 q1).1
        exact ⟨k, e, by rw [Array.getElem?_push, if_neg (by omega)]; exact q1, q2⟩
    · rw [Array.toList_push, List.map_append, List.nodup_append]
      refine ⟨h1.born, by simp, fun a ha b hb e => ?_⟩
      obtain ⟨e', he', rfl⟩ := List.mem_map.1 ha
      have hb' : b = c := by simpa using hb
      have := h1.lt e' he'
      omega
    · intro e he'
      rw [Array.toList_push, List.mem_append] at he'
      rcases he' with he' | he'
      · have := h1.lt e he'; omega
      · have : e = { key := .string (txt f), val := v, born := c } := by simpa using he'
        rw [this]; exact Nat.lt_succ_self _
    · by_cases hkg : k = g
      · exact hkg
      · rw [ho k hkg] at hc
        exact h2 k es c' hk hc
end Go.Proofs.YtagkgneijdbkoaaDoor
/-
  What the program's own meanings returns: the map of what lines mean (layer 8). Conditions: as it says.
-/
namespace Go.Proofs.YtagkgneijdbkoaaDoor
open Go.RowKit
set_option linter.unusedVariables false

theorem rep_getD (n j : Nat) : (Array.replicate n false).getD j false = false := by
  rw [Array.getD_eq_getD_getElem?, Array.getElem?_replicate]
  split <;> rfl
theorem nm_new {H : Nat} (B k : Nat) (z : World) (hH : H ≤ z.heap.size) : NmG H B (z.alloc (.cells #[.pointer (some ⟨B, k, none⟩)] 87)) k (.func (.func 46) #[] #[.pointer (some ⟨z.heap.size, 0, none⟩)]) := ⟨z.heap.size, rfl, by simp, hH⟩
theorem new_cell (W : World) (v : Value) (t : TypeId) : (W.alloc (.cells #[v] t)).cell? ⟨W.heap.size, 0, none⟩ = some v := by simp
theorem nu_below (B k : Nat) (lo hi : Int) (z : World) : Below z.heap.size z (((z.alloc (.cells #[.pointer (some ⟨B, k, none⟩)] 89)).alloc (.cells #[.int .i64 lo] 3)).alloc (.cells #[.int .i64 hi] 3)) :=
  (((Below.refl _ _).alloc (Nat.le_refl _) _).alloc (by rw [World.size_alloc]; omega) _).alloc (by rw [World.size_alloc, World.size_alloc]; omega) _
theorem nu_new {H : Nat} (B k : Nat) (lo hi : Int) (z : World) (hH : H ≤ z.heap.size) : NuG H B (((z.alloc (.cells #[.pointer (some ⟨B, k, none⟩)] 89)).alloc (.cells #[.int .i64 lo] 3)).alloc (.cells #[.int .i64 hi] 3)) k lo hi (.func (.func 49) #[] #[.pointer (some ⟨z.heap.size + 1, 0, none⟩), .pointer (some ⟨z.heap.size + 2, 0, none⟩), .pointer (some ⟨z.heap.size, 0, none⟩)]) := by
  refine ⟨z.heap.size + 1, z.heap.size + 2, z.heap.size, rfl, ?_, ?_, ?_, by omega, by omega, hH⟩
  · have e : z.heap.size + 1 = (z.alloc (.cells #[.pointer (some ⟨B, k, none⟩)] 89)).heap.size := by rw [World.size_alloc]
    rw [World.cell?_alloc_lt _ _ _ (by simp), e]
    exact new_cell _ _ _
  · have e : z.heap.size + 2 = ((z.alloc (.cells #[.pointer (some ⟨B, k, none⟩)] 89)).alloc (.cells #[.int .i64 lo] 3)).heap.size := by rw [World.size_alloc, World.size_alloc]
    rw [e]
    exact new_cell _ _ _
  · rw [World.cell?_alloc_lt _ _ _ (by simp; omega), World.cell?_alloc_lt _ _ _ (by simp)]
    simp
set_option maxRecDepth 100000 in
set_option maxHeartbeats 8000000 in
theorem meanings_any (B : Nat) (w : World) : Calls Tryd.prog 19 #[.pointer (some ⟨B, 0, none⟩)] w fun e z => ∃ G ms c x, e = .returned (.map (some G)) ∧ MkMap w.heap.size B x z G ms c ∧ (∀ j f, insK j = some f → x.getD j false = true) ∧ Below w.heap.size w z := by
  have hmf : ∀ (fn : Fn) (first cap : Array Value) (w : World), (Instr.makeFunc fn first cap).run Tryd.prog w = .ok (.func fn first cap) w := fun _ _ _ _ => rfl
  have hmm := @run_makeMap Tryd.prog
  go_enter Tryd.func19, Tryd.ntmps19
  go_upto_region 2 with fail
  refine region_props (MkP w.heap.size B) (MkW w B) (by kernel_rfl) (by kernel_rfl) ?_ ?_ ?_
  · intro x a z i op ho hI haf hx hxi hW
    have hi : i < 50 := (List.getElem?_eq_some_iff.1 ho).1
    have hxs : x.size = 50 := hx
    have xi := getD_false hxi
    match i, hi with
    | 0, _ =>
      obtain rfl := Option.some.inj (show some _ = some op from ho)
      go_simp
      exact ⟨_, rfl, ⟨_, rfl, hW.b.size, _, _, World.alloc_heap_new z _⟩, MkP.keep (.of_below ((Below.refl _ _).alloc (Nat.le_refl _) _)), hW.made xi (by omega)⟩
    | 1, _ =>
      obtain rfl := Option.some.inj (show some _ = some op from ho)
      have e1 : a.tmps.getD 3 undef = .pointer (some ⟨B, 0, none⟩) := (hI.was (by kernel_rfl)).trans rfl
      go_simp
      exact ⟨_, rfl, rfl, RegK.refl _ _ _, (hW.other (by decide) rfl)⟩
    | 2, _ =>
      obtain rfl := Option.some.inj (show some _ = some op from ho)
      have e1 : a.tmps.getD 8 undef = .pointer (some ⟨B, 0, none⟩) := hI.val 1 _ 8 rfl rfl (dep_at haf (by kernel_rfl))
      go_simp
      exact ⟨_, rfl, rfl, RegK.refl _ _ _, (hW.other (by decide) rfl)⟩
    | 3, _ =>
      obtain rfl := Option.some.inj (show some _ = some op from ho)
      have e1 : a.tmps.getD 9 undef = .pointer (some ⟨B, 0, none⟩) := hI.val 2 _ 9 rfl rfl (dep_at haf (by kernel_rfl))
      go_simp
      exact ⟨_, rfl, rfl, RegK.refl _ _ _, (hW.other (by decide) rfl)⟩
    | 4, _ =>
      obtain rfl := Option.some.inj (show some _ = some op from ho)
      have e1 : a.tmps.getD 10 undef = .pointer (some ⟨B, 0, none⟩) := hI.val 3 _ 10 rfl rfl (dep_at haf (by kernel_rfl))
      go_simp
      refine (pname_any B 0 z).mono ?_
      rintro e z' ⟨rfl, rfl⟩
      have hb : Below z.heap.size z (z.alloc (.cells #[.pointer (some ⟨B, 0, none⟩)] 87)) := (Below.refl _ _).alloc (Nat.le_refl _) _
      exact ⟨_, rfl, nm_new B 0 z hW.b.size, MkP.keep (.of_below hb), (hW.cells _ _).other (by decide) rfl⟩
    | 5, _ =>
      obtain rfl := Option.some.inj (show some _ = some op from ho)
      have e2 := hI.val 4 _ 11 rfl rfl (dep_at haf (by kernel_rfl))
      obtain ⟨g, Z, e1, up, km, W'⟩ := hW.put (i := 5) (f := kDev) rfl xi (by omega) (dep_at haf (by kernel_rfl)) (hI.val 0 _ 7 rfl rfl (dep_at haf (by kernel_rfl))) (v := a.tmps.getD 11 undef) (.inl ⟨rfl, e2⟩)
      replace up : (Instr.mapUpdate 67 (.map (some g)) (.string ⟨#[100, 101, 118, 105, 99, 101]⟩) (a.tmps.getD 11 undef)).run Tryd.prog z = .ok () Z := up
      generalize hv : a.tmps.getD 11 undef = v at *
      go_simp
      first
        | exact ⟨MkP.keep km, W'⟩
        | exact MkP.keep km
    | 6, _ =>
      obtain rfl := Option.some.inj (show some _ = some op from ho)
      have e1 : a.tmps.getD 0 undef = .pointer (some ⟨B, 0, none⟩) := (hI.was (by kernel_rfl)).trans rfl
      go_simp
      exact ⟨_, rfl, rfl, RegK.refl _ _ _, (hW.other (by decide) rfl)⟩
    | 7, _ =>
      obtain rfl := Option.some.inj (show some _ = some op from ho)
      have e1 : a.tmps.getD 12 undef = .pointer (some ⟨B, 0, none⟩) := hI.val 6 _ 12 rfl rfl (dep_at haf (by kernel_rfl))
      go_simp
      exact ⟨_, rfl, rfl, RegK.refl _ _ _, (hW.other (by decide) rfl)⟩
    | 8, _ =>
      obtain rfl := Option.some.inj (show some _ = some op from ho)
      have e2 : a.tmps.getD 13 undef = .func (.func 33) #[.pointer (some ⟨B, 0, none⟩)] #[] := hI.val 7 _ 13 rfl rfl (dep_at haf (by kernel_rfl))
      obtain ⟨g, Z, e1, up, km, W'⟩ := hW.put (i := 8) (f := kSta) rfl xi (by omega) (dep_at haf (by kernel_rfl)) (hI.val 0 _ 7 rfl rfl (dep_at haf (by kernel_rfl))) (v := a.tmps.getD 13 undef) (.inr (.inr (.inr (.inr (.inr (.inr (.inr (.inl ⟨rfl, e2⟩))))))))
      replace up : (Instr.mapUpdate 67 (.map (some g)) (.string ⟨#[115, 116, 97, 114, 116]⟩) (a.tmps.getD 13 undef)).run Tryd.prog z = .ok () Z := up
      rw [e2] at up
      go_simp
      first
        | exact ⟨MkP.keep km, W'⟩
        | exact MkP.keep km
    | 9, _ =>
      obtain rfl := Option.some.inj (show some _ = some op from ho)
      have e1 : a.tmps.getD 0 undef = .pointer (some ⟨B, 0, none⟩) := (hI.was (by kernel_rfl)).trans rfl
      go_simp
      exact ⟨_, rfl, rfl, RegK.refl _ _ _, (hW.other (by decide) rfl)⟩
    | 10, _ =>
      obtain rfl := Option.some.inj (show some _ = some op from ho)
      have e1 : a.tmps.getD 14 undef = .pointer (some ⟨B, 0, none⟩) := hI.val 9 _ 14 rfl rfl (dep_at haf (by kernel_rfl))
      go_simp
      exact ⟨_, rfl, rfl, RegK.refl _ _ _, (hW.other (by decide) rfl)⟩
    | 11, _ =>
      obtain rfl := Option.some.inj (show some _ = some op from ho)
      have e2 : a.tmps.getD 15 undef = .func (.func 34) #[.pointer (some ⟨B, 0, none⟩)] #[] := hI.val 10 _ 15 rfl rfl (dep_at haf (by kernel_rfl))
      obtain ⟨g, Z, e1, up, km, W'⟩ := hW.put (i := 11) (f := kEsc) rfl xi (by omega) (dep_at haf (by kernel_rfl)) (hI.val 0 _ 7 rfl rfl (dep_at haf (by kernel_rfl))) (v := a.tmps.getD 15 undef) (.inr (.inr (.inr (.inr (.inr (.inr (.inr (.inr (.inl ⟨rfl, e2⟩)))))))))
      replace up : (Instr.mapUpdate 67 (.map (some g)) (.string ⟨#[101, 115, 99, 97, 112, 101]⟩) (a.tmps.getD 15 undef)).run Tryd.prog z = .ok () Z := up
      rw [e2] at up
      go_simp
      first
        | exact ⟨MkP.keep km, W'⟩
        | exact MkP.keep km
    | 12, _ =>
      obtain rfl := Option.some.inj (show some _ = some op from ho)
      have e1 : a.tmps.getD 3 undef = .pointer (some ⟨B, 0, none⟩) := (hI.was (by kernel_rfl)).trans rfl
      go_simp
      exact ⟨_, rfl, rfl, RegK.refl _ _ _, (hW.other (by decide) rfl)⟩
    | 13, _ =>
      obtain rfl := Option.some.inj (show some _ = some op from ho)
      have e1 : a.tmps.getD 16 undef = .pointer (some ⟨B, 0, none⟩) := hI.val 12 _ 16 rfl rfl (dep_at haf (by kernel_rfl))
      go_simp
      exact ⟨_, rfl, rfl, RegK.refl _ _ _, (hW.other (by decide) rfl)⟩
    | 14, _ =>
      obtain rfl := Option.some.inj (show some _ = some op from ho)
      have e1 : a.tmps.getD 17 undef = .pointer (some ⟨B, 0, none⟩) := hI.val 13 _ 17 rfl rfl (dep_at haf (by kernel_rfl))
      go_simp
      exact ⟨_, rfl, rfl, RegK.refl _ _ _, (hW.other (by decide) rfl)⟩
    | 15, _ =>
      obtain rfl := Option.some.inj (show some _ = some op from ho)
      have e1 : a.tmps.getD 18 undef = .pointer (some ⟨B, 4, none⟩) := hI.val 14 _ 18 rfl rfl (dep_at haf (by kernel_rfl))
      go_simp
      refine (pnumber_any B 4 1 32 z).mono ?_
      rintro e z' ⟨rfl, rfl⟩
      exact ⟨_, rfl, nu_new B 4 1 32 z hW.b.size, MkP.keep (.of_below (nu_below B 4 1 32 z)), (((hW.cells _ _).cells _ _).cells _ _).other (by decide) rfl⟩
    | 16, _ =>
      obtain rfl := Option.some.inj (show some _ = some op from ho)
      have e2 := hI.val 15 _ 19 rfl rfl (dep_at haf (by kernel_rfl))
      obtain ⟨g, Z, e1, up, km, W'⟩ := hW.put (i := 16) (f := kSiz) rfl xi (by omega) (dep_at haf (by kernel_rfl)) (hI.val 0 _ 7 rfl rfl (dep_at haf (by kernel_rfl))) (v := a.tmps.getD 19 undef) (.inr (.inr (.inl ⟨rfl, e2⟩)))
      replace up : (Instr.mapUpdate 67 (.map (some g)) (.string ⟨#[115, 105, 122, 101]⟩) (a.tmps.getD 19 undef)).run Tryd.prog z = .ok () Z := up
      generalize hv : a.tmps.getD 19 undef = v at *
      go_simp
      first
        | exact ⟨MkP.keep km, W'⟩
        | exact MkP.keep km
    | 17, _ =>
      obtain rfl := Option.some.inj (show some _ = some op from ho)
      have e1 : a.tmps.getD 3 undef = .pointer (some ⟨B, 0, none⟩) := (hI.was (by kernel_rfl)).trans rfl
      go_simp
      exact ⟨_, rfl, rfl, RegK.refl _ _ _, (hW.other (by decide) rfl)⟩
    | 18, _ =>
      obtain rfl := Option.some.inj (show some _ = some op from ho)
      have e1 : a.tmps.getD 20 undef = .pointer (some ⟨B, 0, none⟩) := hI.val 17 _ 20 rfl rfl (dep_at haf (by kernel_rfl))
      go_simp
      exact ⟨_, rfl, rfl, RegK.refl _ _ _, (hW.other (by decide) rfl)⟩
    | 19, _ =>
      obtain rfl := Option.some.inj (show some _ = some op from ho)
      have e1 : a.tmps.getD 21 undef = .pointer (some ⟨B, 0, none⟩) := hI.val 18 _ 21 rfl rfl (dep_at haf (by kernel_rfl))
      go_simp
      exact ⟨_, rfl, rfl, RegK.refl _ _ _, (hW.other (by decide) rfl)⟩
    | 20, _ =>
      obtain rfl := Option.some.inj (show some _ = some op from ho)
      have e1 : a.tmps.getD 22 undef = .pointer (some ⟨B, 5, none⟩) := hI.val 19 _ 22 rfl rfl (dep_at haf (by kernel_rfl))
      go_simp
      refine (pname_any B 5 z).mono ?_
      rintro e z' ⟨rfl, rfl⟩
      have hb : Below z.heap.size z (z.alloc (.cells #[.pointer (some ⟨B, 5, none⟩)] 87)) := (Below.refl _ _).alloc (Nat.le_refl _) _
      exact ⟨_, rfl, nm_new B 5 z hW.b.size, MkP.keep (.of_below hb), (hW.cells _ _).other (by decide) rfl⟩
    | 21, _ =>
      obtain rfl := Option.some.inj (show some _ = some op from ho)
      have e2 := hI.val 20 _ 23 rfl rfl (dep_at haf (by kernel_rfl))
      obtain ⟨g, Z, e1, up, km, W'⟩ := hW.put (i := 21) (f := kSum) rfl xi (by omega) (dep_at haf (by kernel_rfl)) (hI.val 0 _ 7 rfl rfl (dep_at haf (by kernel_rfl))) (v := a.tmps.getD 23 undef) (.inr (.inl ⟨rfl, e2⟩))
      replace up : (Instr.mapUpdate 67 (.map (some g)) (.string ⟨#[115, 117, 109]⟩) (a.tmps.getD 23 undef)).run Tryd.prog z = .ok () Z := up
      generalize hv : a.tmps.getD 23 undef = v at *
      go_simp
      first
        | exact ⟨MkP.keep km, W'⟩
        | exact MkP.keep km
    | 22, _ =>
      obtain rfl := Option.some.inj (show some _ = some op from ho)
      have e1 : a.tmps.getD 0 undef = .pointer (some ⟨B, 0, none⟩) := (hI.was (by kernel_rfl)).trans rfl
      go_simp
      exact ⟨_, rfl, rfl, RegK.refl _ _ _, (hW.other (by decide) rfl)⟩
    | 23, _ =>
      obtain rfl := Option.some.inj (show some _ = some op from ho)
      have e1 : a.tmps.getD 24 undef = .pointer (some ⟨B, 0, none⟩) := hI.val 22 _ 24 rfl rfl (dep_at haf (by kernel_rfl))
      go_simp
      exact ⟨_, rfl, rfl, RegK.refl _ _ _, (hW.other (by decide) rfl)⟩
    | 24, _ =>
      obtain rfl := Option.some.inj (show some _ = some op from ho)
      have e2 : a.tmps.getD 25 undef = .func (.func 36) #[.pointer (some ⟨B, 0, none⟩)] #[] := hI.val 23 _ 25 rfl rfl (dep_at haf (by kernel_rfl))
      obtain ⟨g, Z, e1, up, km, W'⟩ := hW.put (i := 24) (f := kFie) rfl xi (by omega) (dep_at haf (by kernel_rfl)) (hI.val 0 _ 7 rfl rfl (dep_at haf (by kernel_rfl))) (v := a.tmps.getD 25 undef) (.inr (.inr (.inr (.inr (.inr (.inr (.inr (.inr (.inr (.inr (⟨rfl, e2⟩)))))))))))
      replace up : (Instr.mapUpdate 67 (.map (some g)) (.string ⟨#[102, 105, 101, 108, 100]⟩) (a.tmps.getD 25 undef)).run Tryd.prog z = .ok () Z := up
      rw [e2] at up
      go_simp
      first
        | exact ⟨MkP.keep km, W'⟩
        | exact MkP.keep km
    | 25, _ =>
      obtain rfl := Option.some.inj (show some _ = some op from ho)
      have e1 : a.tmps.getD 0 undef = .pointer (some ⟨B, 0, none⟩) := (hI.was (by kernel_rfl)).trans rfl
      go_simp
      exact ⟨_, rfl, rfl, RegK.refl _ _ _, (hW.other (by decide) rfl)⟩
    | 26, _ =>
      obtain rfl := Option.some.inj (show some _ = some op from ho)
      have e1 : a.tmps.getD 26 undef = .pointer (some ⟨B, 0, none⟩) := hI.val 25 _ 26 rfl rfl (dep_at haf (by kernel_rfl))
      go_simp
      exact ⟨_, rfl, rfl, RegK.refl _ _ _, (hW.other (by decide) rfl)⟩
    | 27, _ =>
      obtain rfl := Option.some.inj (show some _ = some op from ho)
      have e2 : a.tmps.getD 27 undef = .func (.func 37) #[.pointer (some ⟨B, 0, none⟩)] #[] := hI.val 26 _ 27 rfl rfl (dep_at haf (by kernel_rfl))
      obtain ⟨g, Z, e1, up, km, W'⟩ := hW.put (i := 27) (f := kReq) rfl xi (by omega) (dep_at haf (by kernel_rfl)) (hI.val 0 _ 7 rfl rfl (dep_at haf (by kernel_rfl))) (v := a.tmps.getD 27 undef) (.inr (.inr (.inr (.inr (.inr (.inr (.inr (.inr (.inr (.inl ⟨rfl, e2⟩))))))))))
      replace up : (Instr.mapUpdate 67 (.map (some g)) (.string ⟨#[114, 101, 113, 117, 101, 115, 116]⟩) (a.tmps.getD 27 undef)).run Tryd.prog z = .ok () Z := up
      rw [e2] at up
      go_simp
      first
        | exact ⟨MkP.keep km, W'⟩
        | exact MkP.keep km
    | 28, _ =>
      obtain rfl := Option.some.inj (show some _ = some op from ho)
      have e1 : a.tmps.getD 3 undef = .pointer (some ⟨B, 0, none⟩) := (hI.was (by kernel_rfl)).trans rfl
      go_simp
      exact ⟨_, rfl, rfl, RegK.refl _ _ _, (hW.other (by decide) rfl)⟩
    | 29, _ =>
      obtain rfl := Option.some.inj (show some _ = some op from ho)
      have e1 : a.tmps.getD 28 undef = .pointer (some ⟨B, 0, none⟩) := hI.val 28 _ 28 rfl rfl (dep_at haf (by kernel_rfl))
      go_simp
      exact ⟨_, rfl, rfl, RegK.refl _ _ _, (hW.other (by decide) rfl)⟩
    | 30, _ =>
      obtain rfl := Option.some.inj (show some _ = some op from ho)
      have e1 : a.tmps.getD 29 undef = .pointer (some ⟨B, 0, none⟩) := hI.val 29 _ 29 rfl rfl (dep_at haf (by kernel_rfl))
      go_simp
      exact ⟨_, rfl, rfl, RegK.refl _ _ _, (hW.other (by decide) rfl)⟩
    | 31, _ =>
      obtain rfl := Option.some.inj (show some _ = some op from ho)
      have e1 : a.tmps.getD 30 undef = .pointer (some ⟨B, 8, none⟩) := hI.val 30 _ 30 rfl rfl (dep_at haf (by kernel_rfl))
      go_simp
      refine (pnumber_any B 8 1 1000 z).mono ?_
      rintro e z' ⟨rfl, rfl⟩
      exact ⟨_, rfl, nu_new B 8 1 1000 z hW.b.size, MkP.keep (.of_below (nu_below B 8 1 1000 z)), (((hW.cells _ _).cells _ _).cells _ _).other (by decide) rfl⟩
    | 32, _ =>
      obtain rfl := Option.some.inj (show some _ = some op from ho)
      have e2 := hI.val 31 _ 31 rfl rfl (dep_at haf (by kernel_rfl))
      obtain ⟨g, Z, e1, up, km, W'⟩ := hW.put (i := 32) (f := kPol) rfl xi (by omega) (dep_at haf (by kernel_rfl)) (hI.val 0 _ 7 rfl rfl (dep_at haf (by kernel_rfl))) (v := a.tmps.getD 31 undef) (.inr (.inr (.inr (.inl ⟨rfl, e2⟩))))
      replace up : (Instr.mapUpdate 67 (.map (some g)) (.string ⟨#[112, 111, 108, 108]⟩) (a.tmps.getD 31 undef)).run Tryd.prog z = .ok () Z := up
      generalize hv : a.tmps.getD 31 undef = v at *
      go_simp
      first
        | exact ⟨MkP.keep km, W'⟩
        | exact MkP.keep km
    | 33, _ =>
      obtain rfl := Option.some.inj (show some _ = some op from ho)
      have e1 : a.tmps.getD 3 undef = .pointer (some ⟨B, 0, none⟩) := (hI.was (by kernel_rfl)).trans rfl
      go_simp
      exact ⟨_, rfl, rfl, RegK.refl _ _ _, (hW.other (by decide) rfl)⟩
    | 34, _ =>
      obtain rfl := Option.some.inj (show some _ = some op from ho)
      have e1 : a.tmps.getD 32 undef = .pointer (some ⟨B, 0, none⟩) := hI.val 33 _ 32 rfl rfl (dep_at haf (by kernel_rfl))
      go_simp
      exact ⟨_, rfl, rfl, RegK.refl _ _ _, (hW.other (by decide) rfl)⟩
    | 35, _ =>
      obtain rfl := Option.some.inj (show some _ = some op from ho)
      have e1 : a.tmps.getD 33 undef = .pointer (some ⟨B, 0, none⟩) := hI.val 34 _ 33 rfl rfl (dep_at haf (by kernel_rfl))
      go_simp
      exact ⟨_, rfl, rfl, RegK.refl _ _ _, (hW.other (by decide) rfl)⟩
    | 36, _ =>
      obtain rfl := Option.some.inj (show some _ = some op from ho)
      have e1 : a.tmps.getD 34 undef = .pointer (some ⟨B, 9, none⟩) := hI.val 35 _ 34 rfl rfl (dep_at haf (by kernel_rfl))
      go_simp
      refine (pnumber_any B 9 1 1000 z).mono ?_
      rintro e z' ⟨rfl, rfl⟩
      exact ⟨_, rfl, nu_new B 9 1 1000 z hW.b.size, MkP.keep (.of_below (nu_below B 9 1 1000 z)), (((hW.cells _ _).cells _ _).cells _ _).other (by decide) rfl⟩
    | 37, _ =>
      obtain rfl := Option.some.inj (show some _ = some op from ho)
      have e2 := hI.val 36 _ 35 rfl rfl (dep_at haf (by kernel_rfl))
      obtain ⟨g, Z, e1, up, km, W'⟩ := hW.put (i := 37) (f := kTim) rfl xi (by omega) (dep_at haf (by kernel_rfl)) (hI.val 0 _ 7 rfl rfl (dep_at haf (by kernel_rfl))) (v := a.tmps.getD 35 undef) (.inr (.inr (.inr (.inr (.inl ⟨rfl, e2⟩)))))
      replace up : (Instr.mapUpdate 67 (.map (some g)) (.string ⟨#[116, 105, 109, 101, 111, 117, 116]⟩) (a.tmps.getD 35 undef)).run Tryd.prog z = .ok () Z := up
      generalize hv : a.tmps.getD 35 undef = v at *
      go_simp
      first
        | exact ⟨MkP.keep km, W'⟩
        | exact MkP.keep km
    | 38, _ =>
      obtain rfl := Option.some.inj (show some _ = some op from ho)
      have e1 : a.tmps.getD 3 undef = .pointer (some ⟨B, 0, none⟩) := (hI.was (by kernel_rfl)).trans rfl
      go_simp
      exact ⟨_, rfl, rfl, RegK.refl _ _ _, (hW.other (by decide) rfl)⟩
    | 39, _ =>
      obtain rfl := Option.some.inj (show some _ = some op from ho)
      have e1 : a.tmps.getD 36 undef = .pointer (some ⟨B, 0, none⟩) := hI.val 38 _ 36 rfl rfl (dep_at haf (by kernel_rfl))
      go_simp
      exact ⟨_, rfl, rfl, RegK.refl _ _ _, (hW.other (by decide) rfl)⟩
    | 40, _ =>
      obtain rfl := Option.some.inj (show some _ = some op from ho)
      have e1 : a.tmps.getD 37 undef = .pointer (some ⟨B, 0, none⟩) := hI.val 39 _ 37 rfl rfl (dep_at haf (by kernel_rfl))
      go_simp
      exact ⟨_, rfl, rfl, RegK.refl _ _ _, (hW.other (by decide) rfl)⟩
    | 41, _ =>
      obtain rfl := Option.some.inj (show some _ = some op from ho)
      have e1 : a.tmps.getD 38 undef = .pointer (some ⟨B, 10, none⟩) := hI.val 40 _ 38 rfl rfl (dep_at haf (by kernel_rfl))
      go_simp
      refine (pnumber_any B 10 0 10 z).mono ?_
      rintro e z' ⟨rfl, rfl⟩
      exact ⟨_, rfl, nu_new B 10 0 10 z hW.b.size, MkP.keep (.of_below (nu_below B 10 0 10 z)), (((hW.cells _ _).cells _ _).cells _ _).other (by decide) rfl⟩
    | 42, _ =>
      obtain rfl := Option.some.inj (show some _ = some op from ho)
      have e2 := hI.val 41 _ 39 rfl rfl (dep_at haf (by kernel_rfl))
      obtain ⟨g, Z, e1, up, km, W'⟩ := hW.put (i := 42) (f := kRet) rfl xi (by omega) (dep_at haf (by kernel_rfl)) (hI.val 0 _ 7 rfl rfl (dep_at haf (by kernel_rfl))) (v := a.tmps.getD 39 undef) (.inr (.inr (.inr (.inr (.inr (.inl ⟨rfl, e2⟩))))))
      replace up : (Instr.mapUpdate 67 (.map (some g)) (.string ⟨#[114, 101, 116, 114, 105, 101, 115]⟩) (a.tmps.getD 39 undef)).run Tryd.prog z = .ok () Z := up
      generalize hv : a.tmps.getD 39 undef = v at *
      go_simp
      first
        | exact ⟨MkP.keep km, W'⟩
        | exact MkP.keep km
    | 43, _ =>
      obtain rfl := Option.some.inj (show some _ = some op from ho)
      have e1 : a.tmps.getD 3 undef = .pointer (some ⟨B, 0, none⟩) := (hI.was (by kernel_rfl)).trans rfl
      go_simp
      exact ⟨_, rfl, rfl, RegK.refl _ _ _, (hW.other (by decide) rfl)⟩
    | 44, _ =>
      obtain rfl := Option.some.inj (show some _ = some op from ho)
      have e1 : a.tmps.getD 40 undef = .pointer (some ⟨B, 0, none⟩) := hI.val 43 _ 40 rfl rfl (dep_at haf (by kernel_rfl))
      go_simp
      exact ⟨_, rfl, rfl, RegK.refl _ _ _, (hW.other (by decide) rfl)⟩
    | 45, _ =>
      obtain rfl := Option.some.inj (show some _ = some op from ho)
      have e1 : a.tmps.getD 41 undef = .pointer (some ⟨B, 0, none⟩) := hI.val 44 _ 41 rfl rfl (dep_at haf (by kernel_rfl))
      go_simp
      exact ⟨_, rfl, rfl, RegK.refl _ _ _, (hW.other (by decide) rfl)⟩
    | 46, _ =>
      obtain rfl := Option.some.inj (show some _ = some op from ho)
      have e1 : a.tmps.getD 42 undef = .pointer (some ⟨B, 11, none⟩) := hI.val 45 _ 42 rfl rfl (dep_at haf (by kernel_rfl))
      go_simp
      refine (pnumber_any B 11 1 1000 z).mono ?_
      rintro e z' ⟨rfl, rfl⟩
      exact ⟨_, rfl, nu_new B 11 1 1000 z hW.b.size, MkP.keep (.of_below (nu_below B 11 1 1000 z)), (((hW.cells _ _).cells _ _).cells _ _).other (by decide) rfl⟩
    | 47, _ =>
      obtain rfl := Option.some.inj (show some _ = some op from ho)
      have e2 := hI.val 46 _ 43 rfl rfl (dep_at haf (by kernel_rfl))
      obtain ⟨g, Z, e1, up, km, W'⟩ := hW.put (i := 47) (f := kAge) rfl xi (by omega) (dep_at haf (by kernel_rfl)) (hI.val 0 _ 7 rfl rfl (dep_at haf (by kernel_rfl))) (v := a.tmps.getD 43 undef) (.inr (.inr (.inr (.inr (.inr (.inr (.inl ⟨rfl, e2⟩)))))))
      replace up : (Instr.mapUpdate 67 (.map (some g)) (.string ⟨#[97, 103, 101]⟩) (a.tmps.getD 43 undef)).run Tryd.prog z = .ok () Z := up
      generalize hv : a.tmps.getD 43 undef = v at *
      go_simp
      first
        | exact ⟨MkP.keep km, W'⟩
        | exact MkP.keep km
    | 48, _ =>
      obtain rfl := Option.some.inj (show some _ = some op from ho)
      have e1 := hI.val 0 _ 7 rfl rfl (dep_at haf (by kernel_rfl))
      obtain ⟨g, e2, r⟩ := e1
      go_simp
      exact ⟨_, rfl, ⟨g, rfl, r⟩, RegK.refl _ _ _, (hW.other (by decide) rfl)⟩
    | 49, _ =>
      obtain rfl := Option.some.inj (show some _ = some op from ho)
      have e1 := hI.val 48 _ 44 rfl rfl (dep_at haf (by kernel_rfl))
      obtain ⟨g, e2, r⟩ := e1
      go_simp
      exact ⟨_, rfl, ⟨g, rfl, r⟩, RegK.refl _ _ _, (hW.other (by decide) rfl)⟩
  · intro x a z hx hall hI hW
    obtain ⟨G, ms, c, h1, h2⟩ := hW.mp (hall 0 (by decide))
    obtain ⟨g, e1, hg, es, c', he⟩ := hI.val 49 _ 2 rfl rfl (hall 49 (by decide))
    obtain rfl := h2 g es c' hg he
    have hA : Hid (∀ j f, insK j = some f → x.getD j false = true) := fun j f hj => hall j (by unfold insK at hj; split at hj <;> first | decide | cases hj)
    have hb : Hid (Below w.heap.size w z) := hW.b
    replace h1 : Hid (MkMap w.heap.size B x z g ms c) := h1
    have df := hI.dfr
    clear hI hW hall h2 he
    obtain ⟨T, ds⟩ := a
    simp only at df e1
    subst df
    go_wp2
    refine bodyPost_ret (results_tmp rfl _ _ _) rfl ?_
    exact ⟨g, ms, c, x, by rw [e1], h1.out, hA.out, hb.out⟩
  · refine ⟨(Below.refl _ _).drew, fun _ => ⟨fun j f hj => rep_getD _ _, fun g es c hg hc => ?_⟩, fun h => (by rw [rep_getD] at h; cases h)⟩
    have := (Array.getElem?_eq_some_iff.1 hc).1
    exact Nat.lt_irrefl _ (Nat.lt_of_lt_of_le this hg)
end Go.Proofs.YtagkgneijdbkoaaDoor
/-
  What the program's own take does with a line (layer 8). Conditions: a word is at most 5000 bytes; as it says.
-/
namespace Go.Proofs.YtagkgneijdbkoaaDoor
open Go.RowKit
set_option linter.unusedVariables false

/-- the map of what lines mean -/
structure MeanOk (N B M : Nat) (x : World) (G : Nat) (ms : Array MapEntry) (c : Nat) : Prop where
  at_ : x.heap[G]? = some (.map ms c)
  lo : G < N ∧ G ≠ B ∧ G ≠ M
  val : ∀ (i : Nat) (e : MapEntry), ms[i]? = some e → ∃ f, (f ∈ tenK ∨ f = kFie) ∧ e.key = .string (txt f) ∧ MnF x N B M f e.val
  has : ∀ f, (f ∈ tenK ∨ f = kFie) → ∃ (i : Nat) (e : MapEntry), ms[i]? = some e ∧ e.key = .string (txt f)
  born : (ms.toList.map (·.born)).Nodup
  lt : ∀ e ∈ ms.toList, e.born < c
theorem MeanOk.fr {N B M : Nat} {x y : World} {G : Nat} {ms : Array MapEntry} {c : Nat} {r : Option Nat} (h : MeanOk N B M x G ms c) (hf : Fr B M r x y) (hr : ∀ j, j < N → some j ≠ r) : MeanOk N B M y G ms c := by
  refine ⟨(hf.block G (Array.getElem?_eq_some_iff.1 h.at_).1 h.lo.2.1 h.lo.2.2 (hr G h.lo.1)).trans h.at_, h.lo, fun i e he => ?_, h.has, h.born, h.lt⟩
  obtain ⟨f, h1, h2, h3⟩ := h.val i e he
  exact ⟨f, h1, h2, h3.fr hf hr⟩
theorem MeanOk.look {N B M : Nat} {x : World} {G : Nat} {ms : Array MapEntry} {c : Nat} (h : MeanOk N B M x G ms c) (f : Wd) : (knownB f = false ∧ Instr.findNow .string (.string (txt f)) ms.toList 0 = some none) ∨ (knownB f = true ∧ ∃ i v, Instr.findNow .string (.string (txt f)) ms.toList 0 = some (some (i, v)) ∧ MnF x N B M f v) := by
  rcases find_arr f ms (fun i e he => by obtain ⟨g, _, h2, _⟩ := h.val i e he; exact ⟨g, h2⟩) with ⟨h1, h2⟩ | ⟨i, e, h1, h2, h3⟩
  · refine .inl ⟨?_, h1⟩
    unfold knownB
    rw [decide_eq_false_iff_not]
    intro hk
    obtain ⟨i, e, he, hke⟩ := h.has f hk
    exact h2 i e he hke
  · obtain ⟨g, hg1, hg2, hg3⟩ := h.val i e h1
    have e1 : g = f := by
      rw [h2] at hg2
      injection hg2 with hg2
      exact (txt_inj hg2).symm
    subst e1
    exact .inr ⟨by unfold knownB; exact decide_eq_true hg1, i, e.val, h3, hg3⟩
def errN (s : Except Nat Dv) : Nat := match s with | .ok _ => 0 | .error n => n
/-- what is asked of take -/
def TakeQ (N B M : Nat) (x : World) (d : Dv) (fv qv : Value) (seen : List Wd) (ws : List Wd) (e : Ending) (y : World) : Prop :=
  e = .returned (.int .i64 ((errN (stepM d seen ws) : Nat) : Int)) ∧ Fr B M fv.ownBlock x y ∧ ∀ d', stepM d seen ws = .ok d' → ∃ fv' qv', DsSt N B M y d' fv' qv' (seen ++ [ws.headD []]) ∧ (fv'.ownBlock = fv.ownBlock ∨ ∃ g, fv'.ownBlock = some g ∧ x.heap.size ≤ g)
theorem TakeQ.bad {N B M : Nat} {x : World} {d : Dv} {fv qv : Value} {seen : List Wd} {ws : List Wd} {y : World} {n : Nat} (h : stepM d seen ws = .error n) (hf : Fr B M fv.ownBlock x y) : TakeQ N B M x d fv qv seen ws (.returned (.int .i64 (n : Int))) y :=
  ⟨by rw [h]; rfl, hf, fun d' hd => by rw [h] at hd; cases hd⟩
theorem fie_txt : txt kFie = ⟨#[102, 105, 101, 108, 100]⟩ := rfl

/-- a word more is seen -/
theorem saw_run {N B M : Nat} (hB : B < N) (hM : M < N) (hBM : B ≠ M) {y : World} {d : Dv} {fv qv : Value} {seen : List Wd} (St : DsSt N B M y d fv qv seen) (f : Wd) :
    (Instr.lookup 64 (.map (some M)) (.string (txt f)) false).run Tryd.prog y = .ok (.int .i64 ((seen.count f : Nat) : Int)) y ∧ ∃ Y, (Instr.mapUpdate 64 (.map (some M)) (.string (txt f)) (.int .i64 (((seen.count f : Nat) : Int) + 1))).run Tryd.prog y = .ok () Y ∧ DsSt N B M Y d fv qv (seen ++ [f]) ∧ ∀ r, Fr B M r y Y := by
  obtain ⟨es, c, h1, h2⟩ := St.ln
  have fr : ∀ (o : Obj) r, Fr B M r y { y with heap := y.heap.setIfInBounds M o } := fun o r => ⟨rfl, rfl, rfl, by simp, fun k _ _ hM' _ => by simp [Array.getElem?_setIfInBounds_ne (Ne.symm hM')]⟩
  rcases h2.look f with ⟨h3, h4⟩ | ⟨i, e, h3, h4, h5⟩
  · refine ⟨?_, _, ins_none _ 9 3 Tryd.underlying64 Tryd.underlying9 es c (txt f) _ h3 y M h1, ?_, fr _⟩
    · rw [h4]; exact look_none _ 9 3 Tryd.underlying64 Tryd.underlying9 y M es c h1 (txt f) (.int .i64 0) (by kernel_rfl) h3
    · rw [h4]; exact St.saw hB hM hBM f (h2.push f h3 h4 c)
  · refine ⟨look_found _ 9 3 Tryd.underlying64 Tryd.underlying9 y M es c h1 (txt f) i _ h5, _, ins_found _ 9 3 Tryd.underlying64 Tryd.underlying9 es c (txt f) _ _ i e h3 h4 h5 y M h1, St.saw hB hM hBM f (h2.turn f h3 h4), fr _⟩
theorem step_nf {d : Dv} {seen : List Wd} {f : Wd} {a : List Wd} (hk : knownB f = true) (hne : ¬ f = kFie) (hs : ¬ f ∈ seen) : stepM d seen (f :: a) = match updM f a with | none => .error 6 | some u => .ok (u d) := by
  unfold stepM; simp only [hk]; rw [if_neg (by decide), if_neg (fun c => hs c.2), if_neg (fun c => hne c.1)]; cases updM f a <;> rfl
theorem step_f {d : Dv} {seen : List Wd} {a : List Wd} (h8 : ¬ d.fs.length = 8) : stepM d seen (kFie :: a) = match updM kFie a with | none => .error 6 | some u => .ok (u d) := by
  unfold stepM; simp only [show knownB kFie = true from rfl]; rw [if_neg (by decide), if_neg (fun c => c.1 rfl), if_neg (fun c => h8 c.2)]; cases updM kFie a <;> rfl
section
variable {N B M L0 : Nat} (hB : B < N) (hM : M < N) (hBM : B ≠ M) (hL : L0 ≤ B) (hLM : L0 ≤ M) {x : World} {d : Dv} {fv qv : Value} {seen : List Wd} (St : DsSt N B M x d fv qv seen) {G : Nat} {ms : Array MapEntry} {mc : Nat} (Mn : MeanOk N B M x G ms mc)
set_option maxRecDepth 100000 in
set_option maxHeartbeats 4000000 in
theorem take_empty (p : Option Addr) (c : Nat) : Calls Tryd.prog 20 #[.pointer (some ⟨B, 0, none⟩), .map (some G), .slice p 0 c] x (TakeQ N B M x d fv qv seen []) := by
  go_enter Tryd.func20, Tryd.ntmps20
  go_wp2
  go_ret
  exact TakeQ.bad rfl (Fr.refl _ _ _ _)
include Mn
set_option maxRecDepth 100000 in
set_option maxHeartbeats 4000000 in
theorem take_unknown (f : Wd) (a : List Wd) (hk : knownB f = false) (hf : Instr.findNow .string (.string (txt f)) ms.toList 0 = some none) (g o cap : Nat) (hc : x.cell? ⟨g, o, none⟩ = some (.string (txt f))) (hl : (a.length : Int) ≤ 5000) :
    Calls Tryd.prog 20 #[.pointer (some ⟨B, 0, none⟩), .map (some G), .slice (some ⟨g, o, none⟩) (a.length + 1) cap] x (TakeQ N B M x d fv qv seen (f :: a)) := by
  have lk : (Instr.lookup 67 (.map (some G)) (.string (txt f)) true).run Tryd.prog x = .ok (.tuple #[.nilFunc, .bool false]) x := lookup_no _ 9 85 Tryd.underlying67 Tryd.underlying9 x G ms mc Mn.at_ (txt f) .nilFunc (by kernel_rfl) hf
  have e6 : Hid (stepM d seen (f :: a) = .error 6) := by unfold Hid stepM; simp only [hk]; rfl
  have n0 : ((a.length : Int) + 1 == 0) = false := beq_eq_false_iff_ne.2 (by omega)
  clear Mn hf
  go_enter Tryd.func20, Tryd.ntmps20
  go_wp2
  go_ret
  exact TakeQ.bad e6.out (Fr.refl _ _ _ _)
include hB hM hBM St
set_option maxRecDepth 100000 in
set_option maxHeartbeats 4000000 in
theorem tk_nam_twice (f : Wd) (a : List Wd) (b1 : Nat) (hk : knownB f = true) {i : Nat} (hf : Instr.findNow .string (.string (txt f)) ms.toList 0 = some (some (i, .func (.func 46) #[] #[.pointer (some ⟨b1, 0, none⟩)]))) (hne : ¬ f = kFie) (hs : f ∈ seen) (hcn : (seen.count f : Int) ≤ 5000) (g o cap : Nat) (hc : x.cell? ⟨g, o, none⟩ = some (.string (txt f))) (hl : (a.length : Int) ≤ 5000) :
    Calls Tryd.prog 20 #[.pointer (some ⟨B, 0, none⟩), .map (some G), .slice (some ⟨g, o, none⟩) (a.length + 1) cap] x (TakeQ N B M x d fv qv seen (f :: a)) := by
  have lk : (Instr.lookup 67 (.map (some G)) (.string (txt f)) true).run Tryd.prog x = .ok (.tuple #[.func (.func 46) #[] #[.pointer (some ⟨b1, 0, none⟩)], .bool true]) x := lookup_str _ 9 85 Tryd.underlying67 Tryd.underlying9 x G ms mc Mn.at_ (txt f) i _ hf
  have lc := (saw_run hB hM hBM St f).1
  have c12 : x.cell? ⟨B, 12, none⟩ = some (.map (some M)) := (rd_cell St.rd 12).1.trans rfl
  have n0 : ((a.length : Int) + 1 == 0) = false := beq_eq_false_iff_ne.2 (by omega)
  have n1 : (txt f == ⟨#[102, 105, 101, 108, 100]⟩) = false := by rw [← fie_txt, txt_beq]; exact decide_eq_false hne
  have n2 : ((txt f).toList == [102, 105, 101, 108, 100]) = false := by
    rw [beq_eq_false_iff_ne]
    intro h
    apply hne
    rw [ByteArray.toList_eq] at h
    exact h
  have e8 : Hid (stepM d seen (f :: a) = .error 8) := by unfold Hid stepM; simp only [hk]; rw [if_neg (by decide), if_pos ⟨hne, hs⟩]
  have hpos : 0 < (seen.count f : Int) := by have := List.count_pos_iff.2 hs; omega
  clear Mn hf St hs hk hne
  generalize (seen.count f : Nat) = cnt at *
  go_enter Tryd.func20, Tryd.ntmps20
  go_wp2
  go_ret
  exact TakeQ.bad e8.out (Fr.refl _ _ _ _)
set_option maxRecDepth 100000 in
set_option maxHeartbeats 4000000 in
theorem tk_nam_one (f : Wd) (b1 : Nat) (hk : knownB f = true) {i : Nat} (hf : Instr.findNow .string (.string (txt f)) ms.toList 0 = some (some (i, .func (.func 46) #[] #[.pointer (some ⟨b1, 0, none⟩)]))) (hne : ¬ f = kFie) (hs : ¬ f ∈ seen) (g o : Nat) (hc : x.cell? ⟨g, o, none⟩ = some (.string (txt f))) (hcall : Calls Tryd.prog 46 #[.slice (some ⟨g, o, none⟩) 0 0, .pointer (some ⟨b1, 0, none⟩)] x (Mean N B M x d fv qv seen (updM f []))) :
    Calls Tryd.prog 20 #[.pointer (some ⟨B, 0, none⟩), .map (some G), .slice (some ⟨g, o, none⟩) 1 1] x (TakeQ N B M x d fv qv seen (f :: [])) := by
  have lk : (Instr.lookup 67 (.map (some G)) (.string (txt f)) true).run Tryd.prog x = .ok (.tuple #[.func (.func 46) #[] #[.pointer (some ⟨b1, 0, none⟩)], .bool true]) x := lookup_str _ 9 85 Tryd.underlying67 Tryd.underlying9 x G ms mc Mn.at_ (txt f) i _ hf
  have lc := (saw_run hB hM hBM St f).1
  have c12 : x.cell? ⟨B, 12, none⟩ = some (.map (some M)) := (rd_cell St.rd 12).1.trans rfl
  have n1 : (txt f == ⟨#[102, 105, 101, 108, 100]⟩) = false := by rw [← fie_txt, txt_beq]; exact decide_eq_false hne
  have n2 : ((txt f).toList == [102, 105, 101, 108, 100]) = false := by
    rw [beq_eq_false_iff_ne]
    intro h
    apply hne
    rw [ByteArray.toList_eq] at h
    exact h
  have hcnt : ¬ (0 < (seen.count f : Int)) := by have := List.count_eq_zero.2 hs; omega
  have wk : IntKind.i64.wrap ((seen.count f : Int) + 1) = (seen.count f : Int) + 1 := by have := List.count_eq_zero.2 hs; simp only [IntKind.wrap_i64]; omega
  have st := step_nf (d := d) (a := []) hk hne hs
  replace hcall : Hid (Calls Tryd.prog 46 #[.slice (some ⟨g, o, none⟩) 0 0, .pointer (some ⟨b1, 0, none⟩)] x (Mean N B M x d fv qv seen (updM f []))) := hcall
  have sr : Hid (∀ {y : World} {d' : Dv} {fv' qv' : Value}, DsSt N B M y d' fv' qv' seen → (Instr.lookup 64 (.map (some M)) (.string (txt f)) false).run Tryd.prog y = .ok (.int .i64 ((seen.count f : Nat) : Int)) y ∧ ∃ Y, (Instr.mapUpdate 64 (.map (some M)) (.string (txt f)) (.int .i64 (((seen.count f : Nat) : Int) + 1))).run Tryd.prog y = .ok () Y ∧ DsSt N B M Y d' fv' qv' (seen ++ [f]) ∧ ∀ r, Fr B M r y Y) := fun h => saw_run hB hM hBM h f
  generalize hU : updM f [] = U at *
  replace st : Hid _ := st
  clear Mn hf St hs hk hne hU
  generalize (seen.count f : Nat) = cnt at *
  go_enter Tryd.func20, Tryd.ntmps20
  go_wp2_with fail
  refine hcall.out.mono ?_
  rintro e y ⟨rfl, hfr, hst⟩
  clear hcall lk lc c12
  cases U with
  | none =>
    replace hfr : Hid (Fr B M fv.ownBlock x y) := hfr
    clear hst
    go_wp2
    go_ret
    exact TakeQ.bad st.out hfr.out
  | some u =>
    obtain ⟨fv', qv', s1, s2⟩ := hst u rfl
    obtain ⟨l1, Y, l2, l3, l4⟩ := sr.out s1
    have c12 : y.cell? ⟨B, 12, none⟩ = some (.map (some M)) := (rd_cell s1.rd 12).1.trans rfl
    have F : Hid (Fr B M fv.ownBlock x Y) := hfr.trans (l4 _)
    replace l3 : Hid (DsSt N B M Y (u d) fv' qv' (seen ++ [f])) := l3
    replace s2 : Hid (fv'.ownBlock = fv.ownBlock ∨ ∃ g, fv'.ownBlock = some g ∧ x.heap.size ≤ g) := s2
    clear hst s1 hfr sr l4
    go_wp2
    go_ret
    refine ⟨by rw [st.out]; rfl, F.out, fun d' hd => ?_⟩
    rw [st.out] at hd
    cases hd
    exact ⟨fv', qv', l3.out, s2.out⟩
set_option maxRecDepth 100000 in
set_option maxHeartbeats 4000000 in
theorem tk_nam_more (f : Wd) (a : List Wd) (b1 : Nat) (hk : knownB f = true) {i : Nat} (hf : Instr.findNow .string (.string (txt f)) ms.toList 0 = some (some (i, .func (.func 46) #[] #[.pointer (some ⟨b1, 0, none⟩)]))) (hne : ¬ f = kFie) (hs : ¬ f ∈ seen) (g o : Nat) (cap : Nat) (hcap : ¬ cap = 1) (hcap2 : (a.length : Int) + 1 ≤ (cap : Int)) (hc : x.cell? ⟨g, o, none⟩ = some (.string (txt f))) (hl : (a.length : Int) ≤ 5000) (hcall : Calls Tryd.prog 46 #[.slice (some ⟨g, o + 1, none⟩) a.length (cap - 1), .pointer (some ⟨b1, 0, none⟩)] x (Mean N B M x d fv qv seen (updM f a))) :
    Calls Tryd.prog 20 #[.pointer (some ⟨B, 0, none⟩), .map (some G), .slice (some ⟨g, o, none⟩) (a.length + 1) cap] x (TakeQ N B M x d fv qv seen (f :: a)) := by
  have lk : (Instr.lookup 67 (.map (some G)) (.string (txt f)) true).run Tryd.prog x = .ok (.tuple #[.func (.func 46) #[] #[.pointer (some ⟨b1, 0, none⟩)], .bool true]) x := lookup_str _ 9 85 Tryd.underlying67 Tryd.underlying9 x G ms mc Mn.at_ (txt f) i _ hf
  have lc := (saw_run hB hM hBM St f).1
  have c12 : x.cell? ⟨B, 12, none⟩ = some (.map (some M)) := (rd_cell St.rd 12).1.trans rfl
  have n0 : ((a.length : Int) + 1 == 0) = false := beq_eq_false_iff_ne.2 (by omega)
  have n1 : (txt f == ⟨#[102, 105, 101, 108, 100]⟩) = false := by rw [← fie_txt, txt_beq]; exact decide_eq_false hne
  have n2 : ((txt f).toList == [102, 105, 101, 108, 100]) = false := by
    rw [beq_eq_false_iff_ne]
    intro h
    apply hne
    rw [ByteArray.toList_eq] at h
    exact h
  have hcnt : ¬ (0 < (seen.count f : Int)) := by have := List.count_eq_zero.2 hs; omega
  have wk : IntKind.i64.wrap ((seen.count f : Int) + 1) = (seen.count f : Int) + 1 := by have := List.count_eq_zero.2 hs; simp only [IntKind.wrap_i64]; omega
  have st := step_nf (d := d) (a := a) hk hne hs
  replace hcall : Hid (Calls Tryd.prog 46 #[.slice (some ⟨g, o + 1, none⟩) a.length (cap - 1), .pointer (some ⟨b1, 0, none⟩)] x (Mean N B M x d fv qv seen (updM f a))) := hcall
  have sr : Hid (∀ {y : World} {d' : Dv} {fv' qv' : Value}, DsSt N B M y d' fv' qv' seen → (Instr.lookup 64 (.map (some M)) (.string (txt f)) false).run Tryd.prog y = .ok (.int .i64 ((seen.count f : Nat) : Int)) y ∧ ∃ Y, (Instr.mapUpdate 64 (.map (some M)) (.string (txt f)) (.int .i64 (((seen.count f : Nat) : Int) + 1))).run Tryd.prog y = .ok () Y ∧ DsSt N B M Y d' fv' qv' (seen ++ [f]) ∧ ∀ r, Fr B M r y Y) := fun h => saw_run hB hM hBM h f
  generalize hU : updM f a = U at *
  replace st : Hid _ := st
  clear Mn hf St hs hk hne hU
  generalize (seen.count f : Nat) = cnt at *
  go_enter Tryd.func20, Tryd.ntmps20
  go_wp2_with fail
  refine hcall.out.mono ?_
  rintro e y ⟨rfl, hfr, hst⟩
  clear hcall lk lc c12
  cases U with
  | none =>
    replace hfr : Hid (Fr B M fv.ownBlock x y) := hfr
    clear hst
    go_wp2
    go_ret
    exact TakeQ.bad st.out hfr.out
  | some u =>
    obtain ⟨fv', qv', s1, s2⟩ := hst u rfl
    obtain ⟨l1, Y, l2, l3, l4⟩ := sr.out s1
    have c12 : y.cell? ⟨B, 12, none⟩ = some (.map (some M)) := (rd_cell s1.rd 12).1.trans rfl
    have F : Hid (Fr B M fv.ownBlock x Y) := hfr.trans (l4 _)
    replace l3 : Hid (DsSt N B M Y (u d) fv' qv' (seen ++ [f])) := l3
    replace s2 : Hid (fv'.ownBlock = fv.ownBlock ∨ ∃ g, fv'.ownBlock = some g ∧ x.heap.size ≤ g) := s2
    clear hst s1 hfr sr l4
    go_wp2
    go_ret
    refine ⟨by rw [st.out]; rfl, F.out, fun d' hd => ?_⟩
    rw [st.out] at hd
    cases hd
    exact ⟨fv', qv', l3.out, s2.out⟩
set_option maxRecDepth 100000 in
set_option maxHeartbeats 4000000 in
theorem tk_num_twice (f : Wd) (a : List Wd) (b1 b2 b3 : Nat) (hk : knownB f = true) {i : Nat} (hf : Instr.findNow .string (.string (txt f)) ms.toList 0 = some (some (i, .func (.func 49) #[] #[.pointer (some ⟨b1, 0, none⟩), .pointer (some ⟨b2, 0, none⟩), .pointer (some ⟨b3, 0, none⟩)]))) (hne : ¬ f = kFie) (hs : f ∈ seen) (hcn : (seen.count f : Int) ≤ 5000) (g o cap : Nat) (hc : x.cell? ⟨g, o, none⟩ = some (.string (txt f))) (hl : (a.length : Int) ≤ 5000) :
    Calls Tryd.prog 20 #[.pointer (some ⟨B, 0, none⟩), .map (some G), .slice (some ⟨g, o, none⟩) (a.length + 1) cap] x (TakeQ N B M x d fv qv seen (f :: a)) := by
  have lk : (Instr.lookup 67 (.map (some G)) (.string (txt f)) true).run Tryd.prog x = .ok (.tuple #[.func (.func 49) #[] #[.pointer (some ⟨b1, 0, none⟩), .pointer (some ⟨b2, 0, none⟩), .pointer (some ⟨b3, 0, none⟩)], .bool true]) x := lookup_str _ 9 85 Tryd.underlying67 Tryd.underlying9 x G ms mc Mn.at_ (txt f) i _ hf
  have lc := (saw_run hB hM hBM St f).1
  have c12 : x.cell? ⟨B, 12, none⟩ = some (.map (some M)) := (rd_cell St.rd 12).1.trans rfl
  have n0 : ((a.length : Int) + 1 == 0) = false := beq_eq_false_iff_ne.2 (by omega)
  have n1 : (txt f == ⟨#[102, 105, 101, 108, 100]⟩) = false := by rw [← fie_txt, txt_beq]; exact decide_eq_false hne
  have n2 : ((txt f).toList == [102, 105, 101, 108, 100]) = false := by
    rw [beq_eq_false_iff_ne]
    intro h
    apply hne
    rw [ByteArray.toList_eq] at h
    exact h
  have e8 : Hid (stepM d seen (f :: a) = .error 8) := by unfold Hid stepM; simp only [hk]; rw [if_neg (by decide), if_pos ⟨hne, hs⟩]
  have hpos : 0 < (seen.count f : Int) := by have := List.count_pos_iff.2 hs; omega
  clear Mn hf St hs hk hne
  generalize (seen.count f : Nat) = cnt at *
  go_enter Tryd.func20, Tryd.ntmps20
  go_wp2
  go_ret
  exact TakeQ.bad e8.out (Fr.refl _ _ _ _)
set_option maxRecDepth 100000 in
set_option maxHeartbeats 4000000 in
theorem tk_num_one (f : Wd) (b1 b2 b3 : Nat) (hk : knownB f = true) {i : Nat} (hf : Instr.findNow .string (.string (txt f)) ms.toList 0 = some (some (i, .func (.func 49) #[] #[.pointer (some ⟨b1, 0, none⟩), .pointer (some ⟨b2, 0, none⟩), .pointer (some ⟨b3, 0, none⟩)]))) (hne : ¬ f = kFie) (hs : ¬ f ∈ seen) (g o : Nat) (hc : x.cell? ⟨g, o, none⟩ = some (.string (txt f))) (hcall : Calls Tryd.prog 49 #[.slice (some ⟨g, o, none⟩) 0 0, .pointer (some ⟨b1, 0, none⟩), .pointer (some ⟨b2, 0, none⟩), .pointer (some ⟨b3, 0, none⟩)] x (Mean N B M x d fv qv seen (updM f []))) :
    Calls Tryd.prog 20 #[.pointer (some ⟨B, 0, none⟩), .map (some G), .slice (some ⟨g, o, none⟩) 1 1] x (TakeQ N B M x d fv qv seen (f :: [])) := by
  have lk : (Instr.lookup 67 (.map (some G)) (.string (txt f)) true).run Tryd.prog x = .ok (.tuple #[.func (.func 49) #[] #[.pointer (some ⟨b1, 0, none⟩), .pointer (some ⟨b2, 0, none⟩), .pointer (some ⟨b3, 0, none⟩)], .bool true]) x := lookup_str _ 9 85 Tryd.underlying67 Tryd.underlying9 x G ms mc Mn.at_ (txt f) i _ hf
  have lc := (saw_run hB hM hBM St f).1
  have c12 : x.cell? ⟨B, 12, none⟩ = some (.map (some M)) := (rd_cell St.rd 12).1.trans rfl
  have n1 : (txt f == ⟨#[102, 105, 101, 108, 100]⟩) = false := by rw [← fie_txt, txt_beq]; exact decide_eq_false hne
  have n2 : ((txt f).toList == [102, 105, 101, 108, 100]) = false := by
    rw [beq_eq_false_iff_ne]
    intro h
    apply hne
    rw [ByteArray.toList_eq] at h
    exact h
  have hcnt : ¬ (0 < (seen.count f : Int)) := by have := List.count_eq_zero.2 hs; omega
  have wk : IntKind.i64.wrap ((seen.count f : Int) + 1) = (seen.count f : Int) + 1 := by have := List.count_eq_zero.2 hs; simp only [IntKind.wrap_i64]; omega
  have st := step_nf (d := d) (a := []) hk hne hs
  replace hcall : Hid (Calls Tryd.prog 49 #[.slice (some ⟨g, o, none⟩) 0 0, .pointer (some ⟨b1, 0, none⟩), .pointer (some ⟨b2, 0, none⟩), .pointer (some ⟨b3, 0, none⟩)] x (Mean N B M x d fv qv seen (updM f []))) := hcall
  have sr : Hid (∀ {y : World} {d' : Dv} {fv' qv' : Value}, DsSt N B M y d' fv' qv' seen → (Instr.lookup 64 (.map (some M)) (.string (txt f)) false).run Tryd.prog y = .ok (.int .i64 ((seen.count f : Nat) : Int)) y ∧ ∃ Y, (Instr.mapUpdate 64 (.map (some M)) (.string (txt f)) (.int .i64 (((seen.count f : Nat) : Int) + 1))).run Tryd.prog y = .ok () Y ∧ DsSt N B M Y d' fv' qv' (seen ++ [f]) ∧ ∀ r, Fr B M r y Y) := fun h => saw_run hB hM hBM h f
  generalize hU : updM f [] = U at *
  replace st : Hid _ := st
  clear Mn hf St hs hk hne hU
  generalize (seen.count f : Nat) = cnt at *
  go_enter Tryd.func20, Tryd.ntmps20
  go_wp2_with fail
  refine hcall.out.mono ?_
  rintro e y ⟨rfl, hfr, hst⟩
  clear hcall lk lc c12
  cases U with
  | none =>
    replace hfr : Hid (Fr B M fv.ownBlock x y) := hfr
    clear hst
    go_wp2
    go_ret
    exact TakeQ.bad st.out hfr.out
  | some u =>
    obtain ⟨fv', qv', s1, s2⟩ := hst u rfl
    obtain ⟨l1, Y, l2, l3, l4⟩ := sr.out s1
    have c12 : y.cell? ⟨B, 12, none⟩ = some (.map (some M)) := (rd_cell s1.rd 12).1.trans rfl
    have F : Hid (Fr B M fv.ownBlock x Y) := hfr.trans (l4 _)
    replace l3 : Hid (DsSt N B M Y (u d) fv' qv' (seen ++ [f])) := l3
    replace s2 : Hid (fv'.ownBlock = fv.ownBlock ∨ ∃ g, fv'.ownBlock = some g ∧ x.heap.size ≤ g) := s2
    clear hst s1 hfr sr l4
    go_wp2
    go_ret
    refine ⟨by rw [st.out]; rfl, F.out, fun d' hd => ?_⟩
    rw [st.out] at hd
    cases hd
    exact ⟨fv', qv', l3.out, s2.out⟩
set_option maxRecDepth 100000 in
set_option maxHeartbeats 4000000 in
theorem tk_num_more (f : Wd) (a : List Wd) (b1 b2 b3 : Nat) (hk : knownB f = true) {i : Nat} (hf : Instr.findNow .string (.string (txt f)) ms.toList 0 = some (some (i, .func (.func 49) #[] #[.pointer (some ⟨b1, 0, none⟩), .pointer (some ⟨b2, 0, none⟩), .pointer (some ⟨b3, 0, none⟩)]))) (hne : ¬ f = kFie) (hs : ¬ f ∈ seen) (g o : Nat) (cap : Nat) (hcap : ¬ cap = 1) (hcap2 : (a.length : Int) + 1 ≤ (cap : Int)) (hc : x.cell? ⟨g, o, none⟩ = some (.string (txt f))) (hl : (a.length : Int) ≤ 5000) (hcall : Calls Tryd.prog 49 #[.slice (some ⟨g, o + 1, none⟩) a.length (cap - 1), .pointer (some ⟨b1, 0, none⟩), .pointer (some ⟨b2, 0, none⟩), .pointer (some ⟨b3, 0, none⟩)] x (Mean N B M x d fv qv seen (updM f a))) :
    Calls Tryd.prog 20 #[.pointer (some ⟨B, 0, none⟩), .map (some G), .slice (some ⟨g, o, none⟩) (a.length + 1) cap] x (TakeQ N B M x d fv qv seen (f :: a)) := by
  have lk : (Instr.lookup 67 (.map (some G)) (.string (txt f)) true).run Tryd.prog x = .ok (.tuple #[.func (.func 49) #[] #[.pointer (some ⟨b1, 0, none⟩), .pointer (some ⟨b2, 0, none⟩), .pointer (some ⟨b3, 0, none⟩)], .bool true]) x := lookup_str _ 9 85 Tryd.underlying67 Tryd.underlying9 x G ms mc Mn.at_ (txt f) i _ hf
  have lc := (saw_run hB hM hBM St f).1
  have c12 : x.cell? ⟨B, 12, none⟩ = some (.map (some M)) := (rd_cell St.rd 12).1.trans rfl
  have n0 : ((a.length : Int) + 1 == 0) = false := beq_eq_false_iff_ne.2 (by omega)
  have n1 : (txt f == ⟨#[102, 105, 101, 108, 100]⟩) = false := by rw [← fie_txt, txt_beq]; exact decide_eq_false hne
  have n2 : ((txt f).toList == [102, 105, 101, 108, 100]) = false := by
    rw [beq_eq_false_iff_ne]
    intro h
    apply hne
    rw [ByteArray.toList_eq] at h
    exact h
  have hcnt : ¬ (0 < (seen.count f : Int)) := by have := List.count_eq_zero.2 hs; omega
  have wk : IntKind.i64.wrap ((seen.count f : Int) + 1) = (seen.count f : Int) + 1 := by have := List.count_eq_zero.2 hs; simp only [IntKind.wrap_i64]; omega
  have st := step_nf (d := d) (a := a) hk hne hs
  replace hcall : Hid (Calls Tryd.prog 49 #[.slice (some ⟨g, o + 1, none⟩) a.length (cap - 1), .pointer (some ⟨b1, 0, none⟩), .pointer (some ⟨b2, 0, none⟩), .pointer (some ⟨b3, 0, none⟩)] x (Mean N B M x d fv qv seen (updM f a))) := hcall
  have sr : Hid (∀ {y : World} {d' : Dv} {fv' qv' : Value}, DsSt N B M y d' fv' qv' seen → (Instr.lookup 64 (.map (some M)) (.string (txt f)) false).run Tryd.prog y = .ok (.int .i64 ((seen.count f : Nat) : Int)) y ∧ ∃ Y, (Instr.mapUpdate 64 (.map (some M)) (.string (txt f)) (.int .i64 (((seen.count f : Nat) : Int) + 1))).run Tryd.prog y = .ok () Y ∧ DsSt N B M Y d' fv' qv' (seen ++ [f]) ∧ ∀ r, Fr B M r y Y) := fun h => saw_run hB hM hBM h f
  generalize hU : updM f a = U at *
  replace st : Hid _ := st
  clear Mn hf St hs hk hne hU
  generalize (seen.count f : Nat) = cnt at *
  go_enter Tryd.func20, Tryd.ntmps20
  go_wp2_with fail
  refine hcall.out.mono ?_
  rintro e y ⟨rfl, hfr, hst⟩
  clear hcall lk lc c12
  cases U with
  | none =>
    replace hfr : Hid (Fr B M fv.ownBlock x y) := hfr
    clear hst
    go_wp2
    go_ret
    exact TakeQ.bad st.out hfr.out
  | some u =>
    obtain ⟨fv', qv', s1, s2⟩ := hst u rfl
    obtain ⟨l1, Y, l2, l3, l4⟩ := sr.out s1
    have c12 : y.cell? ⟨B, 12, none⟩ = some (.map (some M)) := (rd_cell s1.rd 12).1.trans rfl
    have F : Hid (Fr B M fv.ownBlock x Y) := hfr.trans (l4 _)
    replace l3 : Hid (DsSt N B M Y (u d) fv' qv' (seen ++ [f])) := l3
    replace s2 : Hid (fv'.ownBlock = fv.ownBlock ∨ ∃ g, fv'.ownBlock = some g ∧ x.heap.size ≤ g) := s2
    clear hst s1 hfr sr l4
    go_wp2
    go_ret
    refine ⟨by rw [st.out]; rfl, F.out, fun d' hd => ?_⟩
    rw [st.out] at hd
    cases hd
    exact ⟨fv', qv', l3.out, s2.out⟩
set_option maxRecDepth 100000 in
set_option maxHeartbeats 4000000 in
theorem tk_sta_twice (f : Wd) (a : List Wd)  (hk : knownB f = true) {i : Nat} (hf : Instr.findNow .string (.string (txt f)) ms.toList 0 = some (some (i, .func (.func 33) #[.pointer (some ⟨B, 0, none⟩)] #[]))) (hne : ¬ f = kFie) (hs : f ∈ seen) (hcn : (seen.count f : Int) ≤ 5000) (g o cap : Nat) (hc : x.cell? ⟨g, o, none⟩ = some (.string (txt f))) (hl : (a.length : Int) ≤ 5000) :
    Calls Tryd.prog 20 #[.pointer (some ⟨B, 0, none⟩), .map (some G), .slice (some ⟨g, o, none⟩) (a.length + 1) cap] x (TakeQ N B M x d fv qv seen (f :: a)) := by
  have lk : (Instr.lookup 67 (.map (some G)) (.string (txt f)) true).run Tryd.prog x = .ok (.tuple #[.func (.func 33) #[.pointer (some ⟨B, 0, none⟩)] #[], .bool true]) x := lookup_str _ 9 85 Tryd.underlying67 Tryd.underlying9 x G ms mc Mn.at_ (txt f) i _ hf
  have lc := (saw_run hB hM hBM St f).1
  have c12 : x.cell? ⟨B, 12, none⟩ = some (.map (some M)) := (rd_cell St.rd 12).1.trans rfl
  have n0 : ((a.length : Int) + 1 == 0) = false := beq_eq_false_iff_ne.2 (by omega)
  have n1 : (txt f == ⟨#[102, 105, 101, 108, 100]⟩) = false := by rw [← fie_txt, txt_beq]; exact decide_eq_false hne
  have n2 : ((txt f).toList == [102, 105, 101, 108, 100]) = false := by
    rw [beq_eq_false_iff_ne]
    intro h
    apply hne
    rw [ByteArray.toList_eq] at h
    exact h
  have e8 : Hid (stepM d seen (f :: a) = .error 8) := by unfold Hid stepM; simp only [hk]; rw [if_neg (by decide), if_pos ⟨hne, hs⟩]
  have hpos : 0 < (seen.count f : Int) := by have := List.count_pos_iff.2 hs; omega
  clear Mn hf St hs hk hne
  generalize (seen.count f : Nat) = cnt at *
  go_enter Tryd.func20, Tryd.ntmps20
  go_wp2
  go_ret
  exact TakeQ.bad e8.out (Fr.refl _ _ _ _)
set_option maxRecDepth 100000 in
set_option maxHeartbeats 4000000 in
theorem tk_sta_one (f : Wd)  (hk : knownB f = true) {i : Nat} (hf : Instr.findNow .string (.string (txt f)) ms.toList 0 = some (some (i, .func (.func 33) #[.pointer (some ⟨B, 0, none⟩)] #[]))) (hne : ¬ f = kFie) (hs : ¬ f ∈ seen) (g o : Nat) (hc : x.cell? ⟨g, o, none⟩ = some (.string (txt f))) (hcall : Calls Tryd.prog 33 #[.pointer (some ⟨B, 0, none⟩), .slice (some ⟨g, o, none⟩) 0 0] x (Mean N B M x d fv qv seen (updM f []))) :
    Calls Tryd.prog 20 #[.pointer (some ⟨B, 0, none⟩), .map (some G), .slice (some ⟨g, o, none⟩) 1 1] x (TakeQ N B M x d fv qv seen (f :: [])) := by
  have lk : (Instr.lookup 67 (.map (some G)) (.string (txt f)) true).run Tryd.prog x = .ok (.tuple #[.func (.func 33) #[.pointer (some ⟨B, 0, none⟩)] #[], .bool true]) x := lookup_str _ 9 85 Tryd.underlying67 Tryd.underlying9 x G ms mc Mn.at_ (txt f) i _ hf
  have lc := (saw_run hB hM hBM St f).1
  have c12 : x.cell? ⟨B, 12, none⟩ = some (.map (some M)) := (rd_cell St.rd 12).1.trans rfl
  have n1 : (txt f == ⟨#[102, 105, 101, 108, 100]⟩) = false := by rw [← fie_txt, txt_beq]; exact decide_eq_false hne
  have n2 : ((txt f).toList == [102, 105, 101, 108, 100]) = false := by
    rw [beq_eq_false_iff_ne]
    intro h
    apply hne
    rw [ByteArray.toList_eq] at h
    exact h
  have hcnt : ¬ (0 < (seen.count f : Int)) := by have := List.count_eq_zero.2 hs; omega
  have wk : IntKind.i64.wrap ((seen.count f : Int) + 1) = (seen.count f : Int) + 1 := by have := List.count_eq_zero.2 hs; simp only [IntKind.wrap_i64]; omega
  have st := step_nf (d := d) (a := []) hk hne hs
  replace hcall : Hid (Calls Tryd.prog 33 #[.pointer (some ⟨B, 0, none⟩), .slice (some ⟨g, o, none⟩) 0 0] x (Mean N B M x d fv qv seen (updM f []))) := hcall
  have sr : Hid (∀ {y : World} {d' : Dv} {fv' qv' : Value}, DsSt N B M y d' fv' qv' seen → (Instr.lookup 64 (.map (some M)) (.string (txt f)) false).run Tryd.prog y = .ok (.int .i64 ((seen.count f : Nat) : Int)) y ∧ ∃ Y, (Instr.mapUpdate 64 (.map (some M)) (.string (txt f)) (.int .i64 (((seen.count f : Nat) : Int) + 1))).run Tryd.prog y = .ok () Y ∧ DsSt N B M Y d' fv' qv' (seen ++ [f]) ∧ ∀ r, Fr B M r y Y) := fun h => saw_run hB hM hBM h f
  generalize hU : updM f [] = U at *
  replace st : Hid _ := st
  clear Mn hf St hs hk hne hU
  generalize (seen.count f : Nat) = cnt at *
  go_enter Tryd.func20, Tryd.ntmps20
  go_wp2_with fail
  refine hcall.out.mono ?_
  rintro e y ⟨rfl, hfr, hst⟩
  clear hcall lk lc c12
  cases U with
  | none =>
    replace hfr : Hid (Fr B M fv.ownBlock x y) := hfr
    clear hst
    go_wp2
    go_ret
    exact TakeQ.bad st.out hfr.out
  | some u =>
    obtain ⟨fv', qv', s1, s2⟩ := hst u rfl
    obtain ⟨l1, Y, l2, l3, l4⟩ := sr.out s1
    have c12 : y.cell? ⟨B, 12, none⟩ = some (.map (some M)) := (rd_cell s1.rd 12).1.trans rfl
    have F : Hid (Fr B M fv.ownBlock x Y) := hfr.trans (l4 _)
    replace l3 : Hid (DsSt N B M Y (u d) fv' qv' (seen ++ [f])) := l3
    replace s2 : Hid (fv'.ownBlock = fv.ownBlock ∨ ∃ g, fv'.ownBlock = some g ∧ x.heap.size ≤ g) := s2
    clear hst s1 hfr sr l4
    go_wp2
    go_ret
    refine ⟨by rw [st.out]; rfl, F.out, fun d' hd => ?_⟩
    rw [st.out] at hd
    cases hd
    exact ⟨fv', qv', l3.out, s2.out⟩
set_option maxRecDepth 100000 in
set_option maxHeartbeats 4000000 in
theorem tk_sta_more (f : Wd) (a : List Wd)  (hk : knownB f = true) {i : Nat} (hf : Instr.findNow .string (.string (txt f)) ms.toList 0 = some (some (i, .func (.func 33) #[.pointer (some ⟨B, 0, none⟩)] #[]))) (hne : ¬ f = kFie) (hs : ¬ f ∈ seen) (g o : Nat) (cap : Nat) (hcap : ¬ cap = 1) (hcap2 : (a.length : Int) + 1 ≤ (cap : Int)) (hc : x.cell? ⟨g, o, none⟩ = some (.string (txt f))) (hl : (a.length : Int) ≤ 5000) (hcall : Calls Tryd.prog 33 #[.pointer (some ⟨B, 0, none⟩), .slice (some ⟨g, o + 1, none⟩) a.length (cap - 1)] x (Mean N B M x d fv qv seen (updM f a))) :
    Calls Tryd.prog 20 #[.pointer (some ⟨B, 0, none⟩), .map (some G), .slice (some ⟨g, o, none⟩) (a.length + 1) cap] x (TakeQ N B M x d fv qv seen (f :: a)) := by
  have lk : (Instr.lookup 67 (.map (some G)) (.string (txt f)) true).run Tryd.prog x = .ok (.tuple #[.func (.func 33) #[.pointer (some ⟨B, 0, none⟩)] #[], .bool true]) x := lookup_str _ 9 85 Tryd.underlying67 Tryd.underlying9 x G ms mc Mn.at_ (txt f) i _ hf
  have lc := (saw_run hB hM hBM St f).1
  have c12 : x.cell? ⟨B, 12, none⟩ = some (.map (some M)) := (rd_cell St.rd 12).1.trans rfl
  have n0 : ((a.length : Int) + 1 == 0) = false := beq_eq_false_iff_ne.2 (by omega)
  have n1 : (txt f == ⟨#[102, 105, 101, 108, 100]⟩) = false := by rw [← fie_txt, txt_beq]; exact decide_eq_false hne
  have n2 : ((txt f).toList == [102, 105, 101, 108, 100]) = false := by
    rw [beq_eq_false_iff_ne]
    intro h
    apply hne
    rw [ByteArray.toList_eq] at h
    exact h
  have hcnt : ¬ (0 < (seen.count f : Int)) := by have := List.count_eq_zero.2 hs; omega
  have wk : IntKind.i64.wrap ((seen.count f : Int) + 1) = (seen.count f : Int) + 1 := by have := List.count_eq_zero.2 hs; simp only [IntKind.wrap_i64]; omega
  have st := step_nf (d := d) (a := a) hk hne hs
  replace hcall : Hid (Calls Tryd.prog 33 #[.pointer (some ⟨B, 0, none⟩), .slice (some ⟨g, o + 1, none⟩) a.length (cap - 1)] x (Mean N B M x d fv qv seen (updM f a))) := hcall
  have sr : Hid (∀ {y : World} {d' : Dv} {fv' qv' : Value}, DsSt N B M y d' fv' qv' seen → (Instr.lookup 64 (.map (some M)) (.string (txt f)) false).run Tryd.prog y = .ok (.int .i64 ((seen.count f : Nat) : Int)) y ∧ ∃ Y, (Instr.mapUpdate 64 (.map (some M)) (.string (txt f)) (.int .i64 (((seen.count f : Nat) : Int) + 1))).run Tryd.prog y = .ok () Y ∧ DsSt N B M Y d' fv' qv' (seen ++ [f]) ∧ ∀ r, Fr B M r y Y) := fun h => saw_run hB hM hBM h f
  generalize hU : updM f a = U at *
  replace st : Hid _ := st
  clear Mn hf St hs hk hne hU
  generalize (seen.count f : Nat) = cnt at *
  go_enter Tryd.func20, Tryd.ntmps20
  go_wp2_with fail
  refine hcall.out.mono ?_
  rintro e y ⟨rfl, hfr, hst⟩
  clear hcall lk lc c12
  cases U with
  | none =>
    replace hfr : Hid (Fr B M fv.ownBlock x y) := hfr
    clear hst
    go_wp2
    go_ret
    exact TakeQ.bad st.out hfr.out
  | some u =>
    obtain ⟨fv', qv', s1, s2⟩ := hst u rfl
    obtain ⟨l1, Y, l2, l3, l4⟩ := sr.out s1
    have c12 : y.cell? ⟨B, 12, none⟩ = some (.map (some M)) := (rd_cell s1.rd 12).1.trans rfl
    have F : Hid (Fr B M fv.ownBlock x Y) := hfr.trans (l4 _)
    replace l3 : Hid (DsSt N B M Y (u d) fv' qv' (seen ++ [f])) := l3
    replace s2 : Hid (fv'.ownBlock = fv.ownBlock ∨ ∃ g, fv'.ownBlock = some g ∧ x.heap.size ≤ g) := s2
    clear hst s1 hfr sr l4
    go_wp2
    go_ret
    refine ⟨by rw [st.out]; rfl, F.out, fun d' hd => ?_⟩
    rw [st.out] at hd
    cases hd
    exact ⟨fv', qv', l3.out, s2.out⟩
set_option maxRecDepth 100000 in
set_option maxHeartbeats 4000000 in
theorem tk_esc_twice (f : Wd) (a : List Wd)  (hk : knownB f = true) {i : Nat} (hf : Instr.findNow .string (.string (txt f)) ms.toList 0 = some (some (i, .func (.func 34) #[.pointer (some ⟨B, 0, none⟩)] #[]))) (hne : ¬ f = kFie) (hs : f ∈ seen) (hcn : (seen.count f : Int) ≤ 5000) (g o cap : Nat) (hc : x.cell? ⟨g, o, none⟩ = some (.string (txt f))) (hl : (a.length : Int) ≤ 5000) :
    Calls Tryd.prog 20 #[.pointer (some ⟨B, 0, none⟩), .map (some G), .slice (some ⟨g, o, none⟩) (a.length + 1) cap] x (TakeQ N B M x d fv qv seen (f :: a)) := by
  have lk : (Instr.lookup 67 (.map (some G)) (.string (txt f)) true).run Tryd.prog x = .ok (.tuple #[.func (.func 34) #[.pointer (some ⟨B, 0, none⟩)] #[], .bool true]) x := lookup_str _ 9 85 Tryd.underlying67 Tryd.underlying9 x G ms mc Mn.at_ (txt f) i _ hf
  have lc := (saw_run hB hM hBM St f).1
  have c12 : x.cell? ⟨B, 12, none⟩ = some (.map (some M)) := (rd_cell St.rd 12).1.trans rfl
  have n0 : ((a.length : Int) + 1 == 0) = false := beq_eq_false_iff_ne.2 (by omega)
  have n1 : (txt f == ⟨#[102, 105, 101, 108, 100]⟩) = false := by rw [← fie_txt, txt_beq]; exact decide_eq_false hne
  have n2 : ((txt f).toList == [102, 105, 101, 108, 100]) = false := by
    rw [beq_eq_false_iff_ne]
    intro h
    apply hne
    rw [ByteArray.toList_eq] at h
    exact h
  have e8 : Hid (stepM d seen (f :: a) = .error 8) := by unfold Hid stepM; simp only [hk]; rw [if_neg (by decide), if_pos ⟨hne, hs⟩]
  have hpos : 0 < (seen.count f : Int) := by have := List.count_pos_iff.2 hs; omega
  clear Mn hf St hs hk hne
  generalize (seen.count f : Nat) = cnt at *
  go_enter Tryd.func20, Tryd.ntmps20
  go_wp2
  go_ret
  exact TakeQ.bad e8.out (Fr.refl _ _ _ _)
set_option maxRecDepth 100000 in
set_option maxHeartbeats 4000000 in
theorem tk_esc_one (f : Wd)  (hk : knownB f = true) {i : Nat} (hf : Instr.findNow .string (.string (txt f)) ms.toList 0 = some (some (i, .func (.func 34) #[.pointer (some ⟨B, 0, none⟩)] #[]))) (hne : ¬ f = kFie) (hs : ¬ f ∈ seen) (g o : Nat) (hc : x.cell? ⟨g, o, none⟩ = some (.string (txt f))) (hcall : Calls Tryd.prog 34 #[.pointer (some ⟨B, 0, none⟩), .slice (some ⟨g, o, none⟩) 0 0] x (Mean N B M x d fv qv seen (updM f []))) :
    Calls Tryd.prog 20 #[.pointer (some ⟨B, 0, none⟩), .map (some G), .slice (some ⟨g, o, none⟩) 1 1] x (TakeQ N B M x d fv qv seen (f :: [])) := by
  have lk : (Instr.lookup 67 (.map (some G)) (.string (txt f)) true).run Tryd.prog x = .ok (.tuple #[.func (.func 34) #[.pointer (some ⟨B, 0, none⟩)] #[], .bool true]) x := lookup_str _ 9 85 Tryd.underlying67 Tryd.underlying9 x G ms mc Mn.at_ (txt f) i _ hf
  have lc := (saw_run hB hM hBM St f).1
  have c12 : x.cell? ⟨B, 12, none⟩ = some (.map (some M)) := (rd_cell St.rd 12).1.trans rfl
  have n1 : (txt f == ⟨#[102, 105, 101, 108, 100]⟩) = false := by rw [← fie_txt, txt_beq]; exact decide_eq_false hne
  have n2 : ((txt f).toList == [102, 105, 101, 108, 100]) = false := by
    rw [beq_eq_false_iff_ne]
    intro h
    apply hne
    rw [ByteArray.toList_eq] at h
    exact h
  have hcnt : ¬ (0 < (seen.count f : Int)) := by have := List.count_eq_zero.2 hs; omega
  have wk : IntKind.i64.wrap ((seen.count f : Int) + 1) = (seen.count f : Int) + 1 := by have := List.count_eq_zero.2 hs; simp only [IntKind.wrap_i64]; omega
  have st := step_nf (d := d) (a := []) hk hne hs
  replace hcall : Hid (Calls Tryd.prog 34 #[.pointer (some ⟨B, 0, none⟩), .slice (some ⟨g, o, none⟩) 0 0] x (Mean N B M x d fv qv seen (updM f []))) := hcall
  have sr : Hid (∀ {y : World} {d' : Dv} {fv' qv' : Value}, DsSt N B M y d' fv' qv' seen → (Instr.lookup 64 (.map (some M)) (.string (txt f)) false).run Tryd.prog y = .ok (.int .i64 ((seen.count f : Nat) : Int)) y ∧ ∃ Y, (Instr.mapUpdate 64 (.map (some M)) (.string (txt f)) (.int .i64 (((seen.count f : Nat) : Int) + 1))).run Tryd.prog y = .ok () Y ∧ DsSt N B M Y d' fv' qv' (seen ++ [f]) ∧ ∀ r, Fr B M r y Y) := fun h => saw_run hB hM hBM h f
  generalize hU : updM f [] = U at *
  replace st : Hid _ := st
  clear Mn hf St hs hk hne hU
  generalize (seen.count f : Nat) = cnt at *
  go_enter Tryd.func20, Tryd.ntmps20
  go_wp2_with fail
  refine hcall.out.mono ?_
  rintro e y ⟨rfl, hfr, hst⟩
  clear hcall lk lc c12
  cases U with
  | none =>
    replace hfr : Hid (Fr B M fv.ownBlock x y) := hfr
    clear hst
    go_wp2
    go_ret
    exact TakeQ.bad st.out hfr.out
  | some u =>
    obtain ⟨fv', qv', s1, s2⟩ := hst u rfl
    obtain ⟨l1, Y, l2, l3, l4⟩ := sr.out s1
    have c12 : y.cell? ⟨B, 12, none⟩ = some (.map (some M)) := (rd_cell s1.rd 12).1.trans rfl
    have F : Hid (Fr B M fv.ownBlock x Y) := hfr.trans (l4 _)
    replace l3 : Hid (DsSt N B M Y (u d) fv' qv' (seen ++ [f])) := l3
    replace s2 : Hid (fv'.ownBlock = fv.ownBlock ∨ ∃ g, fv'.ownBlock = some g ∧ x.heap.size ≤ g) := s2
    clear hst s1 hfr sr l4
    go_wp2
    go_ret
    refine ⟨by rw [st.out]; rfl, F.out, fun d' hd => ?_⟩
    rw [st.out] at hd
    cases hd
    exact ⟨fv', qv', l3.out, s2.out⟩
set_option maxRecDepth 100000 in
set_option maxHeartbeats 4000000 in
theorem tk_esc_more (f : Wd) (a : List Wd)  (hk : knownB f = true) {i : Nat} (hf : Instr.findNow .string (.string (txt f)) ms.toList 0 = some (some (i, .func (.func 34) #[.pointer (some ⟨B, 0, none⟩)] #[]))) (hne : ¬ f = kFie) (hs : ¬ f ∈ seen) (g o : Nat) (cap : Nat) (hcap : ¬ cap = 1) (hcap2 : (a.length : Int) + 1 ≤ (cap : Int)) (hc : x.cell? ⟨g, o, none⟩ = some (.string (txt f))) (hl : (a.length : Int) ≤ 5000) (hcall : Calls Tryd.prog 34 #[.pointer (some ⟨B, 0, none⟩), .slice (some ⟨g, o + 1, none⟩) a.length (cap - 1)] x (Mean N B M x d fv qv seen (updM f a))) :
    Calls Tryd.prog 20 #[.pointer (some ⟨B, 0, none⟩), .map (some G), .slice (some ⟨g, o, none⟩) (a.length + 1) cap] x (TakeQ N B M x d fv qv seen (f :: a)) := by
  have lk : (Instr.lookup 67 (.map (some G)) (.string (txt f)) true).run Tryd.prog x = .ok (.tuple #[.func (.func 34) #[.pointer (some ⟨B, 0, none⟩)] #[], .bool true]) x := lookup_str _ 9 85 Tryd.underlying67 Tryd.underlying9 x G ms mc Mn.at_ (txt f) i _ hf
  have lc := (saw_run hB hM hBM St f).1
  have c12 : x.cell? ⟨B, 12, none⟩ = some (.map (some M)) := (rd_cell St.rd 12).1.trans rfl
  have n0 : ((a.length : Int) + 1 == 0) = false := beq_eq_false_iff_ne.2 (by omega)
  have n1 : (txt f == ⟨#[102, 105, 101, 108, 100]⟩) = false := by rw [← fie_txt, txt_beq]; exact decide_eq_false hne
  have n2 : ((txt f).toList == [102, 105, 101, 108, 100]) = false := by
    rw [beq_eq_false_iff_ne]
    intro h
    apply hne
    rw [ByteArray.toList_eq] at h
    exact h
  have hcnt : ¬ (0 < (seen.count f : Int)) := by have := List.count_eq_zero.2 hs; omega
  have wk : IntKind.i64.wrap ((seen.count f : Int) + 1) = (seen.count f : Int) + 1 := by have := List.count_eq_zero.2 hs; simp only [IntKind.wrap_i64]; omega
  have st := step_nf (d := d) (a := a) hk hne hs
  replace hcall : Hid (Calls Tryd.prog 34 #[.pointer (some ⟨B, 0, none⟩), .slice (some ⟨g, o + 1, none⟩) a.length (cap - 1)] x (Mean N B M x d fv qv seen (updM f a))) := hcall
  have sr : Hid (∀ {y : World} {d' : Dv} {fv' qv' : Value}, DsSt N B M y d' fv' qv' seen → (Instr.lookup 64 (.map (some M)) (.string (txt f)) false).run Tryd.prog y = .ok (.int .i64 ((seen.count f : Nat) : Int)) y ∧ ∃ Y, (Instr.mapUpdate 64 (.map (some M)) (.string (txt f)) (.int .i64 (((seen.count f : Nat) : Int) + 1))).run Tryd.prog y = .ok () Y ∧ DsSt N B M Y d' fv' qv' (seen ++ [f]) ∧ ∀ r, Fr B M r y Y) := fun h => saw_run hB hM hBM h f
  generalize hU : updM f a = U at *
  replace st : Hid _ := st
  clear Mn hf St hs hk hne hU
  generalize (seen.count f : Nat) = cnt at *
  go_enter Tryd.func20, Tryd.ntmps20
  go_wp2_with fail
  refine hcall.out.mono ?_
  rintro e y ⟨rfl, hfr, hst⟩
  clear hcall lk lc c12
  cases U with
  | none =>
    replace hfr : Hid (Fr B M fv.ownBlock x y) := hfr
    clear hst
    go_wp2
    go_ret
    exact TakeQ.bad st.out hfr.out
  | some u =>
    obtain ⟨fv', qv', s1, s2⟩ := hst u rfl
    obtain ⟨l1, Y, l2, l3, l4⟩ := sr.out s1
    have c12 : y.cell? ⟨B, 12, none⟩ = some (.map (some M)) := (rd_cell s1.rd 12).1.trans rfl
    have F : Hid (Fr B M fv.ownBlock x Y) := hfr.trans (l4 _)
    replace l3 : Hid (DsSt N B M Y (u d) fv' qv' (seen ++ [f])) := l3
    replace s2 : Hid (fv'.ownBlock = fv.ownBlock ∨ ∃ g, fv'.ownBlock = some g ∧ x.heap.size ≤ g) := s2
    clear hst s1 hfr sr l4
    go_wp2
    go_ret
    refine ⟨by rw [st.out]; rfl, F.out, fun d' hd => ?_⟩
    rw [st.out] at hd
    cases hd
    exact ⟨fv', qv', l3.out, s2.out⟩
set_option maxRecDepth 100000 in
set_option maxHeartbeats 4000000 in
theorem tk_req_twice (f : Wd) (a : List Wd)  (hk : knownB f = true) {i : Nat} (hf : Instr.findNow .string (.string (txt f)) ms.toList 0 = some (some (i, .func (.func 37) #[.pointer (some ⟨B, 0, none⟩)] #[]))) (hne : ¬ f = kFie) (hs : f ∈ seen) (hcn : (seen.count f : Int) ≤ 5000) (g o cap : Nat) (hc : x.cell? ⟨g, o, none⟩ = some (.string (txt f))) (hl : (a.length : Int) ≤ 5000) :
    Calls Tryd.prog 20 #[.pointer (some ⟨B, 0, none⟩), .map (some G), .slice (some ⟨g, o, none⟩) (a.length + 1) cap] x (TakeQ N B M x d fv qv seen (f :: a)) := by
  have lk : (Instr.lookup 67 (.map (some G)) (.string (txt f)) true).run Tryd.prog x = .ok (.tuple #[.func (.func 37) #[.pointer (some ⟨B, 0, none⟩)] #[], .bool true]) x := lookup_str _ 9 85 Tryd.underlying67 Tryd.underlying9 x G ms mc Mn.at_ (txt f) i _ hf
  have lc := (saw_run hB hM hBM St f).1
  have c12 : x.cell? ⟨B, 12, none⟩ = some (.map (some M)) := (rd_cell St.rd 12).1.trans rfl
  have n0 : ((a.length : Int) + 1 == 0) = false := beq_eq_false_iff_ne.2 (by omega)
  have n1 : (txt f == ⟨#[102, 105, 101, 108, 100]⟩) = false := by rw [← fie_txt, txt_beq]; exact decide_eq_false hne
  have n2 : ((txt f).toList == [102, 105, 101, 108, 100]) = false := by
    rw [beq_eq_false_iff_ne]
    intro h
    apply hne
    rw [ByteArray.toList_eq] at h
    exact h
  have e8 : Hid (stepM d seen (f :: a) = .error 8) := by unfold Hid stepM; simp only [hk]; rw [if_neg (by decide), if_pos ⟨hne, hs⟩]
  have hpos : 0 < (seen.count f : Int) := by have := List.count_pos_iff.2 hs; omega
  clear Mn hf St hs hk hne
  generalize (seen.count f : Nat) = cnt at *
  go_enter Tryd.func20, Tryd.ntmps20
  go_wp2
  go_ret
  exact TakeQ.bad e8.out (Fr.refl _ _ _ _)
set_option maxRecDepth 100000 in
set_option maxHeartbeats 4000000 in
theorem tk_req_one (f : Wd)  (hk : knownB f = true) {i : Nat} (hf : Instr.findNow .string (.string (txt f)) ms.toList 0 = some (some (i, .func (.func 37) #[.pointer (some ⟨B, 0, none⟩)] #[]))) (hne : ¬ f = kFie) (hs : ¬ f ∈ seen) (g o : Nat) (hc : x.cell? ⟨g, o, none⟩ = some (.string (txt f))) (hcall : Calls Tryd.prog 37 #[.pointer (some ⟨B, 0, none⟩), .slice (some ⟨g, o, none⟩) 0 0] x (Mean N B M x d fv qv seen (updM f []))) :
    Calls Tryd.prog 20 #[.pointer (some ⟨B, 0, none⟩), .map (some G), .slice (some ⟨g, o, none⟩) 1 1] x (TakeQ N B M x d fv qv seen (f :: [])) := by
  have lk : (Instr.lookup 67 (.map (some G)) (.string (txt f)) true).run Tryd.prog x = .ok (.tuple #[.func (.func 37) #[.pointer (some ⟨B, 0, none⟩)] #[], .bool true]) x := lookup_str _ 9 85 Tryd.underlying67 Tryd.underlying9 x G ms mc Mn.at_ (txt f) i _ hf
  have lc := (saw_run hB hM hBM St f).1
  have c12 : x.cell? ⟨B, 12, none⟩ = some (.map (some M)) := (rd_cell St.rd 12).1.trans rfl
  have n1 : (txt f == ⟨#[102, 105, 101, 108, 100]⟩) = false := by rw [← fie_txt, txt_beq]; exact decide_eq_false hne
  have n2 : ((txt f).toList == [102, 105, 101, 108, 100]) = false := by
    rw [beq_eq_false_iff_ne]
    intro h
    apply hne
    rw [ByteArray.toList_eq] at h
    exact h
  have hcnt : ¬ (0 < (seen.count f : Int)) := by have := List.count_eq_zero.2 hs; omega
  have wk : IntKind.i64.wrap ((seen.count f : Int) + 1) = (seen.count f : Int) + 1 := by have := List.count_eq_zero.2 hs; simp only [IntKind.wrap_i64]; omega
  have st := step_nf (d := d) (a := []) hk hne hs
  replace hcall : Hid (Calls Tryd.prog 37 #[.pointer (some ⟨B, 0, none⟩), .slice (some ⟨g, o, none⟩) 0 0] x (Mean N B M x d fv qv seen (updM f []))) := hcall
  have sr : Hid (∀ {y : World} {d' : Dv} {fv' qv' : Value}, DsSt N B M y d' fv' qv' seen → (Instr.lookup 64 (.map (some M)) (.string (txt f)) false).run Tryd.prog y = .ok (.int .i64 ((seen.count f : Nat) : Int)) y ∧ ∃ Y, (Instr.mapUpdate 64 (.map (some M)) (.string (txt f)) (.int .i64 (((seen.count f : Nat) : Int) + 1))).run Tryd.prog y = .ok () Y ∧ DsSt N B M Y d' fv' qv' (seen ++ [f]) ∧ ∀ r, Fr B M r y Y) := fun h => saw_run hB hM hBM h f
  generalize hU : updM f [] = U at *
  replace st : Hid _ := st
  clear Mn hf St hs hk hne hU
  generalize (seen.count f : Nat) = cnt at *
  go_enter Tryd.func20, Tryd.ntmps20
  go_wp2_with fail
  refine hcall.out.mono ?_
  rintro e y ⟨rfl, hfr, hst⟩
  clear hcall lk lc c12
  cases U with
  | none =>
    replace hfr : Hid (Fr B M fv.ownBlock x y) := hfr
    clear hst
    go_wp2
    go_ret
    exact TakeQ.bad st.out hfr.out
  | some u =>
    obtain ⟨fv', qv', s1, s2⟩ := hst u rfl
    obtain ⟨l1, Y, l2, l3, l4⟩ := sr.out s1
    have c12 : y.cell? ⟨B, 12, none⟩ = some (.map (some M)) := (rd_cell s1.rd 12).1.trans rfl
    have F : Hid (Fr B M fv.ownBlock x Y) := hfr.trans (l4 _)
    replace l3 : Hid (DsSt N B M Y (u d) fv' qv' (seen ++ [f])) := l3
    replace s2 : Hid (fv'.ownBlock = fv.ownBlock ∨ ∃ g, fv'.ownBlock = some g ∧ x.heap.size ≤ g) := s2
    clear hst s1 hfr sr l4
    go_wp2
    go_ret
    refine ⟨by rw [st.out]; rfl, F.out, fun d' hd => ?_⟩
    rw [st.out] at hd
    cases hd
    exact ⟨fv', qv', l3.out, s2.out⟩
set_option maxRecDepth 100000 in
set_option maxHeartbeats 4000000 in
theorem tk_req_more (f : Wd) (a : List Wd)  (hk : knownB f = true) {i : Nat} (hf : Instr.findNow .string (.string (txt f)) ms.toList 0 = some (some (i, .func (.func 37) #[.pointer (some ⟨B, 0, none⟩)] #[]))) (hne : ¬ f = kFie) (hs : ¬ f ∈ seen) (g o : Nat) (cap : Nat) (hcap : ¬ cap = 1) (hcap2 : (a.length : Int) + 1 ≤ (cap : Int)) (hc : x.cell? ⟨g, o, none⟩ = some (.string (txt f))) (hl : (a.length : Int) ≤ 5000) (hcall : Calls Tryd.prog 37 #[.pointer (some ⟨B, 0, none⟩), .slice (some ⟨g, o + 1, none⟩) a.length (cap - 1)] x (Mean N B M x d fv qv seen (updM f a))) :
    Calls Tryd.prog 20 #[.pointer (some ⟨B, 0, none⟩), .map (some G), .slice (some ⟨g, o, none⟩) (a.length + 1) cap] x (TakeQ N B M x d fv qv seen (f :: a)) := by
  have lk : (Instr.lookup 67 (.map (some G)) (.string (txt f)) true).run Tryd.prog x = .ok (.tuple #[.func (.func 37) #[.pointer (some ⟨B, 0, none⟩)] #[], .bool true]) x := lookup_str _ 9 85 Tryd.underlying67 Tryd.underlying9 x G ms mc Mn.at_ (txt f) i _ hf
  have lc := (saw_run hB hM hBM St f).1
  have c12 : x.cell? ⟨B, 12, none⟩ = some (.map (some M)) := (rd_cell St.rd 12).1.trans rfl
  have n0 : ((a.length : Int) + 1 == 0) = false := beq_eq_false_iff_ne.2 (by omega)
  have n1 : (txt f == ⟨#[102, 105, 101, 108, 100]⟩) = false := by rw [← fie_txt, txt_beq]; exact decide_eq_false hne
  have n2 : ((txt f).toList == [102, 105, 101, 108, 100]) = false := by
    rw [beq_eq_false_iff_ne]
    intro h
    apply hne
    rw [ByteArray.toList_eq] at h
    exact h
  have hcnt : ¬ (0 < (seen.count f : Int)) := by have := List.count_eq_zero.2 hs; omega
  have wk : IntKind.i64.wrap ((seen.count f : Int) + 1) = (seen.count f : Int) + 1 := by have := List.count_eq_zero.2 hs; simp only [IntKind.wrap_i64]; omega
  have st := step_nf (d := d) (a := a) hk hne hs
  replace hcall : Hid (Calls Tryd.prog 37 #[.pointer (some ⟨B, 0, none⟩), .slice (some ⟨g, o + 1, none⟩) a.length (cap - 1)] x (Mean N B M x d fv qv seen (updM f a))) := hcall
  have sr : Hid (∀ {y : World} {d' : Dv} {fv' qv' : Value}, DsSt N B M y d' fv' qv' seen → (Instr.lookup 64 (.map (some M)) (.string (txt f)) false).run Tryd.prog y = .ok (.int .i64 ((seen.count f : Nat) : Int)) y ∧ ∃ Y, (Instr.mapUpdate 64 (.map (some M)) (.string (txt f)) (.int .i64 (((seen.count f : Nat) : Int) + 1))).run Tryd.prog y = .ok () Y ∧ DsSt N B M Y d' fv' qv' (seen ++ [f]) ∧ ∀ r, Fr B M r y Y) := fun h => saw_run hB hM hBM h f
  generalize hU : updM f a = U at *
  replace st : Hid _ := st
  clear Mn hf St hs hk hne hU
  generalize (seen.count f : Nat) = cnt at *
  go_enter Tryd.func20, Tryd.ntmps20
  go_wp2_with fail
  refine hcall.out.mono ?_
  rintro e y ⟨rfl, hfr, hst⟩
  clear hcall lk lc c12
  cases U with
  | none =>
    replace hfr : Hid (Fr B M fv.ownBlock x y) := hfr
    clear hst
    go_wp2
    go_ret
    exact TakeQ.bad st.out hfr.out
  | some u =>
    obtain ⟨fv', qv', s1, s2⟩ := hst u rfl
    obtain ⟨l1, Y, l2, l3, l4⟩ := sr.out s1
    have c12 : y.cell? ⟨B, 12, none⟩ = some (.map (some M)) := (rd_cell s1.rd 12).1.trans rfl
    have F : Hid (Fr B M fv.ownBlock x Y) := hfr.trans (l4 _)
    replace l3 : Hid (DsSt N B M Y (u d) fv' qv' (seen ++ [f])) := l3
    replace s2 : Hid (fv'.ownBlock = fv.ownBlock ∨ ∃ g, fv'.ownBlock = some g ∧ x.heap.size ≤ g) := s2
    clear hst s1 hfr sr l4
    go_wp2
    go_ret
    refine ⟨by rw [st.out]; rfl, F.out, fun d' hd => ?_⟩
    rw [st.out] at hd
    cases hd
    exact ⟨fv', qv', l3.out, s2.out⟩
set_option maxRecDepth 100000 in
set_option maxHeartbeats 4000000 in
theorem tk_fie_full (a : List Wd) {i : Nat} (hf : Instr.findNow .string (.string (txt kFie)) ms.toList 0 = some (some (i, .func (.func 36) #[.pointer (some ⟨B, 0, none⟩)] #[]))) (h8 : d.fs.length = 8) (hcn : seen.count kFie = d.fs.length) (g o cap : Nat) (hc : x.cell? ⟨g, o, none⟩ = some (.string (txt kFie))) (hl : (a.length : Int) ≤ 5000) :
    Calls Tryd.prog 20 #[.pointer (some ⟨B, 0, none⟩), .map (some G), .slice (some ⟨g, o, none⟩) (a.length + 1) cap] x (TakeQ N B M x d fv qv seen (kFie :: a)) := by
  have lk : (Instr.lookup 67 (.map (some G)) (.string ⟨#[102, 105, 101, 108, 100]⟩) true).run Tryd.prog x = .ok (.tuple #[.func (.func 36) #[.pointer (some ⟨B, 0, none⟩)] #[], .bool true]) x := lookup_str _ 9 85 Tryd.underlying67 Tryd.underlying9 x G ms mc Mn.at_ (txt kFie) i _ hf
  have lc : (Instr.lookup 64 (.map (some M)) (.string ⟨#[102, 105, 101, 108, 100]⟩) false).run Tryd.prog x = .ok (.int .i64 ((seen.count kFie : Nat) : Int)) x := (saw_run hB hM hBM St kFie).1
  have c12 : x.cell? ⟨B, 12, none⟩ = some (.map (some M)) := (rd_cell St.rd 12).1.trans rfl
  replace hc : x.cell? ⟨g, o, none⟩ = some (.string ⟨#[102, 105, 101, 108, 100]⟩) := hc
  have n0 : ((a.length : Int) + 1 == 0) = false := beq_eq_false_iff_ne.2 (by omega)
  have e7 : Hid (stepM d seen (kFie :: a) = .error 7) := by unfold Hid stepM; simp only [show knownB kFie = true from rfl]; rw [if_neg (by decide), if_neg (by simp), if_pos (by simp [h8])]
  rw [hcn, h8] at lc
  clear Mn hf St
  go_enter Tryd.func20, Tryd.ntmps20
  go_wp2
  go_ret
  exact TakeQ.bad e7.out (Fr.refl _ _ _ _)
set_option maxRecDepth 100000 in
set_option maxHeartbeats 4000000 in
theorem tk_fie_one {i : Nat} (hf : Instr.findNow .string (.string (txt kFie)) ms.toList 0 = some (some (i, .func (.func 36) #[.pointer (some ⟨B, 0, none⟩)] #[]))) (h8 : d.fs.length < 8) (hcn : seen.count kFie = d.fs.length) (g o : Nat) (hc : x.cell? ⟨g, o, none⟩ = some (.string (txt kFie))) (hcall : Calls Tryd.prog 36 #[.pointer (some ⟨B, 0, none⟩), .slice (some ⟨g, o, none⟩) 0 0] x (Mean N B M x d fv qv seen (updM kFie []))) :
    Calls Tryd.prog 20 #[.pointer (some ⟨B, 0, none⟩), .map (some G), .slice (some ⟨g, o, none⟩) 1 1] x (TakeQ N B M x d fv qv seen (kFie :: [])) := by
  have lk : (Instr.lookup 67 (.map (some G)) (.string ⟨#[102, 105, 101, 108, 100]⟩) true).run Tryd.prog x = .ok (.tuple #[.func (.func 36) #[.pointer (some ⟨B, 0, none⟩)] #[], .bool true]) x := lookup_str _ 9 85 Tryd.underlying67 Tryd.underlying9 x G ms mc Mn.at_ (txt kFie) i _ hf
  have lc : (Instr.lookup 64 (.map (some M)) (.string ⟨#[102, 105, 101, 108, 100]⟩) false).run Tryd.prog x = .ok (.int .i64 ((seen.count kFie : Nat) : Int)) x := (saw_run hB hM hBM St kFie).1
  have c12 : x.cell? ⟨B, 12, none⟩ = some (.map (some M)) := (rd_cell St.rd 12).1.trans rfl
  replace hc : x.cell? ⟨g, o, none⟩ = some (.string ⟨#[102, 105, 101, 108, 100]⟩) := hc
  have ne8 : ((seen.count kFie : Int) == 8) = false := beq_eq_false_iff_ne.2 (by omega)
  have wk : IntKind.i64.wrap ((seen.count kFie : Int) + 1) = (seen.count kFie : Int) + 1 := by simp only [IntKind.wrap_i64]; omega
  have st := step_f (d := d) (seen := seen) (a := []) (by omega)
  replace hcall : Hid (Calls Tryd.prog 36 #[.pointer (some ⟨B, 0, none⟩), .slice (some ⟨g, o, none⟩) 0 0] x (Mean N B M x d fv qv seen (updM kFie []))) := hcall
  have sr : Hid (∀ {y : World} {d' : Dv} {fv' qv' : Value}, DsSt N B M y d' fv' qv' seen → (Instr.lookup 64 (.map (some M)) (.string ⟨#[102, 105, 101, 108, 100]⟩) false).run Tryd.prog y = .ok (.int .i64 ((seen.count kFie : Nat) : Int)) y ∧ ∃ Y, (Instr.mapUpdate 64 (.map (some M)) (.string ⟨#[102, 105, 101, 108, 100]⟩) (.int .i64 (((seen.count kFie : Nat) : Int) + 1))).run Tryd.prog y = .ok () Y ∧ DsSt N B M Y d' fv' qv' (seen ++ [kFie]) ∧ ∀ r, Fr B M r y Y) := fun h => saw_run hB hM hBM h kFie
  generalize hU : updM kFie [] = U at *
  replace st : Hid _ := st
  clear Mn hf St hU hcn
  generalize (seen.count kFie : Nat) = cnt at *
  go_enter Tryd.func20, Tryd.ntmps20
  go_wp2_with fail
  refine hcall.out.mono ?_
  rintro e y ⟨rfl, hfr, hst⟩
  clear hcall lk lc c12
  cases U with
  | none =>
    replace hfr : Hid (Fr B M fv.ownBlock x y) := hfr
    clear hst
    go_wp2
    go_ret
    exact TakeQ.bad st.out hfr.out
  | some u =>
    obtain ⟨fv', qv', s1, s2⟩ := hst u rfl
    obtain ⟨l1, Y, l2, l3, l4⟩ := sr.out s1
    have c12 : y.cell? ⟨B, 12, none⟩ = some (.map (some M)) := (rd_cell s1.rd 12).1.trans rfl
    have F : Hid (Fr B M fv.ownBlock x Y) := hfr.trans (l4 _)
    replace l3 : Hid (DsSt N B M Y (u d) fv' qv' (seen ++ [kFie])) := l3
    replace s2 : Hid (fv'.ownBlock = fv.ownBlock ∨ ∃ g, fv'.ownBlock = some g ∧ x.heap.size ≤ g) := s2
    clear hst s1 hfr sr l4
    go_wp2
    go_ret
    refine ⟨by rw [st.out]; rfl, F.out, fun d' hd => ?_⟩
    rw [st.out] at hd
    cases hd
    exact ⟨fv', qv', l3.out, s2.out⟩
set_option maxRecDepth 100000 in
set_option maxHeartbeats 4000000 in
theorem tk_fie_more (a : List Wd) {i : Nat} (hf : Instr.findNow .string (.string (txt kFie)) ms.toList 0 = some (some (i, .func (.func 36) #[.pointer (some ⟨B, 0, none⟩)] #[]))) (h8 : d.fs.length < 8) (hcn : seen.count kFie = d.fs.length) (g o : Nat) (cap : Nat) (hcap : ¬ cap = 1) (hcap2 : (a.length : Int) + 1 ≤ (cap : Int)) (hc : x.cell? ⟨g, o, none⟩ = some (.string (txt kFie))) (hl : (a.length : Int) ≤ 5000) (hcall : Calls Tryd.prog 36 #[.pointer (some ⟨B, 0, none⟩), .slice (some ⟨g, o + 1, none⟩) a.length (cap - 1)] x (Mean N B M x d fv qv seen (updM kFie a))) :
    Calls Tryd.prog 20 #[.pointer (some ⟨B, 0, none⟩), .map (some G), .slice (some ⟨g, o, none⟩) (a.length + 1) cap] x (TakeQ N B M x d fv qv seen (kFie :: a)) := by
  have lk : (Instr.lookup 67 (.map (some G)) (.string ⟨#[102, 105, 101, 108, 100]⟩) true).run Tryd.prog x = .ok (.tuple #[.func (.func 36) #[.pointer (some ⟨B, 0, none⟩)] #[], .bool true]) x := lookup_str _ 9 85 Tryd.underlying67 Tryd.underlying9 x G ms mc Mn.at_ (txt kFie) i _ hf
  have lc : (Instr.lookup 64 (.map (some M)) (.string ⟨#[102, 105, 101, 108, 100]⟩) false).run Tryd.prog x = .ok (.int .i64 ((seen.count kFie : Nat) : Int)) x := (saw_run hB hM hBM St kFie).1
  have c12 : x.cell? ⟨B, 12, none⟩ = some (.map (some M)) := (rd_cell St.rd 12).1.trans rfl
  replace hc : x.cell? ⟨g, o, none⟩ = some (.string ⟨#[102, 105, 101, 108, 100]⟩) := hc
  have n0 : ((a.length : Int) + 1 == 0) = false := beq_eq_false_iff_ne.2 (by omega)
  have ne8 : ((seen.count kFie : Int) == 8) = false := beq_eq_false_iff_ne.2 (by omega)
  have wk : IntKind.i64.wrap ((seen.count kFie : Int) + 1) = (seen.count kFie : Int) + 1 := by simp only [IntKind.wrap_i64]; omega
  have st := step_f (d := d) (seen := seen) (a := a) (by omega)
  replace hcall : Hid (Calls Tryd.prog 36 #[.pointer (some ⟨B, 0, none⟩), .slice (some ⟨g, o + 1, none⟩) a.length (cap - 1)] x (Mean N B M x d fv qv seen (updM kFie a))) := hcall
  have sr : Hid (∀ {y : World} {d' : Dv} {fv' qv' : Value}, DsSt N B M y d' fv' qv' seen → (Instr.lookup 64 (.map (some M)) (.string ⟨#[102, 105, 101, 108, 100]⟩) false).run Tryd.prog y = .ok (.int .i64 ((seen.count kFie : Nat) : Int)) y ∧ ∃ Y, (Instr.mapUpdate 64 (.map (some M)) (.string ⟨#[102, 105, 101, 108, 100]⟩) (.int .i64 (((seen.count kFie : Nat) : Int) + 1))).run Tryd.prog y = .ok () Y ∧ DsSt N B M Y d' fv' qv' (seen ++ [kFie]) ∧ ∀ r, Fr B M r y Y) := fun h => saw_run hB hM hBM h kFie
  generalize hU : updM kFie a = U at *
  replace st : Hid _ := st
  clear Mn hf St hU hcn
  generalize (seen.count kFie : Nat) = cnt at *
  go_enter Tryd.func20, Tryd.ntmps20
  go_wp2_with fail
  refine hcall.out.mono ?_
  rintro e y ⟨rfl, hfr, hst⟩
  clear hcall lk lc c12
  cases U with
  | none =>
    replace hfr : Hid (Fr B M fv.ownBlock x y) := hfr
    clear hst
    go_wp2
    go_ret
    exact TakeQ.bad st.out hfr.out
  | some u =>
    obtain ⟨fv', qv', s1, s2⟩ := hst u rfl
    obtain ⟨l1, Y, l2, l3, l4⟩ := sr.out s1
    have c12 : y.cell? ⟨B, 12, none⟩ = some (.map (some M)) := (rd_cell s1.rd 12).1.trans rfl
    have F : Hid (Fr B M fv.ownBlock x Y) := hfr.trans (l4 _)
    replace l3 : Hid (DsSt N B M Y (u d) fv' qv' (seen ++ [kFie])) := l3
    replace s2 : Hid (fv'.ownBlock = fv.ownBlock ∨ ∃ g, fv'.ownBlock = some g ∧ x.heap.size ≤ g) := s2
    clear hst s1 hfr sr l4
    go_wp2
    go_ret
    refine ⟨by rw [st.out]; rfl, F.out, fun d' hd => ?_⟩
    rw [st.out] at hd
    cases hd
    exact ⟨fv', qv', l3.out, s2.out⟩
end
end Go.Proofs.YtagkgneijdbkoaaDoor
/-
  What the program's own take does with any line (layer 8). Conditions: a word is at most 5000 bytes, and there are at most 5000; as it says.
-/
namespace Go.Proofs.YtagkgneijdbkoaaDoor
open Go.RowKit
set_option linter.unusedVariables false

/-- the words behind the first -/
theorem tail_one {L0 : Nat} {x : World} {g o : Nat} {f : Wd} (h : g < L0) : WdsAt L0 x (.slice (some ⟨g, o, none⟩) 0 0) [] := .inr ⟨g, o, 0, rfl, Nat.le_refl _, fun j hj => (by cases hj), h⟩
theorem tail_more {L0 : Nat} {x : World} {g o cap : Nat} {f : Wd} {a : List Wd} (hi : StrsIn x g o (f :: a)) (h : g < L0) (hc : a.length + 1 ≤ cap) : WdsAt L0 x (.slice (some ⟨g, o + 1, none⟩) a.length (cap - 1)) a :=
  .inr ⟨g, o + 1, cap - 1, rfl, by omega, fun j hj => by have := hi (j + 1) (by simpa using hj); rw [show o + 1 + j = o + (j + 1) by omega]; exact this, h⟩
section
variable {N B M L0 : Nat} (hB : B < N) (hM : M < N) (hBM : B ≠ M) (hL : L0 ≤ B) (hLM : L0 ≤ M) {x : World} {d : Dv} {fv qv : Value} {seen : List Wd} (St : DsSt N B M x d fv qv seen) {G : Nat} {ms : Array MapEntry} {mc : Nat} (Mn : MeanOk N B M x G ms mc)
include hB hM hBM hL St Mn
set_option maxRecDepth 100000 in
set_option maxHeartbeats 2000000 in
theorem take_any (Sn : SeenOk d seen) (hsl : (seen.length : Int) ≤ 5000) {ws : List Wd} {vw : Value} (hw : WdsAt L0 x vw ws) (hz : ∀ z ∈ ws, (z.length : Int) ≤ 5000) (hl : (ws.length : Int) ≤ 5000) :
    Calls Tryd.prog 20 #[.pointer (some ⟨B, 0, none⟩), .map (some G), vw] x (TakeQ N B M x d fv qv seen ws) := by
  cases ws with
  | nil =>
    rcases hw with ⟨p, c, rfl, _⟩ | ⟨g, o, cap, rfl, _⟩
    · exact take_empty p c
    · exact take_empty _ cap
  | cons f a =>
    obtain ⟨g, o, cap, rfl, hi, hg, hcap⟩ := hw.cons
    have hc : x.cell? ⟨g, o, none⟩ = some (.string (txt f)) := hi 0 (by simp)
    have hl' : (a.length : Int) ≤ 5000 := by simp at hl; omega
    have hza : ∀ z ∈ a, (z.length : Int) ≤ 5000 := fun z h => hz z (by simp [h])
    have hcn : (seen.count f : Int) ≤ 5000 := by have := List.count_le_length (a := f) (l := seen); omega
    rcases Mn.look f with ⟨hk, hf⟩ | ⟨hk, i, v, hf, hv⟩
    · exact take_unknown Mn f a hk hf g o cap hc hl'
    · have w1 : cap = 1 → a = [] := fun h => List.length_eq_zero_iff.1 (by omega)
      have t1 : WdsAt L0 x (.slice (some ⟨g, o, none⟩) 0 0) [] := tail_one (f := f) hg
      have t2 : WdsAt L0 x (.slice (some ⟨g, o + 1, none⟩) a.length (cap - 1)) a := tail_more hi hg hcap
      have hm8 := Sn.le
      rcases hv with ⟨rfl, h⟩ | ⟨rfl, h⟩ | ⟨rfl, h⟩ | ⟨rfl, h⟩ | ⟨rfl, h⟩ | ⟨rfl, h⟩ | ⟨rfl, h⟩ | ⟨rfl, h⟩ | ⟨rfl, h⟩ | ⟨rfl, h⟩ | ⟨rfl, h⟩
      · by_cases hs : kDev ∈ seen
        · obtain ⟨b, rfl, _⟩ := h
          exact tk_nam_twice hB hM hBM St Mn kDev a b hk hf (by decide) hs hcn g o cap hc hl'
        · by_cases h1 : cap = 1
          · obtain rfl := w1 h1
            subst h1
            obtain ⟨b, rfl, q⟩ := nm_run hB hM hBM St t1 hza (by simp) h (.string (txt d.nm)) rfl (fun x d => { d with nm := x }) (fun z => ⟨rfl, rfl, rfl⟩)
            exact tk_nam_one hB hM hBM St Mn kDev b hk hf (by decide) hs g o hc q
          · obtain ⟨b, rfl, q⟩ := nm_run hB hM hBM St t2 hza hl' h (.string (txt d.nm)) rfl (fun x d => { d with nm := x }) (fun z => ⟨rfl, rfl, rfl⟩)
            exact tk_nam_more hB hM hBM St Mn kDev a b hk hf (by decide) hs g o cap h1 (by omega) hc hl' q
      · by_cases hs : kSum ∈ seen
        · obtain ⟨b, rfl, _⟩ := h
          exact tk_nam_twice hB hM hBM St Mn kSum a b hk hf (by decide) hs hcn g o cap hc hl'
        · by_cases h1 : cap = 1
          · obtain rfl := w1 h1
            subst h1
            obtain ⟨b, rfl, q⟩ := nm_run hB hM hBM St t1 hza (by simp) h (.string (txt d.sm)) rfl (fun x d => { d with sm := x }) (fun z => ⟨rfl, rfl, rfl⟩)
            exact tk_nam_one hB hM hBM St Mn kSum b hk hf (by decide) hs g o hc q
          · obtain ⟨b, rfl, q⟩ := nm_run hB hM hBM St t2 hza hl' h (.string (txt d.sm)) rfl (fun x d => { d with sm := x }) (fun z => ⟨rfl, rfl, rfl⟩)
            exact tk_nam_more hB hM hBM St Mn kSum a b hk hf (by decide) hs g o cap h1 (by omega) hc hl' q
      · by_cases hs : kSiz ∈ seen
        · obtain ⟨b1, b2, b3, rfl, _⟩ := h
          exact tk_num_twice hB hM hBM St Mn kSiz a b1 b2 b3 hk hf (by decide) hs hcn g o cap hc hl'
        · by_cases h1 : cap = 1
          · obtain rfl := w1 h1
            subst h1
            obtain ⟨b1, b2, b3, rfl, q⟩ := nu_run hB hM hBM St t1 hza (by simp) h (.int .i64 d.sz) rfl (fun x d => { d with sz := x }) (fun z => ⟨rfl, rfl, rfl⟩)
            exact tk_num_one hB hM hBM St Mn kSiz b1 b2 b3 hk hf (by decide) hs g o hc q
          · obtain ⟨b1, b2, b3, rfl, q⟩ := nu_run hB hM hBM St t2 hza hl' h (.int .i64 d.sz) rfl (fun x d => { d with sz := x }) (fun z => ⟨rfl, rfl, rfl⟩)
            exact tk_num_more hB hM hBM St Mn kSiz a b1 b2 b3 hk hf (by decide) hs g o cap h1 (by omega) hc hl' q
      · by_cases hs : kPol ∈ seen
        · obtain ⟨b1, b2, b3, rfl, _⟩ := h
          exact tk_num_twice hB hM hBM St Mn kPol a b1 b2 b3 hk hf (by decide) hs hcn g o cap hc hl'
        · by_cases h1 : cap = 1
          · obtain rfl := w1 h1
            subst h1
            obtain ⟨b1, b2, b3, rfl, q⟩ := nu_run hB hM hBM St t1 hza (by simp) h (.int .i64 d.po) rfl (fun x d => { d with po := x }) (fun z => ⟨rfl, rfl, rfl⟩)
            exact tk_num_one hB hM hBM St Mn kPol b1 b2 b3 hk hf (by decide) hs g o hc q
          · obtain ⟨b1, b2, b3, rfl, q⟩ := nu_run hB hM hBM St t2 hza hl' h (.int .i64 d.po) rfl (fun x d => { d with po := x }) (fun z => ⟨rfl, rfl, rfl⟩)
            exact tk_num_more hB hM hBM St Mn kPol a b1 b2 b3 hk hf (by decide) hs g o cap h1 (by omega) hc hl' q
      · by_cases hs : kTim ∈ seen
        · obtain ⟨b1, b2, b3, rfl, _⟩ := h
          exact tk_num_twice hB hM hBM St Mn kTim a b1 b2 b3 hk hf (by decide) hs hcn g o cap hc hl'
        · by_cases h1 : cap = 1
          · obtain rfl := w1 h1
            subst h1
            obtain ⟨b1, b2, b3, rfl, q⟩ := nu_run hB hM hBM St t1 hza (by simp) h (.int .i64 d.ti) rfl (fun x d => { d with ti := x }) (fun z => ⟨rfl, rfl, rfl⟩)
            exact tk_num_one hB hM hBM St Mn kTim b1 b2 b3 hk hf (by decide) hs g o hc q
          · obtain ⟨b1, b2, b3, rfl, q⟩ := nu_run hB hM hBM St t2 hza hl' h (.int .i64 d.ti) rfl (fun x d => { d with ti := x }) (fun z => ⟨rfl, rfl, rfl⟩)
            exact tk_num_more hB hM hBM St Mn kTim a b1 b2 b3 hk hf (by decide) hs g o cap h1 (by omega) hc hl' q
      · by_cases hs : kRet ∈ seen
        · obtain ⟨b1, b2, b3, rfl, _⟩ := h
          exact tk_num_twice hB hM hBM St Mn kRet a b1 b2 b3 hk hf (by decide) hs hcn g o cap hc hl'
        · by_cases h1 : cap = 1
          · obtain rfl := w1 h1
            subst h1
            obtain ⟨b1, b2, b3, rfl, q⟩ := nu_run hB hM hBM St t1 hza (by simp) h (.int .i64 d.re) rfl (fun x d => { d with re := x }) (fun z => ⟨rfl, rfl, rfl⟩)
            exact tk_num_one hB hM hBM St Mn kRet b1 b2 b3 hk hf (by decide) hs g o hc q
          · obtain ⟨b1, b2, b3, rfl, q⟩ := nu_run hB hM hBM St t2 hza hl' h (.int .i64 d.re) rfl (fun x d => { d with re := x }) (fun z => ⟨rfl, rfl, rfl⟩)
            exact tk_num_more hB hM hBM St Mn kRet a b1 b2 b3 hk hf (by decide) hs g o cap h1 (by omega) hc hl' q
      · by_cases hs : kAge ∈ seen
        · obtain ⟨b1, b2, b3, rfl, _⟩ := h
          exact tk_num_twice hB hM hBM St Mn kAge a b1 b2 b3 hk hf (by decide) hs hcn g o cap hc hl'
        · by_cases h1 : cap = 1
          · obtain rfl := w1 h1
            subst h1
            obtain ⟨b1, b2, b3, rfl, q⟩ := nu_run hB hM hBM St t1 hza (by simp) h (.int .i64 d.ag) rfl (fun x d => { d with ag := x }) (fun z => ⟨rfl, rfl, rfl⟩)
            exact tk_num_one hB hM hBM St Mn kAge b1 b2 b3 hk hf (by decide) hs g o hc q
          · obtain ⟨b1, b2, b3, rfl, q⟩ := nu_run hB hM hBM St t2 hza hl' h (.int .i64 d.ag) rfl (fun x d => { d with ag := x }) (fun z => ⟨rfl, rfl, rfl⟩)
            exact tk_num_more hB hM hBM St Mn kAge a b1 b2 b3 hk hf (by decide) hs g o cap h1 (by omega) hc hl' q
      · by_cases hs : kSta ∈ seen
        · subst h
          exact tk_sta_twice hB hM hBM St Mn kSta a hk hf (by decide) hs hcn g o cap hc hl'
        · subst h
          by_cases h1 : cap = 1
          · obtain rfl := w1 h1
            subst h1
            exact tk_sta_one hB hM hBM St Mn kSta hk hf (by decide) hs g o hc (sta_run hB hM hBM St t1 hza (by simp))
          · exact tk_sta_more hB hM hBM St Mn kSta a hk hf (by decide) hs g o cap h1 (by omega) hc hl' (sta_run hB hM hBM St t2 hza hl')
      · by_cases hs : kEsc ∈ seen
        · subst h
          exact tk_esc_twice hB hM hBM St Mn kEsc a hk hf (by decide) hs hcn g o cap hc hl'
        · subst h
          by_cases h1 : cap = 1
          · obtain rfl := w1 h1
            subst h1
            exact tk_esc_one hB hM hBM St Mn kEsc hk hf (by decide) hs g o hc (esc_run hB hM hBM St t1 hza (by simp))
          · exact tk_esc_more hB hM hBM St Mn kEsc a hk hf (by decide) hs g o cap h1 (by omega) hc hl' (esc_run hB hM hBM St t2 hza hl')
      · by_cases hs : kReq ∈ seen
        · subst h
          exact tk_req_twice hB hM hBM St Mn kReq a hk hf (by decide) hs hcn g o cap hc hl'
        · subst h
          by_cases h1 : cap = 1
          · obtain rfl := w1 h1
            subst h1
            exact tk_req_one hB hM hBM St Mn kReq hk hf (by decide) hs g o hc (req_run hB hM hBM St t1 hza (by simp))
          · exact tk_req_more hB hM hBM St Mn kReq a hk hf (by decide) hs g o cap h1 (by omega) hc hl' (req_run hB hM hBM St t2 hza hl')
      · subst h
        by_cases h8 : d.fs.length = 8
        · exact tk_fie_full hB hM hBM St Mn a hf h8 Sn.cnt g o cap hc hl'
        · by_cases h1 : cap = 1
          · obtain rfl := w1 h1
            subst h1
            exact tk_fie_one hB hM hBM St Mn hf (by omega) Sn.cnt g o hc (fie_run hB hM hBM hL St t1 hza (by simp) hm8)
          · exact tk_fie_more hB hM hBM St Mn a hf (by omega) Sn.cnt g o cap h1 (by omega) hc hl' (fie_run hB hM hBM hL St t2 hza hl' hm8)
end
end Go.Proofs.YtagkgneijdbkoaaDoor
/-
  What the program's own lacks returns: is there a word without a line (layer 8). Conditions: as it says.
-/
namespace Go.Proofs.YtagkgneijdbkoaaDoor
open Go.RowKit Go.ChangeMaps
set_option linter.unusedVariables false

theorem heap_set_neD (w : World) (r i : Nat) (o : Obj) (h : i ≠ r) : (setBlock w r o).heap[i]? = w.heap[i]? := by simp [setBlock, Ne.symm h]
theorem heap_set_eqD (w : World) (r : Nat) (o : Obj) (h : r < w.heap.size) : (setBlock w r o).heap[r]? = some o := by simp [setBlock, h]
/-- what is kept while the map is gone through -/
structure LkRun (x y : World) (G : Nat) (ms : Array MapEntry) (c : Nat) (seen : List Wd) (s : Array Nat) : Prop where
  it : y.heap[x.heap.size]? = some (.mapIter (some G) c s c)
  b : Below x.heap.size x y
  ok : ∀ e ∈ ms.toList, s.contains e.born = true → ∀ f, e.key = .string (txt f) → f = kFie ∨ f ∈ seen
def NxFD (H : Nat) (y : World) : Prop := ∀ ty, (Instr.next (.pointer (some ⟨H, 0, none⟩)) false ty).run Tryd.prog y = .ok (.tuple #[.bool false]) y
def NxTD (H : Nat) (y y2 : World) (f : Wd) (v : Value) : Prop := ∀ ty, (Instr.next (.pointer (some ⟨H, 0, none⟩)) false ty).run Tryd.prog y = .ok (.tuple #[.bool true, .string (txt f), v]) y2
def EnTD (H : Nat) (y2 : World) (f : Wd) (v : Value) : Prop := (Instr.entry (.pointer (some ⟨H, 0, none⟩))).run Tryd.prog y2 = .ok (.tuple #[.string (txt f), v]) y2
section
variable {N B M : Nat} {x : World} {G : Nat} {ms : Array MapEntry} {c : Nat} (Mn : MeanOk N B M x G ms c) {seen : List Wd}
include Mn
theorem LkRun.next {y : World} {s : Array Nat} (h : LkRun x y G ms c seen s) : ((leftOf ms s).size = 0 ∧ NxFD x.heap.size y) ∨
    ∃ f v, (f ∈ tenK ∨ f = kFie) ∧ ∃ y2 j, NxTD x.heap.size y y2 f v ∧ EnTD x.heap.size y2 f v ∧ (leftOf ms (s.push j)).size < (leftOf ms s).size ∧ Below x.heap.size x y2 ∧ ((f = kFie ∨ f ∈ seen) → LkRun x y2 G ms c seen (s.push j)) := by
  have hG : G < x.heap.size := (Array.getElem?_eq_some_iff.1 Mn.at_).1
  have hmp : y.heap[G]? = some (.map ms c) := (h.b.block G hG).trans Mn.at_
  rcases run_next_at (P := Tryd.prog) y 0 x.heap.size G c c s ms c h.it hmp Mn.lt (Nat.le_refl _) with ⟨h0, hr⟩ | ⟨e, he, w1, hw1, hr⟩
  · exact .inl ⟨h0, fun _ => hr⟩
  · have hm := (mem_left he).1
    obtain ⟨i, hi⟩ := List.mem_iff_getElem?.1 hm
    obtain ⟨f, hf1, hf2, _⟩ := Mn.val i e (by rwa [Array.getElem?_toList] at hi)
    have sh := left_shrinks _ _ _ he
    have hd : w1.heap = y.heap := by rcases hw1 with rfl | rfl <;> rfl
    have hB : Below x.heap.size x w1 := by
      rcases hw1 with rfl | rfl
      · exact h.b
      · exact h.b.drew
    have hl : x.heap.size < w1.heap.size := by rw [hd]; exact (Array.getElem?_eq_some_iff.1 h.it).1
    have b2 : Below x.heap.size x (setBlock w1 x.heap.size (.mapIter (some G) c (s.push e.born) c)) := ⟨hB.os, hB.tape, hB.output, by simp only [setBlock, Array.size_setIfInBounds]; exact hB.size, fun k hk => by rw [heap_set_neD _ _ _ _ (by omega)]; exact hB.block k hk⟩
    refine .inr ⟨f, e.val, hf1, _, e.born, fun ty => by rw [← hf2]; exact hr, ?_, sh, b2, fun hs => ⟨heap_set_eqD _ _ _ hl, b2, fun e' he' hc f' hf' => ?_⟩⟩
    · unfold EnTD
      rw [← hf2]
      refine run_entry_at (P := Tryd.prog) _ x.heap.size G c s ms c e (heap_set_eqD _ _ _ hl) ?_ hm Mn.born
      rw [heap_set_neD _ _ _ _ (by omega), hd]; exact hmp
    · rw [contains_push] at hc
      by_cases hb : e'.born = e.born
      · have hee : e' = e := by
          obtain ⟨i', hi'⟩ := List.mem_iff_getElem?.1 he'
          have hnd := Mn.born
          have h1 : (ms.toList.map (·.born))[i']? = some e.born := by rw [List.getElem?_map, hi']; simp [hb]
          have h2 : (ms.toList.map (·.born))[i]? = some e.born := by rw [List.getElem?_map, hi]; rfl
          have hii : i' = i := by
            obtain ⟨p1, q1⟩ := List.getElem?_eq_some_iff.1 h1
            obtain ⟨p2, q2⟩ := List.getElem?_eq_some_iff.1 h2
            rcases Nat.lt_trichotomy i' i with hlt | heq | hgt
            · exact absurd (q1.trans q2.symm) (List.pairwise_iff_getElem.1 hnd i' i p1 p2 hlt)
            · exact heq
            · exact absurd (q2.trans q1.symm) (List.pairwise_iff_getElem.1 hnd i i' p2 p1 hgt)
          rw [hii, hi] at hi'
          exact (Option.some.inj hi').symm
        rw [hee, hf2] at hf'
        injection hf' with hf'
        rw [← txt_inj hf']
        exact hs
      · have : (e'.born == e.born) = false := by simpa using hb
        rw [this, Bool.or_false] at hc
        exact h.ok e' he' hc f' hf'
theorem LkRun.done {y : World} {s : Array Nat} (h : LkRun x y G ms c seen s) (h0 : (leftOf ms s).size = 0) : lackB seen = false := by
  unfold lackB
  rw [decide_eq_false_iff_not]
  rintro ⟨k, hk, hn⟩
  obtain ⟨i, e, he, hke⟩ := Mn.has k (.inl hk)
  have hm : e ∈ ms.toList := List.mem_of_getElem? (i := i) (by rw [Array.getElem?_toList]; exact he)
  rcases h.ok e hm (all_seen _ _ h0 _ hm) k hke with hf | hs
  · exact tenK_nf k hk hf
  · exact hn hs
def x_lk (H : Nat) (y : World) (s : Array Nat) (ms : Array MapEntry) (j : Nat) : Prop := y.iterSeen H = s ∧ (leftOf ms (s.push j)).size < (leftOf ms s).size
omit Mn in
theorem LkRun.seen_ {y : World} {s : Array Nat} (h : LkRun x y G ms c seen s) : y.iterSeen x.heap.size = s := by
  unfold World.iterSeen; rw [h.it]

set_option maxRecDepth 100000 in
set_option maxHeartbeats 8000000 in
theorem lacks_any (hB : B < N) (hM : M < N) (hBM : B ≠ M) {d : Dv} {fv qv : Value} (St : DsSt N B M x d fv qv seen) (hsl : (seen.length : Int) ≤ 5000) :
    Calls Tryd.prog 21 #[.pointer (some ⟨B, 0, none⟩), .map (some G)] x fun e y => e = .returned (.bool (lackB seen)) ∧ Below x.heap.size x y := by
  have r3 : (Instr.range 67 (.map (some G))).run Tryd.prog x = .ok (.pointer (some ⟨x.heap.size, 0, none⟩)) (x.alloc (.mapIter (some G) c #[] c)) := run_range_map (P := Tryd.prog) x 67 9 85 G ms c Tryd.underlying67 Mn.at_
  have S0 : Hid (LkRun x (x.alloc (.mapIter (some G) c #[] c)) G ms c seen #[]) := ⟨World.alloc_heap_new x _, (Below.refl _ _).alloc (Nat.le_refl _) _, fun e _ h => (by simp at h)⟩
  have lc : Hid (∀ f y, Below x.heap.size x y → (Instr.lookup 64 (.map (some M)) (.string (txt f)) false).run Tryd.prog y = .ok (.int .i64 ((seen.count f : Nat) : Int)) y) := fun f y hb => (saw_run hB hM hBM (St.below hB hM hb) f).1
  have c12 : Hid (∀ y, Below x.heap.size x y → y.cell? ⟨B, 12, none⟩ = some (.map (some M))) := fun y hb => kp hb ((rd_cell St.rd 12).1.trans rfl)
  have nx0 : Hid (∀ y s, LkRun x y G ms c seen s → ((leftOf ms s).size = 0 ∧ NxFD x.heap.size y ∧ lackB seen = false) ∨ ∃ f v, (f ∈ tenK ∨ f = kFie) ∧ ∃ y2 j, NxTD x.heap.size y y2 f v ∧ EnTD x.heap.size y2 f v ∧ (leftOf ms (s.push j)).size < (leftOf ms s).size ∧ Below x.heap.size x y2 ∧ ((f = kFie ∨ f ∈ seen) → LkRun x y2 G ms c seen (s.push j))) := fun y s h => by
    rcases h.next Mn with ⟨h0, h1⟩ | h1
    · exact .inl ⟨h0, h1, h.done Mn h0⟩
    · exact .inr h1
  have LK : Hid (∀ f, f ∈ tenK → seen.count f = 0 → lackB seen = true) := fun f hf hc => decide_eq_true ⟨f, hf, List.count_eq_zero.1 hc⟩
  generalize x.alloc (.mapIter (some G) c #[] c) = x0 at *
  clear Mn St
  go_enter Tryd.func21, Tryd.ntmps21
  go_wp2
  go_loopw [] (fun wr => ∃ s, Hid (LkRun x wr G ms c seen s)) (fun wr => (leftOf ms (wr.iterSeen x.heap.size)).size)
  case atStart => exact ⟨_, S0⟩
  case round =>
    obtain ⟨s, st⟩ := hrel
    clear S0 r3
    rcases nx0.out _ _ st.out with ⟨h0, nx, hl⟩ | ⟨f, v, hf, y2, j, nx, en, sh, hb2, ag⟩
    · have Bx : Hid (Below x.heap.size x wr) := st.out.b
      have hl' : Hid (lackB seen = false) := hl
      unfold NxFD at nx
      clear st h0 hl nx0 LK lc c12
      go_wp2
      go_ret
      exact ⟨by rw [hl'.out]; rfl, Bx.out⟩
    · have sn := st.out.seen_
      have M0 : Hid (x_lk x.heap.size wr s ms j) := ⟨sn, sh⟩
      have l1 := lc.out f y2 hb2
      have cB := c12.out y2 hb2
      replace hb2 : Hid (Below x.heap.size x y2) := hb2
      replace ag : Hid ((f = kFie ∨ f ∈ seen) → LkRun x y2 G ms c seen (s.push j)) := ag
      have hcl : (seen.count f : Int) ≤ 5000 := by have := List.count_le_length (a := f) (l := seen); omega
      unfold NxTD at nx
      unfold EnTD at en
      clear st sh sn nx0 lc c12
      by_cases hfk : f = kFie
      · subst hfk
        have P1 : Hid (LkRun x y2 G ms c seen (s.push j)) := ag.out (.inl rfl)
        replace nx : ∀ ty, (Instr.next (.pointer (some ⟨x.heap.size, 0, none⟩)) false ty).run Tryd.prog wr = .ok (.tuple #[.bool true, .string ⟨#[102, 105, 101, 108, 100]⟩, v]) y2 := nx
        replace en : (Instr.entry (.pointer (some ⟨x.heap.size, 0, none⟩))).run Tryd.prog y2 = .ok (.tuple #[.string ⟨#[102, 105, 101, 108, 100]⟩, v]) y2 := en
        clear ag l1 LK
        go_wp2
        exact ⟨⟨_, P1⟩, by rw [P1.out.seen_, M0.out.1]; exact M0.out.2⟩
      · have n1 : (txt f == ⟨#[102, 105, 101, 108, 100]⟩) = false := by rw [← fie_txt, txt_beq]; exact decide_eq_false hfk
        have n2 : ((txt f).toList == [102, 105, 101, 108, 100]) = false := by
          rw [beq_eq_false_iff_ne]
          intro h
          apply hfk
          rw [ByteArray.toList_eq] at h
          exact h
        by_cases hc0 : seen.count f = 0
        · have LL : Hid (lackB seen = true) := LK.out f (hf.resolve_right hfk) hc0
          rw [hc0] at l1
          clear ag LK hf hc0
          go_wp2
          go_ret
          exact ⟨by rw [LL.out]; rfl, hb2.out⟩
        · have P1 : Hid (LkRun x y2 G ms c seen (s.push j)) := ag.out (.inr (List.count_pos_iff.1 (by omega)))
          have ne0 : ((seen.count f : Int) == 0) = false := beq_eq_false_iff_ne.2 (by omega)
          clear ag LK hf hc0
          generalize (seen.count f : Nat) = cnt at *
          go_wp2
          exact ⟨⟨_, P1⟩, by rw [P1.out.seen_, M0.out.1]; exact M0.out.2⟩
end
end Go.Proofs.YtagkgneijdbkoaaDoor
/-
  What the program's own Read returns of any lines (layer 8). Conditions: the lines lie in memory that was there before; at most 4500 lines, 4500 words each, 5000 bytes a word.
-/
namespace Go.Proofs.YtagkgneijdbkoaaDoor
open Go.RowKit
set_option linter.unusedVariables false

/-- the map, made, is as it must be -/
theorem mean_ok {w z : World} {B M : Nat} {x : Array Bool} {G : Nat} {ms : Array MapEntry} {c : Nat} (h : MkMap w.heap.size B x z G ms c) (hall : ∀ j f, insK j = some f → x.getD j false = true) (hB : B < w.heap.size) (hM : M < w.heap.size) : MeanOk z.heap.size B M z G ms c := by
  have hk : ∀ {b : Nat} {v : Value}, z.cell? ⟨b, 0, none⟩ = some v → w.heap.size ≤ b → b < z.heap.size ∧ b ≠ B ∧ b ≠ M := fun {b v} hc hb => ⟨block_lt_of_cell hc, by omega, by omega⟩
  have nm : ∀ {k : Nat} {v : Value}, NmG w.heap.size B z k v → NmF z z.heap.size B M k v := fun {k v} hh => by
    obtain ⟨b, h1, h2, h3⟩ := hh
    exact ⟨b, h1, h2, hk h2 h3⟩
  have nu : ∀ {k : Nat} {lo hi : Int} {v : Value}, NuG w.heap.size B z k lo hi v → NuF z z.heap.size B M k lo hi v := fun {k lo hi v} hh => by
    obtain ⟨b1, b2, b3, h0, h1, h2, h3, h4, h5, h6⟩ := hh
    exact ⟨b1, b2, b3, h0, h1, h2, h3, hk h1 h4, hk h2 h5, hk h3 h6⟩
  have mn : ∀ {f : Wd} {v : Value}, MnG w.heap.size B z f v → MnF z z.heap.size B M f v := fun {f v} hh => by
    rcases hh with ⟨e, h⟩ | ⟨e, h⟩ | ⟨e, h⟩ | ⟨e, h⟩ | ⟨e, h⟩ | ⟨e, h⟩ | ⟨e, h⟩ | ⟨e, h⟩ | ⟨e, h⟩ | ⟨e, h⟩ | ⟨e, h⟩
    · exact .inl ⟨e, nm h⟩
    · exact .inr (.inl ⟨e, nm h⟩)
    · exact .inr (.inr (.inl ⟨e, nu h⟩))
    · exact .inr (.inr (.inr (.inl ⟨e, nu h⟩)))
    · exact .inr (.inr (.inr (.inr (.inl ⟨e, nu h⟩))))
    · exact .inr (.inr (.inr (.inr (.inr (.inl ⟨e, nu h⟩)))))
    · exact .inr (.inr (.inr (.inr (.inr (.inr (.inl ⟨e, nu h⟩))))))
    · exact .inr (.inr (.inr (.inr (.inr (.inr (.inr (.inl ⟨e, h⟩)))))))
    · exact .inr (.inr (.inr (.inr (.inr (.inr (.inr (.inr (.inl ⟨e, h⟩))))))))
    · exact .inr (.inr (.inr (.inr (.inr (.inr (.inr (.inr (.inr (.inl ⟨e, h⟩)))))))))
    · exact .inr (.inr (.inr (.inr (.inr (.inr (.inr (.inr (.inr (.inr ⟨e, h⟩)))))))))
  have kn : ∀ {j : Nat} {f : Wd}, insK j = some f → f ∈ tenK ∨ f = kFie := fun {j f} hj => by
    unfold insK at hj
    split at hj <;> first | (cases hj; decide) | cases hj
  refine ⟨h.at_, ⟨(Array.getElem?_eq_some_iff.1 h.at_).1, by have := h.lo; omega, by have := h.lo; omega⟩, fun i e he => ?_, fun f hf => ?_, h.born, h.lt⟩
  · obtain ⟨j, f, h1, _, h3, h4⟩ := h.val i e he
    exact ⟨f, kn h1, h3, mn h4⟩
  · have : ∃ j, insK j = some f := by
      rcases hf with hf | hf
      · simp only [tenK, List.mem_cons, List.not_mem_nil, or_false] at hf
        rcases hf with rfl | rfl | rfl | rfl | rfl | rfl | rfl | rfl | rfl | rfl
        · exact ⟨5, rfl⟩
        · exact ⟨8, rfl⟩
        · exact ⟨11, rfl⟩
        · exact ⟨16, rfl⟩
        · exact ⟨21, rfl⟩
        · exact ⟨27, rfl⟩
        · exact ⟨32, rfl⟩
        · exact ⟨37, rfl⟩
        · exact ⟨42, rfl⟩
        · exact ⟨47, rfl⟩
      · subst hf; exact ⟨24, rfl⟩
    obtain ⟨j, hj⟩ := this
    exact h.has j f hj (hall j f hj)
/-- lines with room behind their words -/
def RowC (x : World) (g a : Nat) (L0 : Nat) (r : Lr) : Prop := x.cell? ⟨g, a, none⟩ = some (.int .i64 r.1) ∧ ∃ u, x.cell? ⟨g, a + 1, none⟩ = some u ∧ WdsAt L0 x u r.2
def RowsC (L0 : Nat) (x : World) (v : Value) (rs : List Lr) : Prop := (v = .slice none 0 0 ∧ rs = []) ∨ ∃ g o cap, v = .slice (some ⟨g, o, none⟩) rs.length cap ∧ (∀ j (h : j < rs.length), RowC x g (o + 2 * j) L0 rs[j]) ∧ g < L0
theorem WdsAt.below {L0 : Nat} {x y : World} {v : Value} {ws : List Wd} (h : WdsAt L0 x v ws) (hb : Below L0 x y) : WdsAt L0 y v ws := by
  rcases h with h | ⟨g, o, cap, h1, h2, h3, h4⟩
  · exact .inl h
  · exact .inr ⟨g, o, cap, h1, h2, fun j hj => (hb.cell (p := ⟨g, o + j, none⟩) h4).trans (h3 j hj), h4⟩
theorem RowsC.below {L0 : Nat} {x y : World} {v : Value} {rs : List Lr} (h : RowsC L0 x v rs) (hb : Below L0 x y) : RowsC L0 y v rs := by
  rcases h with h | ⟨g, o, cap, h1, h2, h3⟩
  · exact .inl h
  · refine .inr ⟨g, o, cap, h1, fun j hj => ?_, h3⟩
    obtain ⟨q1, u, q2, q3⟩ := h2 j hj
    exact ⟨(hb.cell (p := ⟨g, o + 2 * j, none⟩) h3).trans q1, u, (hb.cell (p := ⟨g, o + 2 * j + 1, none⟩) h3).trans q2, q3.below hb⟩
/-- what is left to do -/
def LeftR (d : Dv) (seen : List Wd) (rs : List Lr) (T : Dv × Int × Nat) : Prop := goM d seen rs = T
theorem LeftR.bad {d : Dv} {seen : List Wd} {r : Lr} {rs : List Lr} {T : Dv × Int × Nat} (h : LeftR d seen (r :: rs) T) {n : Nat} (hn : stepM d seen r.2 = .error n) : T = (dv0, r.1, n) := by
  unfold LeftR at h; rw [← h, goM, hn]
theorem LeftR.good {d d' : Dv} {seen : List Wd} {r : Lr} {rs : List Lr} {T : Dv × Int × Nat} (h : LeftR d seen (r :: rs) T) (hn : stepM d seen r.2 = .ok d') : LeftR d' (seen ++ [r.2.headD []]) rs T := by
  unfold LeftR at *; rw [← h, goM, hn]
theorem LeftR.fin {d : Dv} {seen : List Wd} {T : Dv × Int × Nat} (h : LeftR d seen [] T) : T = if lackB seen = true then (dv0, 0, 9) else (d, 0, 0) := h.symm
/-- what is asked of Read -/
def ReadQ (w : World) (T : Dv × Int × Nat) (e : Ending) (y : World) : Prop := ∃ fv qv, e = .returned (.tuple #[dvV T.1 fv qv, .int .i64 T.2.1, .int .i64 ((T.2.2 : Nat) : Int)]) ∧ FldsAt y fv T.1.fs ∧ BytesAt y qv T.1.rq ∧ Below w.heap.size w y ∧ (∀ g, fv.ownBlock = some g → w.heap.size ≤ g) ∧ ∀ g, qv.ownBlock = some g → w.heap.size ≤ g
end Go.Proofs.YtagkgneijdbkoaaDoor
/-
  A device that is returned: it lies in a block of its own (layer 8). No conditions but those that each says.
-/
namespace Go.Proofs.YtagkgneijdbkoaaDoor
open Go.RowKit
set_option linter.unusedVariables false

theorem results_cell_tmp2 {fn : Func} {p u v : Tmp} {ty : TypeId} (h : fn.results = #[.cell p ty, .tmp u, .tmp v]) (tmps : Array Value) (P : Program) (w : World) :
    (results fn tmps).run P w =
      ((asAddr (tmps.getD p undef)).run P w).andThen fun a w1 => ((loadVar ty a).run P w1).andThen fun x w2 => .ok (.tuple #[x, tmps.getD u undef, tmps.getD v undef]) w2 := by
  simp only [results, h]
  simp [Sem.run_bind, Result.andThen]
theorem res_dev3 {fn : Func} {p u v : Tmp} (h : fn.results = #[.cell p 26, .tmp u, .tmp v]) {tmps : Array Value} {w : World} {b : Nat} {v0 v1 v2 v3 v4 v5 v6 v7 v8 v9 v10 v11 e1 e2 : Value}
    (hp : tmps.getD p undef = .pointer (some ⟨b, 0, none⟩)) (hu : tmps.getD u undef = e1) (hv : tmps.getD v undef = e2)
    (hc : w.heap[b]? = some (.cells #[v0, v1, v2, v3, v4, v5, v6, v7, v8, v9, v10, v11] 26 (0, 0))) :
    (results fn tmps).run Tryd.prog w = .ok (.tuple #[.agg #[v0, v1, v2, v3, v4, v5, v6, v7, v8, v9, v10, v11], e1, e2]) w := by
  have c := rd_cell hc
  have c0 := (c 0).1
  have c1 := (c 1).1
  have c2 := (c 2).1
  have c3 := (c 3).1
  have c4 := (c 4).1
  have c5 := (c 5).1
  have c6 := (c 6).1
  have c7 := (c 7).1
  have c8 := (c 8).1
  have c9 := (c 9).1
  have c10 := (c 10).1
  have c11 := (c 11).1
  simp only [List.getElem?_toArray, List.getElem?_cons_zero, List.getElem?_cons_succ] at c0 c1 c2 c3 c4 c5 c6 c7 c8 c9 c10 c11
  rw [results_cell_tmp2 h, hp, hu, hv]
  simp only [asAddr]
  simp [go_sem, Result.andThen, c0, c1, c2, c3, c4, c5, c6, c7, c8, c9, c10, c11]
/-- twelve cells are written -/
def put12 (y : World) (R : Nat) (v0 v1 v2 v3 v4 v5 v6 v7 v8 v9 v10 v11 : Value) : World := (((((((((((y.setCell ⟨R, 0, none⟩ v0).setCell ⟨R, 1, none⟩ v1).setCell ⟨R, 2, none⟩ v2).setCell ⟨R, 3, none⟩ v3).setCell ⟨R, 4, none⟩ v4).setCell ⟨R, 5, none⟩ v5).setCell ⟨R, 6, none⟩ v6).setCell ⟨R, 7, none⟩ v7).setCell ⟨R, 8, none⟩ v8).setCell ⟨R, 9, none⟩ v9).setCell ⟨R, 10, none⟩ v10).setCell ⟨R, 11, none⟩ v11
theorem put12_at {y : World} {R : Nat} {a0 a1 a2 a3 a4 a5 a6 a7 a8 a9 a10 a11 : Value} {t : TypeId} (h : y.heap[R]? = some (.cells #[a0, a1, a2, a3, a4, a5, a6, a7, a8, a9, a10, a11] t (0, 0))) (v0 v1 v2 v3 v4 v5 v6 v7 v8 v9 v10 v11 : Value) :
    (put12 y R v0 v1 v2 v3 v4 v5 v6 v7 v8 v9 v10 v11).heap[R]? = some (.cells #[v0, v1, v2, v3, v4, v5, v6, v7, v8, v9, v10, v11] t (0, 0)) := by
  unfold put12
  refine (rd_set (rd_set (rd_set (rd_set (rd_set (rd_set (rd_set (rd_set (rd_set (rd_set (rd_set (rd_set h 0 v0) 1 v1) 2 v2) 3 v3) 4 v4) 5 v5) 6 v6) 7 v7) 8 v8) 9 v9) 10 v10) 11 v11).trans ?_
  simp only [List.setIfInBounds_toArray, List.set_cons_zero, List.set_cons_succ]
theorem put12_below {w y : World} {L R : Nat} (h : Below L w y) (hR : L ≤ R) (v0 v1 v2 v3 v4 v5 v6 v7 v8 v9 v10 v11 : Value) : Below L w (put12 y R v0 v1 v2 v3 v4 v5 v6 v7 v8 v9 v10 v11) := by
  unfold put12
  repeat (refine Below.setCell ?_ hR _)
  exact h
theorem put12_off {y : World} {R k : Nat} (hk : k ≠ R) (v0 v1 v2 v3 v4 v5 v6 v7 v8 v9 v10 v11 : Value) : (put12 y R v0 v1 v2 v3 v4 v5 v6 v7 v8 v9 v10 v11).heap[k]? = y.heap[k]? := by
  unfold put12
  simp only [Below.heap_setCell _ _ _ _ (show k ≠ (⟨R, _, none⟩ : Addr).block from hk)]
theorem fdCs_get : ∀ (fs : List Fd) (j k : Nat) (h : j < fs.length), k < 9 → (fdCs fs)[9 * j + k]? = (fdC fs[j])[k]?
  | [], j, k, h, _ => by cases h
  | f :: fs, 0, k, h, hk => by
    unfold fdCs
    rw [List.flatMap_cons, Nat.mul_zero, Nat.zero_add, List.getElem?_append_left (by rw [fdC_len]; exact hk)]
    rfl
  | f :: fs, j + 1, k, h, hk => by
    have ih := fdCs_get fs j k (by simpa using h) hk
    unfold fdCs at *
    rw [List.flatMap_cons, List.getElem?_append_right (by rw [fdC_len]; omega), fdC_len, show 9 * (j + 1) + k - 9 = 9 * j + k by omega, ih]
    rfl
theorem flds_own {x : World} {N : Nat} {fv : Value} {fs : List Fd} (h : x.ownsRow N 56 9 fv fs.length (fdCs fs)) : FldsAt x fv fs := by
  rcases own_slice h with ⟨e, hn⟩ | ⟨g, cap, e, _, hg⟩
  · exact .inl ⟨e, List.length_eq_zero_iff.1 hn⟩
  · refine .inr ⟨g, 0, cap, e, fun j hj k v hv => ?_, hg⟩
    have hk : k < 9 := by
      have := (List.getElem?_eq_some_iff.1 hv).1
      rwa [fdC_len] at this
    have k2 := h
    rw [e] at k2
    rw [Nat.zero_add, World.ownsRow.cellAt k2 (9 * j + k) (by omega), fdCs_get fs j k hj hk]
    exact hv
theorem step_err {d : Dv} {seen : List Wd} {ws : List Wd} {n : Nat} (h : stepM d seen ws = .error n) : n = 6 ∨ n = 7 ∨ n = 8 := by
  unfold stepM at h
  split at h
  · cases h; exact .inl rfl
  · split at h
    · cases h; exact .inl rfl
    split at h
    · cases h; exact .inr (.inr rfl)
    split at h
    · cases h; exact .inr (.inl rfl)
    split at h
    · cases h; exact .inl rfl
    · cases h
end Go.Proofs.YtagkgneijdbkoaaDoor
/-
  What is kept while lines are gone through; regions that hand an error back (layer 8). No conditions but those that each says.
-/
namespace Go.Proofs.YtagkgneijdbkoaaDoor
open Go.RowKit
set_option linter.unusedVariables false

abbrev nilS : Value := .slice none 0 0
abbrev dz : Array Value := #[.string ⟨#[]⟩, .int .i64 0, .int .i64 0, .int .i64 0, .int .i64 0, .string ⟨#[]⟩, .slice none 0 0, .slice none 0 0, .int .i64 0, .int .i64 0, .int .i64 0, .int .i64 0]
/-- what is kept while lines are gone through -/
structure RdSt (w : World) (R B M N G : Nat) (ms : Array MapEntry) (mc : Nat) (x : World) (d : Dv) (fv qv : Value) (seen : List Wd) : Prop where
  st : DsSt N B M x d fv qv seen
  mn : MeanOk N B M x G ms mc
  sn : SeenOk d seen
  rc : x.heap[R]? = some (.cells dz 26 (0, 0))
  b : Below w.heap.size w x
structure RdN (w : World) (R B M N : Nat) : Prop where
  R0 : w.heap.size ≤ R
  M0 : w.heap.size ≤ M
  B0 : w.heap.size ≤ B
  RN : R < N
  MN : M < N
  BN : B < N
  RB : R ≠ B
  RM : R ≠ M
  BM : B ≠ M
theorem Fr.below {w x y : World} {B M : Nat} {r : Option Nat} {L : Nat} (h : Fr B M r x y) (hb : Below L w x) (hL : L ≤ x.heap.size) (hB : L ≤ B) (hM : L ≤ M) (hr : ∀ j, j < L → some j ≠ r) : Below L w y :=
  ⟨h.os.trans hb.os, h.tape.trans hb.tape, h.output.trans hb.output, Nat.le_trans hb.size h.size, fun k hk => (h.block k (by omega) (by omega) (by omega) (hr k hk)).trans (hb.block k hk)⟩
theorem RdSt.step {w : World} {R B M N G : Nat} {ms : Array MapEntry} {mc : Nat} {x y : World} {d d' : Dv} {fv qv fv' qv' : Value} {seen seen' : List Wd} (nn : RdN w R B M N) (h : RdSt w R B M N G ms mc x d fv qv seen) (hf : Fr B M fv.ownBlock x y) (hs : DsSt N B M y d' fv' qv' seen') (hsn : SeenOk d' seen') : RdSt w R B M N G ms mc y d' fv' qv' seen' := by
  have hr : ∀ j, j < N → some j ≠ fv.ownBlock := fun j hj => own_ge h.st.ro hj
  refine ⟨hs, h.mn.fr hf hr, hsn, ?_, hf.below h.b h.b.size nn.B0 nn.M0 (fun j hj => hr j (by have := nn.R0; have := nn.RN; omega))⟩
  exact (hf.block R (Array.getElem?_eq_some_iff.1 h.rc).1 nn.RB nn.RM (hr R nn.RN)).trans h.rc
theorem RdSt.below {w : World} {R B M N G : Nat} {ms : Array MapEntry} {mc : Nat} {x y : World} {d : Dv} {fv qv : Value} {seen : List Wd} (nn : RdN w R B M N) (h : RdSt w R B M N G ms mc x d fv qv seen) (hb : Below x.heap.size x y) : RdSt w R B M N G ms mc y d fv qv seen :=
  h.step nn (.of_below hb) (h.st.below nn.BN nn.MN hb) h.sn
def TkC (R B M N G : Nat) (ms : Array MapEntry) (mc : Nat) (w : World) : Prop := ∀ (x : World) (d : Dv) (fv qv : Value) (seen : List Wd), RdSt w R B M N G ms mc x d fv qv seen → (seen.length : Int) ≤ 5000 → ∀ (ws : List Wd) (vw : Value), WdsAt w.heap.size x vw ws → (∀ z ∈ ws, (z.length : Int) ≤ 5000) → (ws.length : Int) ≤ 5000 → Calls Tryd.prog 20 #[.pointer (some ⟨B, 0, none⟩), .map (some G), vw] x (TakeQ N B M x d fv qv seen ws)
theorem tkC {R B M N G : Nat} {ms : Array MapEntry} {mc : Nat} {w : World} (nn : RdN w R B M N) : TkC R B M N G ms mc w := fun x d fv qv seen h hsl ws vw hw hz hl => take_any nn.BN nn.MN nn.BM nn.B0 h.st h.mn h.sn hsl hw hz hl
def LaC (R B M N G : Nat) (ms : Array MapEntry) (mc : Nat) (w : World) : Prop := ∀ (x : World) (d : Dv) (fv qv : Value) (seen : List Wd), RdSt w R B M N G ms mc x d fv qv seen → (seen.length : Int) ≤ 5000 → Calls Tryd.prog 21 #[.pointer (some ⟨B, 0, none⟩), .map (some G)] x fun e y => e = .returned (.bool (lackB seen)) ∧ Below x.heap.size x y
theorem laC {R B M N G : Nat} {ms : Array MapEntry} {mc : Nat} {w : World} (nn : RdN w R B M N) : LaC R B M N G ms mc w := fun x d fv qv seen h hsl => lacks_any h.mn nn.BN nn.MN nn.BM h.st hsl
theorem map_under (w : World) (o : Obj) (b : Obj) (g : Nat) (h : w.heap[g]? = some o) : (w.alloc b).heap[g]? = some o := by
  have hg : g < w.heap.size := (Array.getElem?_eq_some_iff.1 h).1
  rw [show (w.alloc b).heap = w.heap.push b from rfl, Array.getElem?_push_lt hg, ← Array.getElem?_eq_getElem hg]; exact h
theorem own_off {x y : World} {N : Nat} {e : TypeId} {s : Nat} {v : Value} {n : Nat} {xs : List Value} (h : x.ownsRow N e s v n xs) (hk : ∀ k, N ≤ k → y.heap[k]? = x.heap[k]?) : y.ownsRow N e s v n xs := by
  refine ⟨h.1, ?_⟩
  rcases h.2 with h | ⟨g, cap, cur, h1, h2, h3, h4⟩
  · exact .inl h
  · exact .inr ⟨g, cap, cur, h1, h2, (hk g h2).trans h3, h4⟩
theorem rq_off {x y : World} {N : Nat} {fv qv : Value} {bs : List Nat} (h : RqAt N x fv qv bs) (hk : ∀ k, N ≤ k → y.heap[k]? = x.heap[k]?) : BytesAt y qv bs := by
  rcases h with h | ⟨g, o, cap, h1, h2, h3, h4, _⟩
  · exact .inl h
  · refine .inr ⟨g, o, cap, h1, fun j hj => ?_, ?_⟩
    · exact (World.cell?_of_block (a := ⟨g, o + j, none⟩) (hk g h4)).trans (h2 j hj)
    · have := hk g h4
      rw [Array.getElem?_eq_getElem h3] at this
      exact (Array.getElem?_eq_some_iff.1 this).1
theorem drew_cell (W : World) (a : Addr) : W.drew.cell? a = W.cell? a := rfl
theorem drew_heap (W : World) : W.drew.heap = W.heap := rfl
/-- the region that hands an error back: what its operations yield, what memory is -/
def errP (rb : Nat) (ln n : Int) (i : Nat) (v : Value) (z : World) : Prop :=
  match i with
  | 0 => v = .agg dz
  | 1 => v = .pointer (some ⟨rb, 0, none⟩)
  | 2 => v = .int .i64 ln
  | 3 => v = .int .i64 n
  | 5 => v = .int .i64 ln
  | 6 => v = .int .i64 n
  | _ => True
structure ErrW (y : World) (R rb : Nat) (ln : Int) (x : Array Bool) (z : World) : Prop where
  lr : z.cell? ⟨rb, 0, none⟩ = some (.int .i64 ln)
  f0 : x.getD 4 false = false → z = y.drew
  f1 : x.getD 4 false = true → z = (put12 y R (.string ⟨#[]⟩) (.int .i64 0) (.int .i64 0) (.int .i64 0) (.int .i64 0) (.string ⟨#[]⟩) (.slice none 0 0) (.slice none 0 0) (.int .i64 0) (.int .i64 0) (.int .i64 0) (.int .i64 0)).drew
theorem ErrW.other {y : World} {R rb : Nat} {ln : Int} {x : Array Bool} {z : World} (h : ErrW y R rb ln x z) {i : Nat} (hi : i ≠ 4) : ErrW y R rb ln (x.setIfInBounds i true) z :=
  ⟨h.lr, by rw [getD_set_ne false hi]; exact h.f0, by rw [getD_set_ne false hi]; exact h.f1⟩
theorem ErrW.stored {y : World} {R rb : Nat} {ln : Int} {x : Array Bool} {z : World} (h : ErrW y R rb ln x z) (hr : rb ≠ R) (hx : x.getD 4 false = false) (hs : 4 < x.size) : ErrW y R rb ln (x.setIfInBounds 4 true) (put12 y R (.string ⟨#[]⟩) (.int .i64 0) (.int .i64 0) (.int .i64 0) (.int .i64 0) (.string ⟨#[]⟩) (.slice none 0 0) (.slice none 0 0) (.int .i64 0) (.int .i64 0) (.int .i64 0) (.int .i64 0)).drew := by
  have e := getD_set_at hs
  have hl := h.lr
  rw [h.f0 hx, drew_cell] at hl
  have k : (put12 y R (.string ⟨#[]⟩) (.int .i64 0) (.int .i64 0) (.int .i64 0) (.int .i64 0) (.string ⟨#[]⟩) (.slice none 0 0) (.slice none 0 0) (.int .i64 0) (.int .i64 0) (.int .i64 0) (.int .i64 0)).cell? ⟨rb, 0, none⟩ = some (.int .i64 ln) := (World.cell?_of_block (a := ⟨rb, 0, none⟩) (put12_off (y := y) hr (.string ⟨#[]⟩) (.int .i64 0) (.int .i64 0) (.int .i64 0) (.int .i64 0) (.string ⟨#[]⟩) (.slice none 0 0) (.slice none 0 0) (.int .i64 0) (.int .i64 0) (.int .i64 0) (.int .i64 0))).trans hl
  refine ⟨by rw [drew_cell]; exact k, fun h4 => ?_, fun _ => rfl⟩
  · rw [e] at h4; cases h4
theorem errK {rb : Nat} {ln n : Int} {x : Array Bool} {z z' : World} : RegK (errP rb ln n) x z z' := fun j v _ h => by unfold errP at *; exact h
theorem sn_len {d : Dv} {seen : List Wd} (h : SeenOk d seen) : seen.length ≤ 18 := by
  have h1 : (notF seen).length ≤ 10 := nodup_sub (notF seen) tenK h.nd (fun x hx => by
    have hm := List.mem_filter.1 hx
    exact (h.sub x hm.1).resolve_right (by simpa using hm.2))
  have h2 : ∀ l : List Wd, l.length = (notF l).length + l.count kFie := fun l => by
    induction l with
    | nil => rfl
    | cons a l ih =>
      unfold notF at *
      by_cases ha : a = kFie
      · subst ha; simp; omega
      · simp [ha]; omega
  have := h2 seen
  have := h.cnt
  have := h.le
  omega
end Go.Proofs.YtagkgneijdbkoaaDoor
/-
  What the program's own Read returns of any lines (layer 8). Conditions: the lines lie in memory that was there before; at most 4500 lines, 4500 words each, 5000 bytes a word.
-/
namespace Go.Proofs.YtagkgneijdbkoaaDoor
open Go.RowKit
set_option linter.unusedVariables false

set_option maxRecDepth 100000 in
set_option maxHeartbeats 8000000 in
theorem dread_any (rs : List Lr) (v : Value) (w : World) (hv : RowsC w.heap.size w v rs) (hn : (rs.length : Int) ≤ 4500) (hwl : ∀ r ∈ rs, (r.2.length : Int) ≤ 4500) (hz : ∀ r ∈ rs, ∀ z ∈ r.2, (z.length : Int) ≤ 5000) :
    Calls Tryd.prog 13 #[v] w (ReadQ w (readM rs)) := by
  have L0 : Hid (LeftR dv0 [] rs (readM rs)) := rfl
  generalize readM rs = T at *
  have hmm := @run_makeMap Tryd.prog
  have mk : Hid (∀ (B : Nat) (w : World), Calls Tryd.prog 19 #[.pointer (some ⟨B, 0, none⟩)] w fun e z => ∃ G ms c x, e = .returned (.map (some G)) ∧ MkMap w.heap.size B x z G ms c ∧ (∀ j f, insK j = some f → x.getD j false = true) ∧ Below w.heap.size w z) := meanings_any
  obtain ⟨p, cap, rfl⟩ : ∃ p cap, v = .slice p rs.length cap := by
    rcases hv with ⟨rfl, rfl⟩ | ⟨g, o, cap, rfl, _⟩
    · exact ⟨_, _, rfl⟩
    · exact ⟨_, _, rfl⟩
  replace hv : Hid (RowsC w.heap.size w (.slice p rs.length cap) rs) := hv
  replace hwl : Hid (∀ r ∈ rs, (r.2.length : Int) ≤ 4500) := hwl
  replace hz : Hid (∀ r ∈ rs, ∀ z ∈ r.2, (z.length : Int) ≤ 5000) := hz
  obtain ⟨len, hlen⟩ : ∃ len, rs.length = len := ⟨_, rfl⟩
  rw [hlen] at hn hv ⊢
  replace hlen : Hid (rs.length = len) := hlen
  go_enter Tryd.func13, Tryd.ntmps13
  go_upto_region 2 with fail
  have hR1 : (((w.alloc (.cells dz 26)).alloc (.map #[] 0)).alloc (.cells (rdA dv0 nilS nilS (w.heap.size + 1)) 66)).heap[w.heap.size]? = some (.cells dz 26 (0, 0)) := map_under _ _ _ _ (map_under _ _ _ _ (World.alloc_heap_new w _))
  have hM1 : (((w.alloc (.cells dz 26)).alloc (.map #[] 0)).alloc (.cells (rdA dv0 nilS nilS (w.heap.size + 1)) 66)).heap[w.heap.size + 1]? = some (.map #[] 0) := by
    have k := map_under _ _ (.cells (rdA dv0 nilS nilS (w.heap.size + 1)) 66) _ (World.alloc_heap_new (w.alloc (.cells dz 26)) (.map #[] 0))
    rwa [World.size_alloc] at k
  have hB1 : (((w.alloc (.cells dz 26)).alloc (.map #[] 0)).alloc (.cells (rdA dv0 nilS nilS (w.heap.size + 1)) 66)).heap[w.heap.size + 1 + 1]? = some (.cells (rdA dv0 nilS nilS (w.heap.size + 1)) 66 (0, 0)) := by
    have k := World.alloc_heap_new ((w.alloc (.cells dz 26)).alloc (.map #[] 0)) (.cells (rdA dv0 nilS nilS (w.heap.size + 1)) 66)
    rwa [World.size_alloc, World.size_alloc] at k
  have sz1 : (((w.alloc (.cells dz 26)).alloc (.map #[] 0)).alloc (.cells (rdA dv0 nilS nilS (w.heap.size + 1)) 66)).heap.size = w.heap.size + 1 + 1 + 1 := by rw [World.size_alloc, World.size_alloc, World.size_alloc]
  have b1 : Below w.heap.size w (((w.alloc (.cells dz 26)).alloc (.map #[] 0)).alloc (.cells (rdA dv0 nilS nilS (w.heap.size + 1)) 66)) := (((Below.refl _ _).alloc (Nat.le_refl _) _).alloc (by rw [World.size_alloc]; omega) _).alloc (by rw [World.size_alloc, World.size_alloc]; omega) _
  change Code.wp Tryd.prog _ _ _ (((w.alloc (.cells dz 26)).alloc (.map #[] 0)).alloc (.cells (rdA dv0 nilS nilS (w.heap.size + 1)) 66))
  generalize ((w.alloc (.cells dz 26)).alloc (.map #[] 0)).alloc (.cells (rdA dv0 nilS nilS (w.heap.size + 1)) 66) = w1 at *
  go_wp2_with fail
  refine (mk.out _ _).mono ?_
  rintro e z ⟨G, ms, mc, xx, rfl, hmk, hall, hbz⟩
  have nn : Hid (RdN w w.heap.size (w.heap.size + 1 + 1) (w.heap.size + 1) z.heap.size) := by
    have := hbz.size
    exact ⟨Nat.le_refl _, by omega, by omega, by omega, by omega, by omega, by omega, by omega, by omega⟩
  have S0 : Hid (RdSt w w.heap.size (w.heap.size + 1 + 1) (w.heap.size + 1) z.heap.size G ms mc z dv0 nilS nilS []) := by
    refine ⟨⟨Nat.le_refl _, (hbz.block _ (by omega)).trans hB1, ⟨#[], 0, (hbz.block _ (by omega)).trans hM1, LnOk.first⟩, World.ownsRow_nil _ _ _ _, .inl ⟨rfl, rfl⟩⟩, mean_ok hmk hall (by omega) (by omega), SeenOk.first, (hbz.block _ (by omega)).trans hR1, ?_⟩
    exact b1.trans (hbz.mono (by omega))
  have tk : Hid (TkC w.heap.size (w.heap.size + 1 + 1) (w.heap.size + 1) z.heap.size G ms mc w) := tkC nn.out
  have la : Hid (LaC w.heap.size (w.heap.size + 1 + 1) (w.heap.size + 1) z.heap.size G ms mc w) := laC nn.out
  clear hmk hall hbz hR1 hM1 hB1 sz1 b1 mk
  generalize z.heap.size = N at *
  generalize w.heap.size + 1 + 1 = B at *
  generalize w.heap.size + 1 = M at *
  go_wp2
  go_loopw [17] (fun vi wr => ∃ (k : Nat) (d : Dv) (fv qv : Value) (seen : List Wd), (k : Int) ≤ (len : Int) ∧ vi = .int .i64 (k : Int) ∧ Hid (RdSt w w.heap.size B M N G ms mc wr d fv qv seen) ∧ Hid (LeftR d seen (rs.drop k) T)) (fun vi wr => ((len : Int) - intOf vi).toNat)
  case atStart => exact ⟨0, dv0, nilS, nilS, [], by omega, rfl, S0, L0⟩
  case round =>
    obtain ⟨k, d, fv, qv, seen, hk, rfl, st, left⟩ := hrel
    clear S0 L0
    have hsl : (seen.length : Int) ≤ 5000 := by have := sn_len st.out.sn; omega
    by_cases hlt : k < len
    · have hki : (k : Int) < (len : Int) := by omega
      have hkr : k < rs.length := by have := hlen.out; omega
      have rw1 := hv.out.below st.out.b
      rcases rw1 with ⟨_, hnil⟩ | ⟨g, o, cap', e1, hrow, hg⟩
      · rw [hnil] at hkr; cases hkr
      injection e1 with e1 e2 e3
      subst e1
      subst e3
      clear e2
      obtain ⟨q0, u, q1, q2⟩ := hrow k hkr
      rw [Nat.mul_comm 2 k] at q0 q1
      have lf := left.out
      rw [List.drop_eq_getElem_cons hkr] at lf
      obtain ⟨r, hr⟩ : ∃ r, rs[k] = r := ⟨_, rfl⟩
      have hrm : r ∈ rs := by rw [← hr]; exact List.getElem_mem hkr
      rw [hr] at q0 q2 lf
      have hwr := hwl.out r hrm
      have hzr := hz.out r hrm
      obtain ⟨ln, ws⟩ := r
      simp only at q0 q2 hwr hzr
      obtain ⟨pu, cu, rfl⟩ := q2.form
      have ba : Below wr.heap.size wr (wr.alloc (.cells #[.int .i64 ln, .slice pu ws.length cu] 50)) := (Below.refl _ _).alloc (Nat.le_refl _) _
      have st2 : Hid (RdSt w w.heap.size B M N G ms mc (wr.alloc (.cells #[.int .i64 ln, .slice pu ws.length cu] 50)) d fv qv seen) := st.out.below nn.out ba
      have hw2 : Hid (WdsAt w.heap.size (wr.alloc (.cells #[.int .i64 ln, .slice pu ws.length cu] 50)) (.slice pu ws.length cu) ws) := q2.below (ba.mono st.out.b.size)
      have cl : Hid ((wr.alloc (.cells #[.int .i64 ln, .slice pu ws.length cu] 50)).cell? ⟨wr.heap.size, 0, none⟩ = some (.int .i64 ln)) := by unfold Hid; simp
      have ow := World.ownsRow.lt st.out.st.ro
      have nr : Hid (wr.heap.size ≠ B ∧ wr.heap.size ≠ M ∧ some wr.heap.size ≠ fv.ownBlock) := by
        have h1 := st.out.st.sz
        have h2 := nn.out.BN
        have h3 := nn.out.MN
        exact ⟨by omega, by omega, fun e => by have := (ow _ e.symm).2; omega⟩
      have nrb : Hid (N ≤ wr.heap.size) := st.out.st.sz
      replace lf : Hid (LeftR d seen ((ln, ws) :: rs.drop (k + 1)) T) := lf
      have tk2 : Hid (Calls Tryd.prog 20 #[.pointer (some ⟨B, 0, none⟩), .map (some G), .slice pu ws.length cu] (wr.alloc (.cells #[.int .i64 ln, .slice pu ws.length cu] 50)) (TakeQ N B M (wr.alloc (.cells #[.int .i64 ln, .slice pu ws.length cu] 50)) d fv qv seen ws)) := tk.out _ _ _ _ _ st2.out hsl ws _ hw2.out hzr (by omega)
      have wk : IntKind.i64.wrap ((k : Int) + 1) = (k : Int) + 1 := by simp only [IntKind.wrap_i64]; omega
      have hkb : 0 ≤ (k : Int) := by omega
      clear st hrow ow ba q2 hw2 left hr hzr hrm
      go_upto_region 6 with fail
      generalize hwx : wr.alloc (.cells #[.int .i64 ln, .slice pu ws.length cu] 50) = wx at *
      have cl1 : wx.cell? ⟨wr.heap.size, 1, none⟩ = some (.slice pu ws.length cu) := by rw [← hwx]; simp
      clear hwx
      generalize wr.heap.size = rb at *
      go_wp2_with fail
      refine tk2.out.mono ?_
      rintro e y ⟨rfl, hfr, hst⟩
      clear tk2 q0 q1 cl1
      cases hs : stepM d seen ws with
      | error n =>
        have fin : Hid (T = (dv0, ln, n)) := lf.out.bad hs
        have hn3 := step_err hs
        have rb1 : rb ≠ w.heap.size := by have := nn.out.RN; have := nrb.out; omega
        have rb2 : w.heap.size ≠ rb := fun e => rb1 e.symm
        have lr := hfr.cell cl.out nr.out.1 nr.out.2.1 nr.out.2.2
        have rcY : y.heap[w.heap.size]? = some (.cells dz 26 (0, 0)) := (hfr.block _ (Array.getElem?_eq_some_iff.1 st2.out.rc).1 nn.out.RB nn.out.RM (own_ge st2.out.st.ro nn.out.RN)).trans st2.out.rc
        have bY : Hid (Below w.heap.size w y) := hfr.below st2.out.b st2.out.b.size nn.out.B0 nn.out.M0 (fun j hj => own_ge st2.out.st.ro (by have := nn.out.RN; omega))
        have hne : (((errN (Except.error n) : Nat) : Int) != 0) = true := by rw [bne_iff_ne]; show ((n : Nat) : Int) ≠ 0; omega
        have en : ((errN (Except.error n) : Nat) : Int) = (n : Int) := rfl
        rw [en] at hne ⊢
        obtain ⟨c0, f0⟩ := rd_cell rcY 0
        obtain ⟨c1, f1⟩ := rd_cell rcY 1
        obtain ⟨c2, f2⟩ := rd_cell rcY 2
        obtain ⟨c3, f3⟩ := rd_cell rcY 3
        obtain ⟨c4, f4⟩ := rd_cell rcY 4
        obtain ⟨c5, f5⟩ := rd_cell rcY 5
        obtain ⟨c6, f6⟩ := rd_cell rcY 6
        obtain ⟨c7, f7⟩ := rd_cell rcY 7
        obtain ⟨c8, f8⟩ := rd_cell rcY 8
        obtain ⟨c9, f9⟩ := rd_cell rcY 9
        obtain ⟨c10, f10⟩ := rd_cell rcY 10
        obtain ⟨c11, f11⟩ := rd_cell rcY 11
        simp only [List.getElem?_toArray, List.getElem?_cons_zero, List.getElem?_cons_succ] at c0 c1 c2 c3 c4 c5 c6 c7 c8 c9 c10 c11
        clear hst hfr cl st2 lf tk la hs
        replace rcY : Hid (y.heap[w.heap.size]? = some (.cells dz 26 (0, 0))) := rcY
        go_upto_region 8 with fail
        refine region_props (errP rb ln (n : Int)) (ErrW y w.heap.size rb ln) (by kernel_rfl) (by kernel_rfl) ?_ ?_ ?_
        · intro x a z i op ho hI haf hx hxi hW
          have hi : i < 7 := (List.getElem?_eq_some_iff.1 ho).1
          have xi := getD_false hxi
          match i, hi with
          | 0, _ =>
            obtain rfl := Option.some.inj (show some _ = some op from ho)
            go_simp
            exact ⟨_, rfl, rfl, RegK.refl _ _ _, hW.other (by decide)⟩
          | 1, _ =>
            obtain rfl := Option.some.inj (show some _ = some op from ho)
            have e1 : a.tmps.getD 8 undef = .pointer (some ⟨rb, 0, none⟩) := (hI.was (by kernel_rfl)).trans rfl
            go_simp
            exact ⟨_, rfl, rfl, RegK.refl _ _ _, hW.other (by decide)⟩
          | 2, _ =>
            obtain rfl := Option.some.inj (show some _ = some op from ho)
            have e1 : a.tmps.getD 29 undef = .pointer (some ⟨rb, 0, none⟩) := hI.val 1 _ 29 rfl rfl (dep_at haf (by kernel_rfl))
            have l1 := hW.lr
            go_simp
            exact ⟨_, rfl, rfl, RegK.refl _ _ _, hW.other (by decide)⟩
          | 3, _ =>
            obtain rfl := Option.some.inj (show some _ = some op from ho)
            have e1 : a.tmps.getD 9 undef = .int .i64 (n : Int) := (hI.was (by kernel_rfl)).trans rfl
            go_simp
            exact ⟨_, rfl, rfl, RegK.refl _ _ _, hW.other (by decide)⟩
          | 4, _ =>
            obtain rfl := Option.some.inj (show some _ = some op from ho)
            have e1 : a.tmps.getD 28 undef = .agg dz := hI.val 0 _ 28 rfl rfl (dep_at haf (by kernel_rfl))
            have e2 : a.tmps.getD 2 undef = .pointer (some ⟨w.heap.size, 0, none⟩) := (hI.was (by kernel_rfl)).trans rfl
            have W' := hW.stored rb1 xi (by rw [hx]; decide)
            obtain rfl := hW.f0 xi
            go_simp
            exact ⟨errK, W'⟩
          | 5, _ =>
            obtain rfl := Option.some.inj (show some _ = some op from ho)
            have e1 : a.tmps.getD 30 undef = .int .i64 ln := hI.val 2 _ 30 rfl rfl (dep_at haf (by kernel_rfl))
            go_simp
            exact ⟨_, rfl, rfl, RegK.refl _ _ _, hW.other (by decide)⟩
          | 6, _ =>
            obtain rfl := Option.some.inj (show some _ = some op from ho)
            have e1 : a.tmps.getD 31 undef = .int .i64 (n : Int) := hI.val 3 _ 31 rfl rfl (dep_at haf (by kernel_rfl))
            go_simp
            exact ⟨_, rfl, rfl, RegK.refl _ _ _, hW.other (by decide)⟩
        · intro x a z hx hall hI hW
          obtain rfl := hW.f1 (hall 4 (by decide))
          have r2 : a.tmps.getD 2 undef = .pointer (some ⟨w.heap.size, 0, none⟩) := (hI.was (by kernel_rfl)).trans rfl
          have r3 : a.tmps.getD 3 undef = .int .i64 ln := hI.val 5 _ 3 rfl rfl (hall 5 (by decide))
          have r4 : a.tmps.getD 4 undef = .int .i64 (n : Int) := hI.val 6 _ 4 rfl rfl (hall 6 (by decide))
          have pa : (put12 y w.heap.size (.string ⟨#[]⟩) (.int .i64 0) (.int .i64 0) (.int .i64 0) (.int .i64 0) (.string ⟨#[]⟩) (.slice none 0 0) (.slice none 0 0) (.int .i64 0) (.int .i64 0) (.int .i64 0) (.int .i64 0)).drew.heap[w.heap.size]? = some (.cells dz 26 (0, 0)) := by rw [drew_heap]; exact put12_at (y := y) rcY.out (.string ⟨#[]⟩) (.int .i64 0) (.int .i64 0) (.int .i64 0) (.int .i64 0) (.string ⟨#[]⟩) (.slice none 0 0) (.slice none 0 0) (.int .i64 0) (.int .i64 0) (.int .i64 0) (.int .i64 0)
          have pb : Below w.heap.size w (put12 y w.heap.size (.string ⟨#[]⟩) (.int .i64 0) (.int .i64 0) (.int .i64 0) (.int .i64 0) (.string ⟨#[]⟩) (.slice none 0 0) (.slice none 0 0) (.int .i64 0) (.int .i64 0) (.int .i64 0) (.int .i64 0)).drew := (put12_below bY.out (Nat.le_refl w.heap.size) (.string ⟨#[]⟩) (.int .i64 0) (.int .i64 0) (.int .i64 0) (.int .i64 0) (.string ⟨#[]⟩) (.slice none 0 0) (.slice none 0 0) (.int .i64 0) (.int .i64 0) (.int .i64 0) (.int .i64 0)).drew
          have df := hI.dfr
          clear hI hW hall
          generalize (put12 y w.heap.size (.string ⟨#[]⟩) (.int .i64 0) (.int .i64 0) (.int .i64 0) (.int .i64 0) (.string ⟨#[]⟩) (.slice none 0 0) (.slice none 0 0) (.int .i64 0) (.int .i64 0) (.int .i64 0) (.int .i64 0)).drew = yy at *
          obtain ⟨TT, ds⟩ := a
          simp only at df r2 r3 r4
          subst df
          go_wp2
          refine bodyPost_ret (res_dev3 Tryd.results13 r2 r3 r4 pa) rfl ?_
          exact ⟨nilS, nilS, by rw [fin.out]; rfl, .inl ⟨rfl, by rw [fin.out]; rfl⟩, .inl ⟨rfl, by rw [fin.out]; rfl⟩, pb, fun g h => (by cases h), fun g h => (by cases h)⟩
        · exact ⟨lr, fun _ => rfl, fun h => (by simp at h)⟩
      | ok d' =>
        obtain ⟨fv', qv', s1, s2⟩ := hst d' hs
        have st3 : Hid (RdSt w w.heap.size B M N G ms mc y d' fv' qv' (seen ++ [ws.headD []])) := st2.out.step nn.out hfr s1 (st2.out.sn.step hs)
        have lf2 : Hid (LeftR d' (seen ++ [ws.headD []]) (rs.drop (k + 1)) T) := lf.out.good hs
        have en : ((errN (Except.ok d') : Nat) : Int) = 0 := rfl
        rw [en]
        clear hst hfr cl st2 lf tk la hs s1 s2
        go_wp2
        exact ⟨⟨k + 1, d', fv', qv', _, by omega, by simp, st3, lf2⟩, by simp [intOf]; omega⟩
    · obtain rfl : k = len := by omega
      have lf := left.out
      rw [List.drop_of_length_le (by have := hlen.out; omega)] at lf
      have fin : Hid (T = if lackB seen = true then (dv0, 0, 9) else (d, 0, 0)) := lf.fin
      clear tk left lf
      go_wp2_with fail
      refine (la.out _ _ _ _ _ st.out hsl).mono ?_
      rintro e y ⟨rfl, hb⟩
      have st2 := st.out.below nn.out hb
      have rcY := st2.rc
      have bY : Hid (Below w.heap.size w y) := st2.b
      obtain ⟨c0, f0⟩ := rd_cell rcY 0
      obtain ⟨c1, f1⟩ := rd_cell rcY 1
      obtain ⟨c2, f2⟩ := rd_cell rcY 2
      obtain ⟨c3, f3⟩ := rd_cell rcY 3
      obtain ⟨c4, f4⟩ := rd_cell rcY 4
      obtain ⟨c5, f5⟩ := rd_cell rcY 5
      obtain ⟨c6, f6⟩ := rd_cell rcY 6
      obtain ⟨c7, f7⟩ := rd_cell rcY 7
      obtain ⟨c8, f8⟩ := rd_cell rcY 8
      obtain ⟨c9, f9⟩ := rd_cell rcY 9
      obtain ⟨c10, f10⟩ := rd_cell rcY 10
      obtain ⟨c11, f11⟩ := rd_cell rcY 11
      simp only [List.getElem?_toArray, List.getElem?_cons_zero, List.getElem?_cons_succ] at c0 c1 c2 c3 c4 c5 c6 c7 c8 c9 c10 c11
      cases hl : lackB seen
      · rw [hl] at fin
        replace fin : Hid (T = (d, 0, 0)) := fin.out
        have FL : Hid (FldsAt y fv d.fs) := flds_own st2.st.ro
        have RQ : Hid (BytesAt y qv d.rq) := st2.st.rq.bytes
        have rdY := st2.st.rd
        have fN : Hid (∀ g, fv.ownBlock = some g → w.heap.size < g) := fun g e => by have := (World.ownsRow.lt st2.st.ro g e).1; have := nn.out.RN; omega
        have qN : Hid (RqAt N y fv qv d.rq) := st2.st.rq
        have qM : Hid (∀ g, qv.ownBlock = some g → w.heap.size ≤ g) := fun g e => by
          rcases st2.st.rq with ⟨h, _⟩ | ⟨g', o', cap', h, _, _, h4, _⟩
          · rw [h] at e; cases e
          · rw [h] at e
            have e2 : g' = g := Option.some.inj e
            have := nn.out.RN
            omega
        have oN : Hid (y.ownsRow N 56 9 fv d.fs.length (fdCs d.fs)) := st2.st.ro
        replace rcY : Hid (y.heap[w.heap.size]? = some (.cells dz 26 (0, 0))) := rcY
        have g0 := (rd_cell rdY 0).1
        have g1 := (rd_cell rdY 1).1
        have g2 := (rd_cell rdY 2).1
        have g3 := (rd_cell rdY 3).1
        have g4 := (rd_cell rdY 4).1
        have g5 := (rd_cell rdY 5).1
        have g6 := (rd_cell rdY 6).1
        have g7 := (rd_cell rdY 7).1
        have g8 := (rd_cell rdY 8).1
        have g9 := (rd_cell rdY 9).1
        have g10 := (rd_cell rdY 10).1
        have g11 := (rd_cell rdY 11).1
        simp only [List.getElem?_toArray, List.getElem?_cons_zero, List.getElem?_cons_succ] at g0 g1 g2 g3 g4 g5 g6 g7 g8 g9 g10 g11
        clear st st2 la hb rdY hl FL RQ
        obtain ⟨pf, nf, cf, rfl⟩ : ∃ p n c, fv = .slice p n c := by
          rcases own_slice oN.out with ⟨e, _⟩ | ⟨g, cap, e, _⟩
          · exact ⟨_, _, _, e⟩
          · exact ⟨_, _, _, e⟩
        obtain ⟨pq, nq, cq, rfl⟩ : ∃ p n c, qv = .slice p n c := by
          rcases qN.out with ⟨e, _⟩ | ⟨g, o, cap, e, _⟩
          · exact ⟨_, _, _, e⟩
          · exact ⟨_, _, _, e⟩
        go_wp2
        change bodyPost _ _ _ _ _ (put12 y w.heap.size (.string (txt d.nm)) (.int .i64 d.st) (.int .i64 d.es) (.int .i64 d.mx) (.int .i64 d.sz) (.string (txt d.sm)) (.slice pf nf cf) (.slice pq nq cq) (.int .i64 d.po) (.int .i64 d.ti) (.int .i64 d.re) (.int .i64 d.ag))
        have pa := put12_at (y := y) rcY.out (.string (txt d.nm)) (.int .i64 d.st) (.int .i64 d.es) (.int .i64 d.mx) (.int .i64 d.sz) (.string (txt d.sm)) (.slice pf nf cf) (.slice pq nq cq) (.int .i64 d.po) (.int .i64 d.ti) (.int .i64 d.re) (.int .i64 d.ag)
        have pb := put12_below bY.out (Nat.le_refl w.heap.size) (.string (txt d.nm)) (.int .i64 d.st) (.int .i64 d.es) (.int .i64 d.mx) (.int .i64 d.sz) (.string (txt d.sm)) (.slice pf nf cf) (.slice pq nq cq) (.int .i64 d.po) (.int .i64 d.ti) (.int .i64 d.re) (.int .i64 d.ag)
        have off : ∀ k, N ≤ k → (put12 y w.heap.size (.string (txt d.nm)) (.int .i64 d.st) (.int .i64 d.es) (.int .i64 d.mx) (.int .i64 d.sz) (.string (txt d.sm)) (.slice pf nf cf) (.slice pq nq cq) (.int .i64 d.po) (.int .i64 d.ti) (.int .i64 d.re) (.int .i64 d.ag)).heap[k]? = y.heap[k]? := fun k hk => put12_off (by have := nn.out.RN; omega) _ _ _ _ _ _ _ _ _ _ _ _
        generalize put12 y w.heap.size (.string (txt d.nm)) (.int .i64 d.st) (.int .i64 d.es) (.int .i64 d.mx) (.int .i64 d.sz) (.string (txt d.sm)) (.slice pf nf cf) (.slice pq nq cq) (.int .i64 d.po) (.int .i64 d.ti) (.int .i64 d.re) (.int .i64 d.ag) = yy at *
        refine bodyPost_ret (res_dev3 Tryd.results13 rfl rfl rfl pa) rfl ?_
        refine ⟨.slice pf nf cf, .slice pq nq cq, by rw [fin.out]; rfl, ?_, ?_, pb, fun g h => Nat.le_of_lt (fN.out g h), fun g h => qM.out g h⟩
        · rw [fin.out]; exact flds_own (own_off oN.out off)
        · rw [fin.out]; exact rq_off qN.out off
      · rw [hl] at fin
        replace fin : Hid (T = (dv0, 0, 9)) := fin.out
        replace rcY : Hid (y.heap[w.heap.size]? = some (.cells dz 26 (0, 0))) := rcY
        clear st st2 la hb hl
        go_wp2
        change bodyPost _ _ _ _ _ (put12 y w.heap.size (.string ⟨#[]⟩) (.int .i64 0) (.int .i64 0) (.int .i64 0) (.int .i64 0) (.string ⟨#[]⟩) (.slice none 0 0) (.slice none 0 0) (.int .i64 0) (.int .i64 0) (.int .i64 0) (.int .i64 0))
        have pa := put12_at (y := y) rcY.out (.string ⟨#[]⟩) (.int .i64 0) (.int .i64 0) (.int .i64 0) (.int .i64 0) (.string ⟨#[]⟩) (.slice none 0 0) (.slice none 0 0) (.int .i64 0) (.int .i64 0) (.int .i64 0) (.int .i64 0)
        have pb := put12_below bY.out (Nat.le_refl w.heap.size) (.string ⟨#[]⟩) (.int .i64 0) (.int .i64 0) (.int .i64 0) (.int .i64 0) (.string ⟨#[]⟩) (.slice none 0 0) (.slice none 0 0) (.int .i64 0) (.int .i64 0) (.int .i64 0) (.int .i64 0)
        generalize put12 y w.heap.size (.string ⟨#[]⟩) (.int .i64 0) (.int .i64 0) (.int .i64 0) (.int .i64 0) (.string ⟨#[]⟩) (.slice none 0 0) (.slice none 0 0) (.int .i64 0) (.int .i64 0) (.int .i64 0) (.int .i64 0) = yy at *
        refine bodyPost_ret (res_dev3 Tryd.results13 rfl rfl rfl pa) rfl ?_
        exact ⟨nilS, nilS, by rw [fin.out]; rfl, .inl ⟨rfl, by rw [fin.out]; rfl⟩, .inl ⟨rfl, by rw [fin.out]; rfl⟩, pb, fun g h => (by cases h), fun g h => (by cases h)⟩
end Go.Proofs.YtagkgneijdbkoaaDoor
