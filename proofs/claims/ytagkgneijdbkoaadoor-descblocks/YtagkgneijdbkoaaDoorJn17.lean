/-
  Texts that belong together, one behind the other: DsP1. Conditions: as each says.
-/
import Derived.Deep.RegionHeld3
import Derived.Test.YtagkgneijdbkoaaDoorJn14
import Derived.Test.YtagkgneijdbkoaaDoorJn15
import Derived.Test.YtagkgneijdbkoaaDoorJn16
import Derived.Test.YtagkgneijdbkoaaDoorJn9
/-
  What the program's own oneByte, and the meanings of lines with a name, a number, a byte, two bytes, bytes, do (layer 8). Conditions: a word is at most 5000 bytes; as each says.
-/
namespace Go.Proofs.YtagkgneijdbkoaaDoor
open Go.RowKit
set_option linter.unusedVariables false

set_option maxRecDepth 100000 in
set_option maxHeartbeats 2000000 in
theorem oct_any (s : ByteArray) (w : World) (hs : (s.size : Int) ≤ 5000) :
    Calls Tryd.prog 48 #[.string s] w fun e w' => e = .returned (.tuple #[.int .i64 (((octO s.data.toList).getD 0 : Nat) : Int), .bool (octO s.data.toList).isSome]) ∧ Below w.heap.size w w' := by
  have f : Hid (Calls Tryd.prog 52 #[.string s] w fun e w' => ∃ v, e = .returned (.tuple #[v, .bool (hexR s.data.toList).isSome]) ∧ BytesAt w' v ((hexR s.data.toList).getD []) ∧ Below w.heap.size w w') := HH s w hs
  cases hx : hexR s.data.toList with
  | none =>
    rw [hx] at f
    rw [oct_none hx]
    go_enter Tryd.func48, Tryd.ntmps48
    go_wp2_with fail
    refine f.out.mono ?_
    rintro e w1 ⟨v, rfl, hv, hb⟩
    replace hb : Hid (Below w.heap.size w w1) := hb
    clear hv
    go_wp2
    go_ret2
    exact ⟨rfl, hb.out⟩
  | some bs =>
    rw [hx] at f
    have hby := (hexR_b hx).1
    have hle : (bs.length : Int) ≤ 5000 := by have := (hexR_b hx).2; simp at this; omega
    by_cases h1 : bs.length = 1
    · obtain ⟨b, rfl⟩ : ∃ b, bs = [b] := by
        match bs, h1 with
        | [b], _ => exact ⟨b, rfl⟩
      rw [oct_some hx]
      have hb256 : b < 256 := hby b (by simp)
      go_enter Tryd.func48, Tryd.ntmps48
      go_wp2_with fail
      refine f.out.mono ?_
      rintro e w1 ⟨v, rfl, hv, hb⟩
      replace hb : Hid (Below w.heap.size w w1) := hb
      rcases hv with ⟨_, h⟩ | ⟨g, o, cap, rfl, hi, hg⟩
      · cases h
      have c0 : w1.cell? ⟨g, o + 0, none⟩ = some (.int .u8 (b : Int)) := hi 0 (by simp)
      rw [Nat.add_zero] at c0
      clear hi
      simp only [Option.getD_some, List.length_singleton]
      go_wp2
      go_ret2
      exact ⟨by simp, hb.out⟩
    · rw [oct_long hx h1]
      have n1 : ((bs.length : Int) != 1) = true := bne_iff_ne.2 (by omega)
      go_enter Tryd.func48, Tryd.ntmps48
      go_wp2_with fail
      refine f.out.mono ?_
      rintro e w1 ⟨v, rfl, hv, hb⟩
      replace hb : Hid (Below w.heap.size w w1) := hb
      rcases hv with ⟨rfl, h⟩ | ⟨g, o, cap, rfl, hi, hg⟩
      · go_wp2
        go_ret2
        exact ⟨rfl, hb.out⟩
      · clear hi
        simp only [Option.getD_some]
        go_wp2
        go_ret2
        exact ⟨rfl, hb.out⟩

/-- how long a slice of words is -/
theorem StrsAt.form {x : World} {v : Value} {ws : List Wd} (h : StrsAt x v ws) : ∃ p cap, v = .slice p ws.length cap := by
  rcases h with ⟨rfl, rfl⟩ | ⟨g, o, cap, rfl, _⟩
  · exact ⟨_, _, rfl⟩
  · exact ⟨_, _, rfl⟩
theorem StrsAt.cons {x : World} {v : Value} {z : Wd} {ws : List Wd} (h : StrsAt x v (z :: ws)) : ∃ g o cap, v = .slice (some ⟨g, o, none⟩) (ws.length + 1) cap ∧ StrsIn x g o (z :: ws) ∧ g < x.heap.size := by
  rcases h with ⟨_, h⟩ | ⟨g, o, cap, rfl, h2, h3⟩
  · cases h
  · exact ⟨g, o, cap, rfl, h2, h3⟩

/-! a name -/
set_option maxRecDepth 100000 in
set_option maxHeartbeats 2000000 in
theorem name_len (p : Option Addr) (n cap : Nat) (hn : ¬ n = 1) (hn2 : (n : Int) ≤ 9223372036854775807) (b : Nat) (w : World) :
    Calls Tryd.prog 46 #[.slice p n cap, .pointer (some ⟨b, 0, none⟩)] w fun e w' => e = .returned (.bool false) ∧ w' = w := by
  have n1 : ((n : Int) != 1) = true := bne_iff_ne.2 (by omega)
  go_enter Tryd.func46, Tryd.ntmps46
  go_wp2
  go_ret
  exact ⟨rfl, rfl⟩
set_option maxRecDepth 100000 in
set_option maxHeartbeats 2000000 in
theorem name_no (z : Wd) (hz : (z.length : Int) ≤ 5000) (hN : nameB z = false) (g o cap b : Nat) (w : World) (hc : w.cell? ⟨g, o, none⟩ = some (.string (txt z))) :
    Calls Tryd.prog 46 #[.slice (some ⟨g, o, none⟩) 1 cap, .pointer (some ⟨b, 0, none⟩)] w fun e w' => e = .returned (.bool false) ∧ Below w.heap.size w w' := by
  have f : Hid (∀ w, Calls Tryd.prog 47 #[.string (txt z)] w fun e w' => e = .returned (.bool false) ∧ Below w.heap.size w w') := fun w => by rw [← hN]; exact HM (txt z) w (by rw [txt_size]; exact hz)
  go_enter Tryd.func46, Tryd.ntmps46
  go_wp2_with fail
  refine (f.out _).mono ?_
  rintro e w1 ⟨rfl, hb⟩
  replace hb : Hid (Below w.heap.size w w1) := hb
  clear f
  go_wp2
  go_ret
  exact ⟨rfl, hb.out⟩
set_option maxRecDepth 100000 in
set_option maxHeartbeats 2000000 in
theorem name_yes (z : Wd) (hz : (z.length : Int) ≤ 5000) (hN : nameB z = true) (g o cap b : Nat) (B k : Nat) (old : Value) (w : World) (hc : w.cell? ⟨g, o, none⟩ = some (.string (txt z))) (hb : w.cell? ⟨b, 0, none⟩ = some (.pointer (some ⟨B, k, none⟩))) (hB : w.cell? ⟨B, k, none⟩ = some old) (hF : w.frozen? ⟨B, k, none⟩ = false) :
    Calls Tryd.prog 46 #[.slice (some ⟨g, o, none⟩) 1 cap, .pointer (some ⟨b, 0, none⟩)] w fun e w' => e = .returned (.bool true) ∧ ∃ x, Below w.heap.size w x ∧ w' = x.setCell ⟨B, k, none⟩ (.string (txt z)) := by
  have f : Hid (∀ w, Calls Tryd.prog 47 #[.string (txt z)] w fun e w' => e = .returned (.bool true) ∧ Below w.heap.size w w') := fun w => by rw [← hN]; exact HM (txt z) w (by rw [txt_size]; exact hz)
  go_enter Tryd.func46, Tryd.ntmps46
  go_wp2_with fail
  refine (f.out _).mono ?_
  rintro e w1 ⟨rfl, hb1⟩
  have c1 := (hb1.cell (block_lt_of_cell hc)).trans hc
  have c2 := (hb1.cell (block_lt_of_cell hb)).trans hb
  have c3 := (hb1.cell (block_lt_of_cell hB)).trans hB
  have c4 := (hb1.frozen (block_lt_of_cell hB)).trans hF
  replace hb1 : Hid (Below w.heap.size w w1) := hb1
  clear f hc hb hB hF
  go_wp2
  go_region
  all_goals
    go_wp2
    go_ret
    exact ⟨rfl, w1.drew, hb1.out.drew, rfl⟩

/-! a number -/
set_option maxRecDepth 100000 in
set_option maxHeartbeats 2000000 in
theorem num_len (p : Option Addr) (n cap : Nat) (hn : ¬ n = 1) (hn2 : (n : Int) ≤ 9223372036854775807) (b1 b2 b3 : Nat) (w : World) :
    Calls Tryd.prog 49 #[.slice p n cap, .pointer (some ⟨b1, 0, none⟩), .pointer (some ⟨b2, 0, none⟩), .pointer (some ⟨b3, 0, none⟩)] w fun e w' => e = .returned (.bool false) ∧ w' = w := by
  have n1 : ((n : Int) != 1) = true := bne_iff_ne.2 (by omega)
  go_enter Tryd.func49, Tryd.ntmps49
  go_wp2
  go_ret
  exact ⟨rfl, rfl⟩
set_option maxRecDepth 100000 in
set_option maxHeartbeats 2000000 in
theorem num_one (z : Wd) (hz : (z.length : Int) ≤ 5000) (lo hi : Int) (g o cap b1 b2 b3 : Nat) (B k : Nat) (old : Value) (w : World) (hc : w.cell? ⟨g, o, none⟩ = some (.string (txt z))) (h1 : w.cell? ⟨b1, 0, none⟩ = some (.int .i64 lo)) (h2 : w.cell? ⟨b2, 0, none⟩ = some (.int .i64 hi)) (h3 : w.cell? ⟨b3, 0, none⟩ = some (.pointer (some ⟨B, k, none⟩))) (hB : w.cell? ⟨B, k, none⟩ = some old) (hF : w.frozen? ⟨B, k, none⟩ = false) :
    Calls Tryd.prog 49 #[.slice (some ⟨g, o, none⟩) 1 cap, .pointer (some ⟨b1, 0, none⟩), .pointer (some ⟨b2, 0, none⟩), .pointer (some ⟨b3, 0, none⟩)] w fun e w' => e = .returned (.bool (numB z lo hi)) ∧ ∃ x, Below w.heap.size w x ∧ w' = x.setCell ⟨B, k, none⟩ (.int .i64 (numV z lo hi)) := by
  have f : Hid (∀ w, Calls Tryd.prog 50 #[.string (txt z), .int .i64 lo, .int .i64 hi] w fun e w' => e = .returned (.tuple #[.int .i64 (numV z lo hi), .bool (numB z lo hi)]) ∧ w' = w) := fun w => pnum_any (txt z) w (by rw [txt_size]; unfold maxLen; omega) lo hi
  generalize numV z lo hi = V at *
  generalize numB z lo hi = T at *
  go_enter Tryd.func49, Tryd.ntmps49
  go_wp2_with fail
  go_quiet ((go_at_call 50; with_reducible refine Calls.quiet_of_same (f.out _)))
  have B1 : Hid (Below w.heap.size w (w.drewN nq)) := below_drewN (Below.refl _ _) _
  have c3 := (B1.out.cell (block_lt_of_cell h3)).trans h3
  have c4 := (B1.out.cell (block_lt_of_cell hB)).trans hB
  have c5 := (B1.out.frozen (block_lt_of_cell hB)).trans hF
  generalize w.drewN nq = w1 at *
  clear f hc h1 h2 h3 hB hF
  go_wp2
  go_ret
  exact ⟨rfl, w1, B1.out, rfl⟩

/-! a byte, two bytes, bytes -/
set_option maxRecDepth 100000 in
set_option maxHeartbeats 2000000 in
theorem sta_len (p : Option Addr) (n cap : Nat) (hn : ¬ n = 1) (hn2 : (n : Int) ≤ 9223372036854775807) (B : Nat) (w : World) :
    Calls Tryd.prog 33 #[.pointer (some ⟨B, 0, none⟩), .slice p n cap] w fun e w' => e = .returned (.bool false) ∧ w' = w := by
  have n1 : ((n : Int) != 1) = true := bne_iff_ne.2 (by omega)
  go_enter Tryd.func33, Tryd.ntmps33
  go_wp2
  go_ret
  exact ⟨rfl, rfl⟩
set_option maxRecDepth 100000 in
set_option maxHeartbeats 2000000 in
theorem sta_one (z : Wd) (hz : (z.length : Int) ≤ 5000) (g o cap : Nat) (B : Nat) (old : Value) (w : World) (hc : w.cell? ⟨g, o, none⟩ = some (.string (txt z))) (hB : w.cell? ⟨B, 1, none⟩ = some old) (hF : w.frozen? ⟨B, 1, none⟩ = false) :
    Calls Tryd.prog 33 #[.pointer (some ⟨B, 0, none⟩), .slice (some ⟨g, o, none⟩) 1 cap] w fun e w' => e = .returned (.bool (octO z).isSome) ∧ ∃ x, Below w.heap.size w x ∧ w' = x.setCell ⟨B, 1, none⟩ (.int .i64 (((octO z).getD 0 : Nat) : Int)) := by
  have f : Hid (∀ w, Calls Tryd.prog 48 #[.string (txt z)] w fun e w' => e = .returned (.tuple #[.int .i64 (((octO z).getD 0 : Nat) : Int), .bool (octO z).isSome]) ∧ Below w.heap.size w w') := fun w => oct_any (txt z) w (by rw [txt_size]; exact hz)
  generalize (((octO z).getD 0 : Nat) : Int) = V at *
  generalize (octO z).isSome = T at *
  go_enter Tryd.func33, Tryd.ntmps33
  go_wp2_with fail
  refine (f.out _).mono ?_
  rintro e w1 ⟨rfl, hb1⟩
  have c4 := (hb1.cell (block_lt_of_cell hB)).trans hB
  have c5 := (hb1.frozen (block_lt_of_cell hB)).trans hF
  replace hb1 : Hid (Below w.heap.size w w1) := hb1
  clear f hc hB hF
  go_wp2
  go_ret
  exact ⟨rfl, w1, hb1.out, rfl⟩
set_option maxRecDepth 100000 in
set_option maxHeartbeats 2000000 in
theorem esc_len (p : Option Addr) (n cap : Nat) (hn : ¬ n = 2) (hn2 : (n : Int) ≤ 9223372036854775807) (B : Nat) (w : World) :
    Calls Tryd.prog 34 #[.pointer (some ⟨B, 0, none⟩), .slice p n cap] w fun e w' => e = .returned (.bool false) ∧ w' = w := by
  have n1 : ((n : Int) != 2) = true := bne_iff_ne.2 (by omega)
  go_enter Tryd.func34, Tryd.ntmps34
  go_wp2
  go_ret
  exact ⟨rfl, rfl⟩
set_option maxRecDepth 100000 in
set_option maxHeartbeats 2000000 in
theorem esc_two (z y : Wd) (hz : (z.length : Int) ≤ 5000) (hy : (y.length : Int) ≤ 5000) (g o cap : Nat) (B : Nat) (old old2 : Value) (w : World) (hc : w.cell? ⟨g, o, none⟩ = some (.string (txt z))) (hc2 : w.cell? ⟨g, o + 1, none⟩ = some (.string (txt y))) (hB : w.cell? ⟨B, 2, none⟩ = some old) (hF : w.frozen? ⟨B, 2, none⟩ = false) (hB2 : w.cell? ⟨B, 3, none⟩ = some old2) (hF2 : w.frozen? ⟨B, 3, none⟩ = false) :
    Calls Tryd.prog 34 #[.pointer (some ⟨B, 0, none⟩), .slice (some ⟨g, o, none⟩) 2 cap] w fun e w' => e = .returned (.bool ((octO z).isSome && (octO y).isSome)) ∧ ∃ x, Below w.heap.size w x ∧ w' = (x.setCell ⟨B, 2, none⟩ (.int .i64 (((octO z).getD 0 : Nat) : Int))).setCell ⟨B, 3, none⟩ (.int .i64 (((octO y).getD 0 : Nat) : Int)) := by
  have f1 : Hid (∀ w, Calls Tryd.prog 48 #[.string (txt z)] w fun e w' => e = .returned (.tuple #[.int .i64 (((octO z).getD 0 : Nat) : Int), .bool (octO z).isSome]) ∧ Below w.heap.size w w') := fun w => oct_any (txt z) w (by rw [txt_size]; exact hz)
  have f2 : Hid (∀ w, Calls Tryd.prog 48 #[.string (txt y)] w fun e w' => e = .returned (.tuple #[.int .i64 (((octO y).getD 0 : Nat) : Int), .bool (octO y).isSome]) ∧ Below w.heap.size w w') := fun w => oct_any (txt y) w (by rw [txt_size]; exact hy)
  generalize (((octO z).getD 0 : Nat) : Int) = V at *
  generalize (((octO y).getD 0 : Nat) : Int) = V2 at *
  generalize (octO z).isSome = T at *
  generalize (octO y).isSome = T2 at *
  go_enter Tryd.func34, Tryd.ntmps34
  go_wp2_with fail
  refine (f1.out _).mono ?_
  rintro e w1 ⟨rfl, hb1⟩
  have c3 := (hb1.cell (block_lt_of_cell hc2)).trans hc2
  have c4 := (hb1.cell (block_lt_of_cell hB)).trans hB
  have c5 := (hb1.frozen (block_lt_of_cell hB)).trans hF
  have c6 := (hb1.cell (block_lt_of_cell hB2)).trans hB2
  have c7 := (hb1.frozen (block_lt_of_cell hB2)).trans hF2
  replace hb1 : Hid (Below w.heap.size w w1) := hb1
  clear f1 hc hB hF hB2 hF2 hc2
  go_wp2_with fail
  refine (f2.out _).mono ?_
  rintro e w2 ⟨rfl, hb2⟩
  have d4 := (hb2.cell (block_lt_of_cell c4)).trans c4
  have d5 := (hb2.frozen (block_lt_of_cell c4)).trans c5
  have d6 := (hb2.cell (block_lt_of_cell c6)).trans c6
  have d7 := (hb2.frozen (block_lt_of_cell c6)).trans c7
  have B2 : Hid (Below w.heap.size w w2) := hb1.out.trans (hb2.mono hb1.out.size)
  clear f2 c3 c4 c5 c6 c7 hb2 hb1
  cases T
  · go_wp2
    go_ret
    exact ⟨rfl, w2, B2.out, rfl⟩
  · go_wp2
    go_ret
    exact ⟨rfl, w2, B2.out, rfl⟩
set_option maxRecDepth 100000 in
set_option maxHeartbeats 2000000 in
theorem req_len (p : Option Addr) (n cap : Nat) (hn : ¬ n = 1) (hn2 : (n : Int) ≤ 9223372036854775807) (B : Nat) (w : World) :
    Calls Tryd.prog 37 #[.pointer (some ⟨B, 0, none⟩), .slice p n cap] w fun e w' => e = .returned (.bool false) ∧ w' = w := by
  have n1 : ((n : Int) != 1) = true := bne_iff_ne.2 (by omega)
  go_enter Tryd.func37, Tryd.ntmps37
  go_wp2
  go_ret
  exact ⟨rfl, rfl⟩
/-- what bytes are asked with -/
def reqB (z : Wd) : Bool := match hexR z with | some b => decide (b.length ≤ 16) | none => false
set_option maxRecDepth 100000 in
set_option maxHeartbeats 2000000 in
theorem req_one (z : Wd) (hz : (z.length : Int) ≤ 5000) (g o cap : Nat) (B : Nat) (old : Value) (w : World) (hc : w.cell? ⟨g, o, none⟩ = some (.string (txt z))) (hB : w.cell? ⟨B, 7, none⟩ = some old) (hF : w.frozen? ⟨B, 7, none⟩ = false) :
    Calls Tryd.prog 37 #[.pointer (some ⟨B, 0, none⟩), .slice (some ⟨g, o, none⟩) 1 cap] w fun e w' => e = .returned (.bool (reqB z)) ∧ ∃ x v, Below w.heap.size w x ∧ BytesAt x v ((hexR z).getD []) ∧ FreshV w v ∧ w' = x.setCell ⟨B, 7, none⟩ v := by
  have f : Hid (∀ w, Calls Tryd.prog 52 #[.string (txt z)] w fun e w' => ∃ v, e = .returned (.tuple #[v, .bool (hexR z).isSome]) ∧ BytesAt w' v ((hexR z).getD []) ∧ FreshV w v ∧ Below w.heap.size w w') := fun w => HH2 (txt z) w (by rw [txt_size]; exact hz)
  unfold reqB
  cases hx : hexR z with
  | none =>
    rw [hx] at f
    go_enter Tryd.func37, Tryd.ntmps37
    go_wp2_with fail
    refine (f.out _).mono ?_
    rintro e w1 ⟨v, rfl, hv, hfr, hb1⟩
    have c4 := (hb1.cell (block_lt_of_cell hB)).trans hB
    have c5 := (hb1.frozen (block_lt_of_cell hB)).trans hF
    replace hb1 : Hid (Below w.heap.size w w1) := hb1
    obtain ⟨p, cap, rfl⟩ : ∃ p cap, v = .slice p 0 cap := by
      rcases hv with ⟨rfl, h⟩ | ⟨g, o, cap, rfl, _⟩
      · exact ⟨_, _, rfl⟩
      · exact ⟨_, _, rfl⟩
    replace hv : Hid (BytesAt w1 (.slice p 0 cap) ((none : Option (List Nat)).getD [])) := hv
    replace hfr : Hid (FreshV w (.slice p 0 cap)) := hfr
    clear f hc hB hF
    go_wp2
    go_ret
    exact ⟨rfl, w1, _, hb1.out, hv.out, hfr.out, rfl⟩
  | some bs =>
    rw [hx] at f
    have hle : (bs.length : Int) ≤ 5000 := by have := (hexR_b hx).2; omega
    have e16 : Hid (decide (bs.length ≤ 16) = decide ((bs.length : Int) ≤ 16)) := by unfold Hid; rw [decide_eq_decide]; omega
    go_enter Tryd.func37, Tryd.ntmps37
    go_wp2_with fail
    refine (f.out _).mono ?_
    rintro e w1 ⟨v, rfl, hv, hfr, hb1⟩
    have c4 := (hb1.cell (block_lt_of_cell hB)).trans hB
    have c5 := (hb1.frozen (block_lt_of_cell hB)).trans hF
    replace hb1 : Hid (Below w.heap.size w w1) := hb1
    obtain ⟨p, cap, rfl⟩ : ∃ p cap, v = .slice p bs.length cap := by
      rcases hv with ⟨rfl, h⟩ | ⟨g, o, cap, rfl, _⟩
      · have : bs = [] := h
        rw [this]; exact ⟨_, _, rfl⟩
      · exact ⟨_, _, rfl⟩
    replace hv : Hid (BytesAt w1 (.slice p bs.length cap) ((some bs).getD [])) := hv
    replace hfr : Hid (FreshV w (.slice p bs.length cap)) := hfr
    clear f hc hB hF
    go_wp2
    go_ret
    exact ⟨by rw [e16.out]; rfl, w1, _, hb1.out, hv.out, hfr.out, rfl⟩
end Go.Proofs.YtagkgneijdbkoaaDoor
