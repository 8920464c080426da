/-
  Texts that belong together, one behind the other: DsOpen, DsFew. Conditions: as each says.
-/
import Derived.ChangeOld
import Derived.Deep.SlicePairs
import Derived.Deep.Strs
import Derived.OpenShut
import Derived.ProofKit
import Derived.ShutString
import Derived.Test.YtagkgneijdbkoaaDoorJn18
/-
  A slice of lines that a law is handed (layer 8). No conditions but those that each says.
-/
namespace Go.Proofs.YtagkgneijdbkoaaDoor
open Go.ChangeShapes Go.WideShapes Go.ChangeAt Go.RowKit
open Go.Deep (open_slice_pairs open_strs)
set_option linter.unusedVariables false

theorem cellsRw : Tryd.prog.cellsOf 46 = 2 := by kernel_rfl
theorem cellsIn : Tryd.prog.cellsOf 3 = 1 := by kernel_rfl
theorem cellsSs : Tryd.prog.cellsOf 44 = 1 := by kernel_rfl
theorem cellsSt : Tryd.prog.cellsOf 9 = 1 := by kernel_rfl
theorem cell_plain {x : World} {a : Addr} {v : Value} (h : x.cell? a = some v) : a.spot = none ∧ a.block < x.heap.size := by
  obtain ⟨g, o, sp⟩ := a
  unfold World.cell? at h
  simp only at h
  split at h
  · rename_i c t f hb
    refine ⟨?_, (Array.getElem?_eq_some_iff.1 hb).1⟩
    cases sp with
    | none => rfl
    | some s => simp at h
  · cases h
/-- words that are read -/
theorem open_words {H : Type} {enc : TypeId × Value → H} {w : World} {n : Nat} {u : Value} {y : DataW H × List MemPlace} (h : DataW.trod enc Tryd.prog w 0 (fun _ => true) true n 44 [u] = some y) : ∃ ws, WdsAt w.heap.size w u ws := by
  rcases open_strs Tryd.underlying44 Tryd.underlying9 cellsSt h with ⟨hc, _⟩ | ⟨a, len, cap, m, Sx, hc, _, hl, _, hm, _, hx⟩
  · obtain rfl : u = .slice none 0 0 := by simpa using hc
    exact ⟨[], .inl ⟨none, 0, rfl, rfl⟩⟩
  · obtain rfl : u = .slice (some a) len cap := by simpa using hc
    simp only [if_true] at hm
    subst hm
    by_cases h0 : len = 0
    · subst h0
      exact ⟨[], .inl ⟨_, _, rfl, rfl⟩⟩
    · have c0 := (hx 0 (by omega)).1
      obtain ⟨hs, hb⟩ := cell_plain c0
      obtain ⟨g, o, sp⟩ := a
      have hs' : sp = none := by simpa [Addr.add] using hs
      subst hs'
      rw [addr_add] at hb
      have hlen : ((List.range len).map fun i => (Sx i).data.toList).length = len := by simp
      refine ⟨(List.range len).map fun i => (Sx i).data.toList, .inr ⟨g, o, m, by rw [hlen], by rw [hlen]; exact hl, fun j hj => ?_, hb⟩⟩
      rw [hlen] at hj
      have e := (hx j (by omega)).1
      rw [addr_add] at e
      rw [e]
      simp only [List.getElem_map, List.getElem_range]
      rw [txt_of]
theorem choose_lt' {α : Type} [Inhabited α] {n : Nat} {p : Nat → α → Prop} (h : ∀ i, i < n → ∃ a, p i a) : ∃ f : Nat → α, ∀ i, i < n → p i (f i) := by
  refine ⟨fun i => if hi : i < n then Classical.choose (h i hi) else default, fun i hi => ?_⟩
  simp only [hi, dif_pos]
  exact Classical.choose_spec (h i hi)
set_option maxRecDepth 100000 in
theorem open_rows {H : Type} {enc : TypeId × Value → H} {w : World} {b0 : Nat} {v : Value} {d : DataW H} {ps : List MemPlace} (hv : Value.okWide Tryd.prog w .any b0 30 v) (h : DataW.Trod enc Tryd.prog w 0 (fun _ => true) true 30 v d ps) :
    ∃ rs : List Lr, RowsC w.heap.size w v rs ∧ (rs.length : Int) ≤ 9223372036854775807 := by
  obtain ⟨a, len, cap, rfl⟩ := okWide_slice Tryd.underlying30 hv
  obtain ⟨fuel, hf⟩ := h
  rcases open_slice_pairs Tryd.underlying30 Tryd.underlying46 cellsRw rfl rfl cellsIn cellsSs hf with ⟨hcs, _⟩ | ⟨x, l, c, m, n, V0, V1, D0, D1, P0, P1, hcs, _, hl, hm, hmm, _, hx⟩
  · simp [Value.cells] at hcs
    obtain ⟨rfl, rfl, rfl⟩ := hcs
    exact ⟨[], .inl ⟨rfl, rfl⟩, by simp⟩
  · simp [Value.cells] at hcs
    obtain ⟨rfl, rfl, rfl⟩ := hcs
    simp only [Value.okWide, Tryd.underlying30, Cell.okWide, Cell.ok] at hv
    obtain ⟨_, _, _, hsp, row, cells, hsh, _⟩ := hv
    obtain ⟨g, o, sp⟩ := x
    simp only at hsp hsh
    subst hsp
    have hg : g < w.heap.size := by
      unfold World.shape? at hsh
      rcases Nat.lt_or_ge g w.heap.size with h | h
      · exact h
      · rw [Array.getElem?_eq_none h] at hsh; cases hsh
    simp only [if_true] at hmm
    have each : ∀ i, i < len → ∃ r : Lr, RowC w g (o + 2 * i) w.heap.size r := by
      intro i hi
      obtain ⟨k0, k1, k2, k3⟩ := hx i (by omega)
      rw [addr_add] at k0 k1
      obtain ⟨z, e0, _⟩ := DataW.trod_int Tryd.underlying3 k2
      obtain ⟨ws, hw⟩ := open_words k3
      obtain e0 : V0 i = .int .i64 z := by simpa using e0
      refine ⟨(z, ws), ?_, V1 i, ?_, hw⟩
      · rw [Nat.mul_comm 2 i, k0, e0]
      · rw [Nat.mul_comm 2 i, Nat.add_assoc, k1]
    obtain ⟨f, hf⟩ := choose_lt' each
    have hlen : ((List.range len).map f).length = len := by simp
    refine ⟨(List.range len).map f, .inr ⟨g, o, cap, by rw [hlen], fun j hj => ?_, hg⟩, by rw [hlen]; unfold maxLen at hm; omega⟩
    rw [hlen] at hj
    simp only [List.getElem_map, List.getElem_range]
    exact hf j hj
/-- lines of one kind are lines of the other -/
theorem RowsC.lrs {x : World} {v : Value} {rs : List Lr} (h : RowsC x.heap.size x v rs) : LrsAt x v rs := by
  rcases h with h | ⟨g, o, cap, h1, h2, h3⟩
  · exact .inl h
  · refine .inr ⟨g, o, cap, h1, fun j hj => ?_, h3⟩
    obtain ⟨q1, u, q2, q3⟩ := h2 j hj
    refine ⟨q1, u, q2, ?_⟩
    rcases q3 with k | ⟨g', o', cap', k1, _, k2, k3⟩
    · exact .inl k
    · exact .inr ⟨g', o', cap', k1, k2, k3⟩
theorem WdsAt.up {L0 L1 : Nat} {x : World} {v : Value} {ws : List Wd} (h : WdsAt L0 x v ws) (hl : L0 ≤ L1) : WdsAt L1 x v ws := by
  rcases h with h | ⟨g, o, cap, h1, h2, h3, h4⟩
  · exact .inl h
  · exact .inr ⟨g, o, cap, h1, h2, h3, by omega⟩
theorem RowsC.up {L0 L1 : Nat} {x : World} {v : Value} {rs : List Lr} (h : RowsC L0 x v rs) (hl : L0 ≤ L1) : RowsC L1 x v rs := by
  rcases h with h | ⟨g, o, cap, h1, h2, h3⟩
  · exact .inl h
  · refine .inr ⟨g, o, cap, h1, fun j hj => ?_, by omega⟩
    obtain ⟨q1, u, q2, q3⟩ := h2 j hj
    exact ⟨q1, u, q2, q3.up hl⟩
theorem RowsC.form {L0 : Nat} {x : World} {v : Value} {rs : List Lr} (h : RowsC L0 x v rs) : ∃ p cap, v = .slice p rs.length cap := by
  rcases h with ⟨rfl, rfl⟩ | ⟨g, o, cap, rfl, _⟩
  · exact ⟨_, _, rfl⟩
  · exact ⟨_, _, rfl⟩
/-- line i, later on -/
theorem RowsC.at {L0 : Nat} {w x : World} {p : Option Addr} {n cap : Nat} {rs : List Lr} (h : RowsC L0 w (.slice p n cap) rs) (hl : rs.length = n) (hb : Below L0 w x) {i : Nat} (hi : i < n) :
    ∃ g o pu cu, p = some ⟨g, o, none⟩ ∧ g < L0 ∧ x.cell? ⟨g, o + i * 2, none⟩ = some (.int .i64 (rs[i]'(by omega)).1) ∧ x.cell? ⟨g, o + i * 2 + 1, none⟩ = some (.slice pu (rs[i]'(by omega)).2.length cu) ∧ WdsAt L0 x (.slice pu (rs[i]'(by omega)).2.length cu) (rs[i]'(by omega)).2 := by
  rcases h with ⟨_, rfl⟩ | ⟨g, o, cap', e, h2, h3⟩
  · simp at hl; omega
  · injection e with e1 e2 e3
    subst e1
    obtain ⟨q1, u, q2, q3⟩ := h2 i (by omega)
    obtain ⟨pu, cu, rfl⟩ := q3.form
    rw [Nat.mul_comm 2 i] at q1 q2
    exact ⟨g, o, pu, cu, rfl, h3, (hb.cell (p := ⟨g, o + i * 2, none⟩) h3).trans q1, (hb.cell (p := ⟨g, o + i * 2 + 1, none⟩) h3).trans q2, q3.below hb⟩
end Go.Proofs.YtagkgneijdbkoaaDoor
/-
  The law's own few: at most 60 lines, 20 words, 100 bytes (layer 8). Conditions: the lines lie in memory that was there.
-/
namespace Go.Proofs.YtagkgneijdbkoaaDoor
open Go.RowKit
set_option linter.unusedVariables false

def shortB (z : Wd) : Bool := decide (z.length ≤ 100)
def rowB (r : Lr) : Bool := decide (r.2.length ≤ 20) && r.2.all shortB
def fewL (n : Nat) (rs : List Lr) : Bool := decide (n ≤ 60) && rs.all rowB
def fewB (rs : List Lr) : Bool := fewL rs.length rs
def FwI (n : Nat) (rs : List Lr) (T : Bool) : Prop := fewL n rs = T
def FwK (ws : List Wd) (n : Nat) (rs : List Lr) (T : Bool) : Prop := (ws.all shortB && fewL n rs) = T
theorem FwI.nil {n : Nat} {T : Bool} (h : FwI n [] T) : T = decide (n ≤ 60) := by unfold FwI fewL at h; rw [← h]; simp
theorem FwI.big {n : Nat} {rs : List Lr} {T : Bool} (h : FwI n rs T) (hn : 60 < n) : T = false := by
  unfold FwI fewL at h; rw [← h, decide_eq_false (by omega : ¬ n ≤ 60)]; rfl
theorem FwI.wide {n : Nat} {r : Lr} {rs : List Lr} {T : Bool} (h : FwI n (r :: rs) T) (hn : 20 < r.2.length) : T = false := by
  unfold FwI fewL rowB at h; rw [← h, List.all_cons, decide_eq_false (by omega : ¬ r.2.length ≤ 20)]; simp
theorem FwI.row {n : Nat} {r : Lr} {rs : List Lr} {T : Bool} (h : FwI n (r :: rs) T) (hn : r.2.length ≤ 20) : FwK r.2 n rs T := by
  unfold FwI fewL at h
  unfold FwK fewL
  rw [← h, List.all_cons]
  unfold rowB
  rw [decide_eq_true hn, Bool.true_and, Bool.and_left_comm]
theorem FwK.nil {n : Nat} {rs : List Lr} {T : Bool} (h : FwK [] n rs T) : FwI n rs T := by unfold FwK at h; unfold FwI; simpa using h
theorem FwK.long {z : Wd} {ws : List Wd} {n : Nat} {rs : List Lr} {T : Bool} (h : FwK (z :: ws) n rs T) (hz : 100 < z.length) : T = false := by
  unfold FwK at h; rw [← h, List.all_cons]; unfold shortB; rw [decide_eq_false (by omega : ¬ z.length ≤ 100)]; rfl
theorem FwK.one {z : Wd} {ws : List Wd} {n : Nat} {rs : List Lr} {T : Bool} (h : FwK (z :: ws) n rs T) (hz : z.length ≤ 100) : FwK ws n rs T := by
  unfold FwK at *; rw [← h, List.all_cons]; unfold shortB; rw [decide_eq_true hz, Bool.true_and]
theorem few_spec {rs : List Lr} (h : fewB rs = true) : rs.length ≤ 60 ∧ ∀ r ∈ rs, r.2.length ≤ 20 ∧ ∀ z ∈ r.2, z.length ≤ 100 := by
  unfold fewB fewL at h
  rw [Bool.and_eq_true, decide_eq_true_eq] at h
  refine ⟨h.1, fun r hr => ?_⟩
  have k := List.all_eq_true.1 h.2 r hr
  unfold rowB at k
  rw [Bool.and_eq_true, decide_eq_true_eq] at k
  refine ⟨k.1, fun z hz => ?_⟩
  have q := List.all_eq_true.1 k.2 z hz
  unfold shortB at q
  simpa using q

set_option maxRecDepth 100000 in
set_option maxHeartbeats 4000000 in
theorem few_any (v : Value) (w : World) (rs : List Lr) (hv : RowsC w.heap.size w v rs) (hn : (rs.length : Int) ≤ 9223372036854775807) :
    Calls Tryd.prog 12 #[v] w fun e w' => e = .returned (.bool (fewB rs)) ∧ w' = w := by
  obtain ⟨p, cap, rfl⟩ := hv.form
  have I0 : Hid (FwI rs.length rs (fewB rs)) := rfl
  generalize fewB rs = T at *
  obtain ⟨len, hlen⟩ : ∃ len, rs.length = len := ⟨_, rfl⟩
  rw [hlen] at hn hv I0 ⊢
  replace hlen : Hid (rs.length = len) := hlen
  replace hv : Hid (RowsC w.heap.size w (.slice p len cap) rs) := hv
  go_enter Tryd.func12, Tryd.ntmps12
  go_wp2
  go_loop [3, 4] (fun vi vk => ∃ i : Nat, (i : Int) ≤ (len : Int) ∧ (i : Int) ≤ 61 ∧ vi = .int .i64 (i : Int) ∧ Hid (FwI len (rs.drop i) T)) (fun vi vk => len - (intOf vi).toNat)
  case atStart => exact ⟨0, by omega, by omega, rfl, I0⟩
  case round =>
    obtain ⟨i, hi, hi2, rfl, left⟩ := hrel
    clear I0
    by_cases hlt : i < len
    · have hki : (i : Int) < (len : Int) := by omega
      by_cases h60 : i ≤ 60
      · have h60i : (i : Int) ≤ 60 := by omega
        obtain ⟨g, o, pu, cu, rfl, hg, c0, c1, hw⟩ := hv.out.at hlen.out (Below.refl _ _) hlt
        have lf := left.out
        rw [List.drop_eq_getElem_cons (by have := hlen.out; omega)] at lf
        generalize (rs[i]'(by have := hlen.out; omega)) = r at *
        obtain ⟨ln, ws⟩ := r
        simp only at c0 c1 hw lf
        by_cases h20 : 20 < ws.length
        · have hT := lf.wide h20
          subst hT
          have h20i : (20 : Int) < (ws.length : Int) := by omega
          clear lf left hw hv
          go_wp2
          go_ret
          exact ⟨rfl, rfl⟩
        · have hK : Hid (FwK ws len (rs.drop (i + 1)) T) := lf.row (by show ws.length ≤ 20; omega)
          have h20i : ¬ (20 : Int) < (ws.length : Int) := by omega
          obtain ⟨m, hm⟩ : ∃ m, ws.length = m := ⟨_, rfl⟩
          rw [hm] at c1 hw h20 h20i
          replace hm : Hid (ws.length = m) := hm
          replace hw : Hid (WdsAt w.heap.size w (.slice pu m cu) ws) := hw
          clear lf left hv
          go_wp2
          go_loop [4] (fun vk => ∃ k : Nat, (k : Int) ≤ (m : Int) ∧ vk = .int .i64 (k : Int) ∧ Hid (FwK (ws.drop k) len (rs.drop (i + 1)) T)) (fun vk => m - (intOf vk).toNat)
          case atStart => exact ⟨0, by omega, rfl, hK⟩
          case round =>
            obtain ⟨k, hk, rfl, lk⟩ := hrel
            clear hK
            by_cases hkl : k < m
            · have hkm : (k : Int) < (m : Int) := by omega
              have hkw : k < ws.length := by have := hm.out; omega
              have lq := lk.out
              rw [List.drop_eq_getElem_cons hkw] at lq
              rcases hw.out with ⟨_, _, _, h⟩ | ⟨gw, ow, cw, e, _, hin, _⟩
              · rw [h] at hkw; cases hkw
              · injection e with e1 e2 e3
                subst e1
                have cz := hin k hkw
                obtain ⟨z, hz⟩ : ∃ z, ws[k] = z := ⟨_, rfl⟩
                rw [hz] at cz lq
                have zs := txt_size z
                by_cases h100 : 100 < z.length
                · have hT := lq.long h100
                  subst hT
                  have hb : decide ((100 : Int) < ((txt z).size : Int)) = true := decide_eq_true (by omega)
                  clear lq lk hw hz hin
                  generalize txt z = S at *
                  go_wp2
                  go_ret
                  exact ⟨rfl, rfl⟩
                · have nx : Hid (FwK (ws.drop (k + 1)) len (rs.drop (i + 1)) T) := lq.one (by omega)
                  have hb : decide ((100 : Int) < ((txt z).size : Int)) = false := decide_eq_false (by omega)
                  clear lq lk hw hz hin
                  generalize txt z = S at *
                  go_wp2
                  exact ⟨⟨k + 1, by omega, by simp, nx⟩, by simp [intOf]; omega⟩
            · obtain rfl : k = m := by omega
              have nx : Hid (FwI len (rs.drop (i + 1)) T) := by
                have lq := lk.out
                rw [List.drop_of_length_le (by have := hm.out; omega)] at lq
                exact lq.nil
              clear lk hw
              go_wp2
              exact ⟨⟨i + 1, by omega, by omega, by simp, nx⟩, by simp [intOf]; omega⟩
      · have hT := left.out.big (by omega)
        subst hT
        have h60i : ¬ (i : Int) ≤ 60 := by omega
        have hl : ¬ (len : Int) ≤ 60 := by omega
        clear left hv
        go_wp2
        go_ret
        exact ⟨rfl, rfl⟩
    · obtain rfl : i = len := by omega
      have hT : T = decide ((i : Int) ≤ 60) := by
        have lq := left.out
        rw [List.drop_of_length_le (by have := hlen.out; omega)] at lq
        rw [lq.nil, decide_eq_decide]
        omega
      subst hT
      clear left hv
      go_wp2
      go_ret
      exact ⟨rfl, rfl⟩
end Go.Proofs.YtagkgneijdbkoaaDoor
