/-
  Texts that belong together, one behind the other: CrcRefD, CrcOpen, SumMath, CrcRows, SumRefA, CrcPC, CrcPC8, CrcPC16, CrcPC32, LexWordNm, LexNmP, LexPM. Conditions: as each says.
-/
import Derived.BigQuiet
import Derived.BigRegion
import Derived.ChangeOld
import Derived.Deep.CutRange
import Derived.Deep.QuietTactic
import Derived.Laws.BitsAllLaws
import Derived.Laws.BytesArg
import Derived.Laws.OwnMore
import Derived.Laws.RangeAny
import Derived.Maps.AppendAt
import Derived.OpenShut
import Derived.ProofKit
import Derived.ShutString
import Derived.Test.YtllkkgcfhphgmaaJs4
import Derived.Test.YtllkkgcfhphgmaaJs9
/-
  What the document's own Sum returns (layer 4). Conditions: the kind is right; the bytes lie in memory that was there before.
-/
namespace Go.Proofs.Ytllkkgcfhphgmaa
open Go.RowKit
set_option linter.unusedVariables false

def BitsC (v n : Nat) : Prop := ∀ w, Calls Try.prog 43 #[.int .u32 (v : Int), .int .i64 (n : Int)] w fun e w' => ∃ x, e = .returned x ∧ Row w' w.heap.size x (bitsL v n) ∧ Below w.heap.size w w'
theorem bitsC {v n : Nat} (hv : v < 4294967296) (hn : n ≤ 40) : BitsC v n := fun w => bits_any v n w hv hn
/-- what is left to do behind k bytes, behind j steps -/
def LeftB (pl rl : List Bool) (t : Bool) (bs : List Nat) (k : Nat) (T : List Bool) : Prop := foldB pl rl ((bs.drop k).map (bcL t)) = T
def LeftS (pl cur : List Bool) (j : Nat) (T : List Bool) : Prop := itL pl (8 - j) cur = T
theorem LeftB.next {pl rl : List Bool} {t : Bool} {bs : List Nat} {k : Nat} {T : List Bool} (h : LeftB pl rl t bs k T) (hk : k < bs.length) : LeftB pl (byL pl rl (bcL t bs[k])) t bs (k + 1) T := by
  unfold LeftB at *
  rw [List.drop_eq_getElem_cons hk] at h
  exact h
theorem LeftB.done {pl rl : List Bool} {t : Bool} {bs : List Nat} {T : List Bool} (h : LeftB pl rl t bs bs.length T) : rl = T := by
  unfold LeftB at h; rw [List.drop_length] at h; exact h
theorem LeftS.next {pl cur : List Bool} {j : Nat} {T : List Bool} (h : LeftS pl cur j T) (hj : j < 8) : LeftS pl (stL pl cur) (j + 1) T := by
  unfold LeftS at *
  rw [show 8 - j = (8 - (j + 1)) + 1 by omega] at h
  exact h
theorem LeftS.done {pl cur T : List Bool} (h : LeftS pl cur 8 T) : cur = T := h
theorem SumSt.drew {w x : World} {kc : Array Value} {g cap gp capp W : Nat} {rl pl : List Bool} (h : SumSt w x kc g cap gp capp W rl pl) : SumSt w x.drew kc g cap gp capp W rl pl := h.below (Below.refl _ _).drew
theorem RowW.drew {x : World} {g cap W : Nat} {l : List Bool} (h : RowW x g cap W l) : RowW x.drew g cap W l := h.below (Below.refl _ _).drew
abbrev kcs (W p f : Nat) (t : Bool) (z : Nat) : Array Value := #[.int .i64 (W : Int), .int .u32 (p : Int), .int .u32 (f : Int), .bool t, .int .u32 (z : Int)]
theorem SumSt.kind {w x : World} {W' p f : Nat} {t : Bool} {z g cap gp capp W : Nat} {rl pl : List Bool} (h : SumSt w x (kcs W' p f t z) g cap gp capp W rl pl) : x.cell? ⟨w.heap.size, 3, none⟩ = some (.bool t) ∧ x.cell? ⟨w.heap.size, 4, none⟩ = some (.int .u32 (z : Int)) := by
  simp [World.cell?, h.k]
/-- the state behind the two first calls -/
theorem sum_start {w w1 w2 : World} {kc : Array Value} {x y : Value} {fl pl : List Bool} {W : Nat} (hW : 0 < W) (lf : fl.length = W) (lp : pl.length = W) (hx : Row w1 (w.alloc (.cells kc 53)).heap.size x fl) (hb1 : Below (w.alloc (.cells kc 53)).heap.size (w.alloc (.cells kc 53)) w1)
    (hy : Row w2 w1.heap.size y pl) (hb2 : Below w1.heap.size w1 w2) : ∃ g cap gp capp, x = .slice (some ⟨g, 0, none⟩) W cap ∧ y = .slice (some ⟨gp, 0, none⟩) W capp ∧ SumSt w w2 kc g cap gp capp W fl pl := by
  obtain ⟨g, cap, ex, gb, rx⟩ := RowW.of hx (by omega)
  obtain ⟨gp, capp, ey, gpb, ry⟩ := RowW.of hy (by omega)
  rw [lf] at ex rx
  rw [lp] at ey ry
  have l1 := rx.lt
  simp only [World.size_alloc] at gb
  have k0 : (w.alloc (.cells kc 53)).heap[w.heap.size]? = some (.cells kc 53 (0, 0)) := World.alloc_heap_new w _
  have k1 := (hb1.block w.heap.size (by simp)).trans k0
  have k2 := (hb2.block w.heap.size (Array.getElem?_eq_some_iff.1 k1).1).trans k1
  refine ⟨g, cap, gp, capp, ex, ey, rx.below hb2, ry, by omega, by omega, by omega, k2, ?_⟩
  exact belowT (belowT ((Below.refl _ _).alloc (Nat.le_refl _) _) hb1) hb2
theorem below_drN {B : Nat} {a w : World} (h : Below B a w) (n : Nat) : Below B a (w.drewN n) := ⟨h.os, h.tape, h.output, h.size, h.block⟩
theorem num32 {l : List Bool} (h : l.length ≤ 32) : numL l < 4294967296 := by
  have h1 := numL_lt l
  have h2 : 2 ^ l.length ≤ 2 ^ 32 := Nat.pow_le_pow_right (by omega) h
  omega
theorem ret_x {M z S : Nat} (hM : M < 4294967296) (hz : z < 4294967296) (h : M ^^^ z = S) : Ending.returned (.int .u32 (bits .xor .u32 (M : Int) (z : Int))) = .returned (.int .u32 (S : Int)) := by rw [u32_xor_nat M z hM hz, h]
theorem row_zero (w : World) (base : Nat) (h : base ≤ w.heap.size) : (w.alloc (.cells #[] 4)).ownsRow base 4 1 (.slice (some ⟨w.heap.size, 0, none⟩) 0 0) 0 [] :=
  ⟨rfl, .inr ⟨w.heap.size, 0, #[], rfl, h, World.alloc_heap_new w _, by omega, by omega, rfl, rfl⟩⟩
theorem tail_cells {w x : World} {kc : Array Value} {g cap gp capp W : Nat} {h : Bool} {tl pl : List Bool} (st : SumSt w x kc g cap gp capp W (h :: tl) pl) (o : Obj) : ∀ j u, (tl.map Value.bool)[j]? = some u → (x.alloc o).cell? ((⟨g, 1, none⟩ : Addr).add j) = some u := by
  intro j u hu
  rw [List.getElem?_map] at hu
  have hj : j < tl.length := by
    rcases Nat.lt_or_ge j tl.length with h | h
    · exact h
    · rw [List.getElem?_eq_none h] at hu; cases hu
  rw [List.getElem?_eq_getElem hj] at hu
  have e : Value.bool tl[j] = u := by simpa using hu
  have c := (st.r.cell (j + 1) (by simp; omega)).1
  have c2 := (((Below.refl x.heap.size x).alloc (Nat.le_refl _) o).cell (p := ⟨g, j + 1, none⟩) st.r.lt).trans c
  rw [← e]
  have a : (⟨g, 1, none⟩ : Addr).add j = ⟨g, j + 1, none⟩ := by simp [Addr.add, Nat.add_comm]
  rw [a, c2]
  rfl
theorem bools_one (l : List Bool) : ∀ u ∈ l.map Value.bool, u.oneCell' = true := fun u hu => by
  obtain ⟨b, _, rfl⟩ := List.mem_map.1 hu; rfl
/-- the state behind the two appends: doubled -/
theorem step_row {w wr wA wB : World} {kc : Array Value} {g cap gp capp W : Nat} {h : Bool} {tl pl : List Bool} {v1 v2 : Value} (hW : 8 ≤ (W : Int)) (st : SumSt w wr kc g cap gp capp W (h :: tl) pl)
    (hA : wA.ownsRow wr.heap.size 4 1 v1 (0 + (W - 1)) ([] ++ tl.map Value.bool)) (gA : (wr.alloc (.cells #[] 4)).grownBy wA (Value.slice (some ⟨wr.heap.size, 0, none⟩) 0 0).ownBlock)
    (hB : wB.ownsRow wr.heap.size 4 1 v2 (0 + (W - 1) + 1) ([] ++ tl.map Value.bool ++ [.bool false])) (gB : (wA.alloc (.cells #[.bool false] 4)).grownBy wB v1.ownBlock) :
    ∃ g2 cap2, v2 = .slice (some ⟨g2, 0, none⟩) W cap2 ∧ SumSt w wB kc g2 cap2 gp capp W (tl ++ [false]) pl := by
  have bA : Below wr.heap.size wr wA := ((Below.refl _ wr).alloc (Nat.le_refl _) _).grown gA (by simp) (fun j e => by simp [Value.ownBlock] at e; omega)
  have bB : Below wr.heap.size wr wB := (bA.alloc bA.size _).grown gB (by have := bA.size; simp; omega) (fun j e => (World.ownsRow.lt hA j e).1)
  have ll : (tl ++ [false]).length = W := by have := st.r.1; simp at *; omega
  have hr : Row wB wr.heap.size v2 (tl ++ [false]) := by
    unfold Row
    rw [ll]
    have e : 0 + (W - 1) + 1 = W := by omega
    rw [e] at hB
    simpa using hB
  obtain ⟨g2, cap2, ev, gb, r2⟩ := RowW.of hr (by omega)
  rw [ll] at ev r2
  have s := st.below bB
  have l1 := st.p.lt
  have l2 := st.r.lt
  have l3 := st.gl
  exact ⟨g2, cap2, ev, r2, s.p, by omega, by omega, st.gpl, s.k, s.b⟩

set_option maxRecDepth 100000 in
set_option maxHeartbeats 4000000 in
theorem rsum_true (W p f : Nat) (z : Nat) (bs : List Nat) (gb ob capb : Nat) (w : World) (hW : 8 ≤ (W : Int) ∧ (W : Int) ≤ 32) (hz : z < 4294967296) (cf : BitsC f W) (cp : BitsC p W) (hbs : AllBytes bs) (hlen : (bs.length : Int) ≤ 9223372036854775807)
    (hb : BytesIn w gb ob bs) (hgb : gb < w.heap.size) (S : Nat) (hS : Hid (sumL W p f true z bs = S)) :
    Calls Try.prog 16 #[kv (W : Int) p f true z, .slice (some ⟨gb, ob, none⟩) bs.length capb] w fun e w' => e = .returned (.int .u32 (S : Int)) ∧ Below w.heap.size w w' := by
  obtain ⟨i0, hi, hz0, hz1, hz2⟩ := info_parts info_bool
  go_enter Try.func16, Try.ntmps16
  go_wp2_with fail
  refine (cf _).mono ?_
  rintro e w1 ⟨x, rfl, hx, hb1⟩
  have X : Hid (Row w1 (w.alloc (.cells (kcs W p f true z) 53)).heap.size x (bitsL f W) ∧ Below (w.alloc (.cells (kcs W p f true z) 53)).heap.size (w.alloc (.cells (kcs W p f true z) 53)) w1) := ⟨hx, hb1⟩
  have k0 : w1.cell? ⟨w.heap.size, 0, none⟩ = some (.int .i64 (W : Int)) := (hb1.cell (p := ⟨w.heap.size, 0, none⟩) (by simp)).trans (by simp)
  have k1 : w1.cell? ⟨w.heap.size, 1, none⟩ = some (.int .u32 (p : Int)) := (hb1.cell (p := ⟨w.heap.size, 1, none⟩) (by simp)).trans (by simp)
  clear hx hb1 cf
  go_wp2_with fail
  refine (cp _).mono ?_
  rintro e w2 ⟨y, rfl, hy, hb2⟩
  obtain ⟨g0, cap0, gp, capp, rfl, rfl, st0⟩ := sum_start (w := w) (by omega) (bitsL_len W f) (bitsL_len W p) X.out.1 X.out.2 hy hb2
  replace st0 : Hid (SumSt w w2 (kcs W p f true z) g0 cap0 gp capp W (bitsL f W) (bitsL p W)) := st0
  have lp : Hid ((bitsL p W).length = W) := bitsL_len W p
  have lf : Hid ((bitsL f W).length = W) := bitsL_len W f
  have L0 : LeftB (bitsL p W) (bitsL f W) true bs 0 (foldB (bitsL p W) (bitsL f W) (bs.map (bcL true))) := rfl
  have hS2 : Hid (numL (revL true (foldB (bitsL p W) (bitsL f W) (bs.map (bcL true)))) ^^^ z = S) := hS
  clear hy hb2 X k0 k1 cp hS
  generalize foldB (bitsL p W) (bitsL f W) (bs.map (bcL true)) = T at *
  generalize bitsL p W = pl at *
  generalize bitsL f W = fl at *
  go_wp2
  go_loopw [5, 7] (fun r i wr => ∃ k g cap : Nat, ∃ rl : List Bool, k ≤ bs.length ∧ r = .slice (some ⟨g, 0, none⟩) W cap ∧ i = .int .i64 (k : Int) ∧ Hid (SumSt w wr (kcs W p f true z) g cap gp capp W rl pl) ∧ LeftB pl rl true bs k T) (fun _ i _ => bs.length - (intOf i).toNat)
  case atStart => exact ⟨0, g0, cap0, fl, by omega, rfl, rfl, st0, L0⟩
  case round =>
    obtain ⟨k, g, cap, rl, hk, rfl, rfl, st, LB⟩ := hrel
    clear st0 L0 lf
    by_cases hlt : k < bs.length
    · have hki : (k : Int) < (bs.length : Int) := by omega
      have hbk := hb.at hgb st.out.b k hlt
      have hc256 : (0 : Int) ≤ (bs[k] : Int) ∧ (bs[k] : Int) < 256 := by
        have := hbs bs[k] (List.getElem_mem hlt)
        exact ⟨by omega, by omega⟩
      have cb : BitsC bs[k] 8 := bitsC (by omega) (by omega)
      replace LB := LB.next hlt
      generalize bs[k] = c at *
      have gwr : Hid (g < wr.heap.size ∧ w.heap.size < g) := ⟨st.out.r.lt, st.out.gl⟩
      go_wp2_with fail
      refine (cb _).mono ?_
      rintro e w3 ⟨y, rfl, hy, hb3⟩
      obtain ⟨gc, capc, ey, gcb, rc⟩ := RowW.of hy (by rw [bitsL_len]; omega)
      rw [bitsL_len] at ey rc
      subst ey
      replace st : Hid (SumSt w w3 (kcs W p f true z) g cap gp capp W rl pl) := st.out.below hb3
      have kt := st.out.kind.1
      have sz3 : Hid (wr.heap.size ≤ w3.heap.size) := hb3.size
      replace hy : Hid (Row w3 wr.heap.size (.slice (some ⟨gc, 0, none⟩) 8 capc) (bitsL c 8)) := hy
      clear hb3 rc gcb cb hbk
      go_wp2_with fail
      refine (turned_any (bitsL c 8) _ wr.heap.size w3 hy.out (by rw [bitsL_len]; omega)).mono ?_
      rintro e w4 ⟨y2, rfl, hy2, hb4⟩
      obtain ⟨gd, capd, ey, gdb, rc⟩ := RowW.of hy2 (by rw [List.length_reverse, bitsL_len]; omega)
      rw [List.length_reverse, bitsL_len] at ey rc
      subst ey
      replace st : Hid (SumSt w w4 (kcs W p f true z) g cap gp capp W rl pl) := st.out.below hb4
      replace rc : Hid (RowW w4 gd capd 8 (bcL true c)) := rc
      have gne : Hid (gd ≠ g ∧ w.heap.size < gd) := by
        have h1 := gwr.out
        have h2 := sz3.out
        exact ⟨by omega, by omega⟩
      clear hy hy2 hb4 gdb kt sz3 gwr
      generalize w4 = w9 at *
      have lc : (bcL true c).length = 8 := bcL_len _ _
      have lr : rl.length = W := st.out.r.1
      clear hc256
      generalize bcL true c = cl at *
      go_wp2
      go_loopw [9] (fun i wq => ∃ j : Nat, j ≤ 8 ∧ i = .int .i64 (j : Int) ∧ Hid (SumSt w wq (kcs W p f true z) g cap gp capp W (partL j rl cl) pl) ∧ Hid (RowW wq gd capd 8 cl)) (fun i _ => 8 - (intOf i).toNat)
      case atStart => exact ⟨0, by omega, rfl, by unfold Hid; rw [partL_zero]; exact st.out, rc⟩
      case round =>
        obtain ⟨j, hj, rfl, st5, rc5⟩ := hrel
        clear st rc
        by_cases hj8 : (j : Int) < 8
        · have jr : j < rl.length := by omega
          have jc : j < cl.length := by omega
          have jp : j < (partL j rl cl).length := by rw [partL_len (by omega) (by omega)]; omega
          obtain ⟨q0, q1⟩ := st5.out.r.cell j jp
          rw [partL_get (by omega) jr] at q0
          have q2 := (rc5.out.cell j jc).1
          have nx := partL_next jc jr
          have hjW : (j : Int) < (W : Int) := by omega
          have S6 : Hid (SumSt w (wr.setCell ⟨g, j, none⟩ (.bool (rl[j] ^^ cl[j]))) (kcs W p f true z) g cap gp capp W (partL (j + 1) rl cl) pl) := by
            unfold Hid; rw [← nx]; exact st5.out.set j _
          have R6 : Hid (RowW (wr.setCell ⟨g, j, none⟩ (.bool (rl[j] ^^ cl[j]))) gd capd 8 cl) := rc5.out.block (blk_far _ _ _ _ gne.out.1)
          clear nx jp st5 rc5
          generalize rl[j] = a1 at *
          generalize cl[j] = a2 at *
          cases a1 <;> cases a2
          all_goals
            go_wp2_with fail
            go_region
            go_wp2
          all_goals exact ⟨⟨j + 1, by omega, by simp, S6.out.drew, R6.out.drew⟩, by simp [intOf]; omega⟩
        · obtain rfl : j = 8 := by omega
          have st6 : Hid (SumSt w wr (kcs W p f true z) g cap gp capp W (mixL rl cl) pl) := by unfold Hid; rw [← partL_mix lc]; exact st5.out
          have LS0 : LeftS pl (mixL rl cl) 0 (byL pl rl cl) := rfl
          clear st5 rc5 lr lc gne hj
          generalize byL pl rl cl = T2 at *
          generalize mixL rl cl = ml at *
          go_wp2
          go_loopw [5, 10] (fun r i wq => ∃ j g cap : Nat, ∃ cur : List Bool, j ≤ 8 ∧ r = .slice (some ⟨g, 0, none⟩) W cap ∧ i = .int .i64 (j : Int) ∧ Hid (SumSt w wq (kcs W p f true z) g cap gp capp W cur pl) ∧ LeftS pl cur j T2) (fun _ i _ => 8 - (intOf i).toNat)
          case atStart => exact ⟨0, g, cap, ml, by omega, rfl, rfl, st6, LS0⟩
          case round =>
            obtain ⟨j, g1, cap1, cur, hj, rfl, rfl, st7, LS⟩ := hrel
            clear st6 LS0
            by_cases hj8 : (j : Int) < 8
            · have lcur : cur.length = W := st7.out.r.1
              have hcap : (W : Int) ≤ (cap1 : Int) := by have := st7.out.r.2.1; omega
              obtain ⟨h, tl, rfl⟩ : ∃ h tl, cur = h :: tl := by
                cases cur with
                | nil => rw [List.length_nil] at lcur; omega
                | cons h tl => exact ⟨h, tl, rfl⟩
              have q0 : wr.cell? ⟨g1, 0, none⟩ = some (.bool h) := (st7.out.r.cell 0 (by simp)).1
              have hsz : Hid (w.heap.size ≤ wr.heap.size) := st7.out.b.size
              have ltl : Hid (tl.length = W - 1) := by show _ = _; rw [List.length_cons] at lcur; omega
              replace LS := LS.next (by omega)
              clear lcur
              have hl1 : (tl.map Value.bool).length = (W - 1) * 1 := by rw [List.length_map, ltl.out]; omega
              have h63 : 0 + (W - 1) ≤ maxLen := by unfold maxLen; omega
              have hby : (0 + (W - 1)) * 1 ≤ 140737488355328 := by omega
              have h63b : 0 + (W - 1) + 1 ≤ maxLen := by unfold maxLen; omega
              have hbyb : (0 + (W - 1) + 1) * 1 ≤ 140737488355328 := by omega
              cases h
              · have e0 : stL pl (false :: tl) = tl ++ [false] := rfl
                rw [e0] at LS
                go_wp2_with (first
                  | (at_builtin; refine wpList_append_own _ rfl _ _ 72 rfl wr.heap.size 4 i0 (.bool false) 1 1 Try.underlying72 hi hz0 hz1 hz2 rfl (by decide) _ _ _ rfl (row_zero wr wr.heap.size (Nat.le_refl _)) ⟨g1, 1, none⟩ (W - 1) (cap1 - 1) (tl.map Value.bool) rfl hl1 (tail_cells st7.out _) (bools_one tl) h63 hby (by simp) ?_; intro v1 wA hA gA _)
                  | (at_builtin; refine wpList_append_own _ rfl _ _ 72 rfl wr.heap.size 4 i0 (.bool false) 1 1 Try.underlying72 hi hz0 hz1 hz2 rfl (by decide) _ _ _ rfl (World.ownsRow.alloc hA _) ⟨wA.heap.size, 0, none⟩ 1 1 [.bool false] rfl rfl (cell_one_new _ _ _) (by simp [Value.oneCell']) h63b hbyb (by have := gA.size; simp at *; omega) ?_; intro v2 wB hBo gB _; obtain ⟨g2, cap2, rfl, stB⟩ := step_row hW.1 st7.out hA gA hBo gB; replace stB : Hid _ := stB))
                go_wp2
                go_loop [12] (fun i => i = .int .i64 0) (fun _ => 0)
                case atStart => rfl
                case round =>
                  subst hrel
                  go_wp2
                  exact ⟨⟨j + 1, g2, cap2, tl ++ [false], by omega, rfl, by simp, stB, LS⟩, by simp [intOf]; omega⟩
              · have ll : (tl ++ [false]).length = W := by have := ltl.out; simp; omega
                have e0 : stL pl (true :: tl) = partL W (tl ++ [false]) pl := by
                  rw [← ll, partL_all (by rw [ll]; exact lp.out)]; rfl
                rw [e0] at LS
                go_wp2_with (first
                  | (at_builtin; refine wpList_append_own _ rfl _ _ 72 rfl wr.heap.size 4 i0 (.bool false) 1 1 Try.underlying72 hi hz0 hz1 hz2 rfl (by decide) _ _ _ rfl (row_zero wr wr.heap.size (Nat.le_refl _)) ⟨g1, 1, none⟩ (W - 1) (cap1 - 1) (tl.map Value.bool) rfl hl1 (tail_cells st7.out _) (bools_one tl) h63 hby (by simp) ?_; intro v1 wA hA gA _)
                  | (at_builtin; refine wpList_append_own _ rfl _ _ 72 rfl wr.heap.size 4 i0 (.bool false) 1 1 Try.underlying72 hi hz0 hz1 hz2 rfl (by decide) _ _ _ rfl (World.ownsRow.alloc hA _) ⟨wA.heap.size, 0, none⟩ 1 1 [.bool false] rfl rfl (cell_one_new _ _ _) (by simp [Value.oneCell']) h63b hbyb (by have := gA.size; simp at *; omega) ?_; intro v2 wB hBo gB _; obtain ⟨g2, cap2, rfl, stB⟩ := step_row hW.1 st7.out hA gA hBo gB; replace stB : Hid _ := stB))
                clear st7 q0 hl1 h63 hby h63b hbyb hA gA hBo gB e0
                go_wp2
                generalize tl ++ [false] = tz at *
                go_loopw [12] (fun i wq => ∃ n : Nat, n ≤ W ∧ i = .int .i64 (n : Int) ∧ Hid (SumSt w wq (kcs W p f true z) g2 cap2 gp capp W (partL n tz pl) pl)) (fun i _ => W - (intOf i).toNat)
                case atStart => exact ⟨0, by omega, rfl, by unfold Hid; rw [partL_zero]; exact stB.out⟩
                case round =>
                  obtain ⟨n, hn, rfl, st8⟩ := hrel
                  clear stB
                  by_cases hnW : (n : Int) < (W : Int)
                  · have jr : n < tz.length := by omega
                    have jc : n < pl.length := by rw [lp.out]; omega
                    have jp : n < (partL n tz pl).length := by rw [partL_len (by omega) (by omega)]; omega
                    obtain ⟨q0, q1⟩ := st8.out.r.cell n jp
                    rw [partL_get (by omega) jr] at q0
                    have q2 := (st8.out.p.cell n jc).1
                    have nx := partL_next jc jr
                    have S9 : Hid (SumSt w (wr.setCell ⟨g2, n, none⟩ (.bool (tz[n] ^^ pl[n]))) (kcs W p f true z) g2 cap2 gp capp W (partL (n + 1) tz pl) pl) := by
                      unfold Hid; rw [← nx]; exact st8.out.set n _
                    clear nx jp st8
                    generalize tz[n] = a1 at *
                    generalize pl[n] = a2 at *
                    cases a1 <;> cases a2
                    all_goals
                      go_wp2_with fail
                      go_region
                      go_wp2
                    all_goals exact ⟨⟨n + 1, by omega, by simp, S9.out.drew⟩, by simp [intOf]; omega⟩
                  · obtain rfl : n = W := by omega
                    go_wp2
                    exact ⟨⟨j + 1, g2, cap2, _, by omega, rfl, by simp, st8, LS⟩, by simp [intOf]; omega⟩
            · obtain rfl : j = 8 := by omega
              have hT := LS.done
              subst hT
              go_wp2
              exact ⟨⟨k + 1, g1, cap1, _, by omega, rfl, by simp, st7, LB⟩, by simp [intOf]; omega⟩
    · obtain rfl : k = bs.length := by omega
      have hT := LB.done
      subst hT
      have kt := st.out.kind.1
      have kz := st.out.kind.2
      have lr : rl.length = W := st.out.r.1
      have R0 : Hid (Row wr w.heap.size (.slice (some ⟨g, 0, none⟩) W cap) rl) := st.out.r.row (Nat.le_of_lt st.out.gl)
      go_wp2_with fail
      refine (turned_any rl _ w.heap.size wr R0.out (by omega)).mono ?_
      rintro e w4 ⟨y2, rfl, hy2, hb4⟩
      have Y : Hid (Row w4 wr.heap.size y2 rl.reverse) := hy2
      replace st : Hid (SumSt w w4 (kcs W p f true z) g cap gp capp W rl pl) := st.out.below hb4
      clear kt kz hy2 hb4 R0
      have kz := st.out.kind.2
      have B4 : Hid (Below w.heap.size w w4) := st.out.b
      have hfin : Hid (numL rl.reverse ^^^ z = S) := hS2
      have fn : Hid (∀ n, Calls Try.prog 45 #[y2] (w4.drewN n) fun e w' => e = .returned (.int .u32 ((numL rl.reverse : Nat) : Int)) ∧ w' = w4.drewN n) := fun n => number_any rl.reverse y2 wr.heap.size (w4.drewN n) (Y.out.below (below_drN (Below.refl _ _) n)) (by rw [List.length_reverse]; omega)
      have nb : numL rl.reverse < 4294967296 := num32 (by rw [List.length_reverse]; omega)
      clear st hS2 lr lp Y
      generalize numL rl.reverse = M at *
      go_wp2_with fail
      go_quiet (first | (go_at_call 45; refine Calls.quiet_of_same (fn.out _)))
      clear fn
      go_wp2
      go_ret
      exact ⟨ret_x nb hz hfin.out, below_drN B4.out _⟩

set_option maxRecDepth 100000 in
set_option maxHeartbeats 4000000 in
theorem rsum_false (W p f : Nat) (z : Nat) (bs : List Nat) (gb ob capb : Nat) (w : World) (hW : 8 ≤ (W : Int) ∧ (W : Int) ≤ 32) (hz : z < 4294967296) (cf : BitsC f W) (cp : BitsC p W) (hbs : AllBytes bs) (hlen : (bs.length : Int) ≤ 9223372036854775807)
    (hb : BytesIn w gb ob bs) (hgb : gb < w.heap.size) (S : Nat) (hS : Hid (sumL W p f false z bs = S)) :
    Calls Try.prog 16 #[kv (W : Int) p f false z, .slice (some ⟨gb, ob, none⟩) bs.length capb] w fun e w' => e = .returned (.int .u32 (S : Int)) ∧ Below w.heap.size w w' := by
  obtain ⟨i0, hi, hz0, hz1, hz2⟩ := info_parts info_bool
  go_enter Try.func16, Try.ntmps16
  go_wp2_with fail
  refine (cf _).mono ?_
  rintro e w1 ⟨x, rfl, hx, hb1⟩
  have X : Hid (Row w1 (w.alloc (.cells (kcs W p f false z) 53)).heap.size x (bitsL f W) ∧ Below (w.alloc (.cells (kcs W p f false z) 53)).heap.size (w.alloc (.cells (kcs W p f false z) 53)) w1) := ⟨hx, hb1⟩
  have k0 : w1.cell? ⟨w.heap.size, 0, none⟩ = some (.int .i64 (W : Int)) := (hb1.cell (p := ⟨w.heap.size, 0, none⟩) (by simp)).trans (by simp)
  have k1 : w1.cell? ⟨w.heap.size, 1, none⟩ = some (.int .u32 (p : Int)) := (hb1.cell (p := ⟨w.heap.size, 1, none⟩) (by simp)).trans (by simp)
  clear hx hb1 cf
  go_wp2_with fail
  refine (cp _).mono ?_
  rintro e w2 ⟨y, rfl, hy, hb2⟩
  obtain ⟨g0, cap0, gp, capp, rfl, rfl, st0⟩ := sum_start (w := w) (by omega) (bitsL_len W f) (bitsL_len W p) X.out.1 X.out.2 hy hb2
  replace st0 : Hid (SumSt w w2 (kcs W p f false z) g0 cap0 gp capp W (bitsL f W) (bitsL p W)) := st0
  have lp : Hid ((bitsL p W).length = W) := bitsL_len W p
  have lf : Hid ((bitsL f W).length = W) := bitsL_len W f
  have L0 : LeftB (bitsL p W) (bitsL f W) false bs 0 (foldB (bitsL p W) (bitsL f W) (bs.map (bcL false))) := rfl
  have hS2 : Hid (numL (revL false (foldB (bitsL p W) (bitsL f W) (bs.map (bcL false)))) ^^^ z = S) := hS
  clear hy hb2 X k0 k1 cp hS
  generalize foldB (bitsL p W) (bitsL f W) (bs.map (bcL false)) = T at *
  generalize bitsL p W = pl at *
  generalize bitsL f W = fl at *
  go_wp2
  go_loopw [5, 7] (fun r i wr => ∃ k g cap : Nat, ∃ rl : List Bool, k ≤ bs.length ∧ r = .slice (some ⟨g, 0, none⟩) W cap ∧ i = .int .i64 (k : Int) ∧ Hid (SumSt w wr (kcs W p f false z) g cap gp capp W rl pl) ∧ LeftB pl rl false bs k T) (fun _ i _ => bs.length - (intOf i).toNat)
  case atStart => exact ⟨0, g0, cap0, fl, by omega, rfl, rfl, st0, L0⟩
  case round =>
    obtain ⟨k, g, cap, rl, hk, rfl, rfl, st, LB⟩ := hrel
    clear st0 L0 lf
    by_cases hlt : k < bs.length
    · have hki : (k : Int) < (bs.length : Int) := by omega
      have hbk := hb.at hgb st.out.b k hlt
      have hc256 : (0 : Int) ≤ (bs[k] : Int) ∧ (bs[k] : Int) < 256 := by
        have := hbs bs[k] (List.getElem_mem hlt)
        exact ⟨by omega, by omega⟩
      have cb : BitsC bs[k] 8 := bitsC (by omega) (by omega)
      replace LB := LB.next hlt
      generalize bs[k] = c at *
      have gwr : Hid (g < wr.heap.size ∧ w.heap.size < g) := ⟨st.out.r.lt, st.out.gl⟩
      go_wp2_with fail
      refine (cb _).mono ?_
      rintro e w3 ⟨y, rfl, hy, hb3⟩
      obtain ⟨gc, capc, ey, gcb, rc⟩ := RowW.of hy (by rw [bitsL_len]; omega)
      rw [bitsL_len] at ey rc
      subst ey
      replace st : Hid (SumSt w w3 (kcs W p f false z) g cap gp capp W rl pl) := st.out.below hb3
      have kt := st.out.kind.1
      have sz3 : Hid (wr.heap.size ≤ w3.heap.size) := hb3.size
      replace rc : Hid (RowW w3 gc capc 8 (bcL false c)) := rc
      have gne : Hid (gc ≠ g ∧ w.heap.size < gc) := by
        have h1 := gwr.out
        have h2 := sz3.out
        exact ⟨by omega, by omega⟩
      clear hy hb3 gcb cb hbk sz3 gwr
      generalize gc = gd at *
      generalize capc = capd at *
      generalize w3 = w9 at *
      have lc : (bcL false c).length = 8 := bcL_len _ _
      have lr : rl.length = W := st.out.r.1
      clear hc256
      generalize bcL false c = cl at *
      go_wp2
      go_loopw [9] (fun i wq => ∃ j : Nat, j ≤ 8 ∧ i = .int .i64 (j : Int) ∧ Hid (SumSt w wq (kcs W p f false z) g cap gp capp W (partL j rl cl) pl) ∧ Hid (RowW wq gd capd 8 cl)) (fun i _ => 8 - (intOf i).toNat)
      case atStart => exact ⟨0, by omega, rfl, by unfold Hid; rw [partL_zero]; exact st.out, rc⟩
      case round =>
        obtain ⟨j, hj, rfl, st5, rc5⟩ := hrel
        clear st rc
        by_cases hj8 : (j : Int) < 8
        · have jr : j < rl.length := by omega
          have jc : j < cl.length := by omega
          have jp : j < (partL j rl cl).length := by rw [partL_len (by omega) (by omega)]; omega
          obtain ⟨q0, q1⟩ := st5.out.r.cell j jp
          rw [partL_get (by omega) jr] at q0
          have q2 := (rc5.out.cell j jc).1
          have nx := partL_next jc jr
          have hjW : (j : Int) < (W : Int) := by omega
          have S6 : Hid (SumSt w (wr.setCell ⟨g, j, none⟩ (.bool (rl[j] ^^ cl[j]))) (kcs W p f false z) g cap gp capp W (partL (j + 1) rl cl) pl) := by
            unfold Hid; rw [← nx]; exact st5.out.set j _
          have R6 : Hid (RowW (wr.setCell ⟨g, j, none⟩ (.bool (rl[j] ^^ cl[j]))) gd capd 8 cl) := rc5.out.block (blk_far _ _ _ _ gne.out.1)
          clear nx jp st5 rc5
          generalize rl[j] = a1 at *
          generalize cl[j] = a2 at *
          cases a1 <;> cases a2
          all_goals
            go_wp2_with fail
            go_region
            go_wp2
          all_goals exact ⟨⟨j + 1, by omega, by simp, S6.out.drew, R6.out.drew⟩, by simp [intOf]; omega⟩
        · obtain rfl : j = 8 := by omega
          have st6 : Hid (SumSt w wr (kcs W p f false z) g cap gp capp W (mixL rl cl) pl) := by unfold Hid; rw [← partL_mix lc]; exact st5.out
          have LS0 : LeftS pl (mixL rl cl) 0 (byL pl rl cl) := rfl
          clear st5 rc5 lr lc gne hj
          generalize byL pl rl cl = T2 at *
          generalize mixL rl cl = ml at *
          go_wp2
          go_loopw [5, 10] (fun r i wq => ∃ j g cap : Nat, ∃ cur : List Bool, j ≤ 8 ∧ r = .slice (some ⟨g, 0, none⟩) W cap ∧ i = .int .i64 (j : Int) ∧ Hid (SumSt w wq (kcs W p f false z) g cap gp capp W cur pl) ∧ LeftS pl cur j T2) (fun _ i _ => 8 - (intOf i).toNat)
          case atStart => exact ⟨0, g, cap, ml, by omega, rfl, rfl, st6, LS0⟩
          case round =>
            obtain ⟨j, g1, cap1, cur, hj, rfl, rfl, st7, LS⟩ := hrel
            clear st6 LS0
            by_cases hj8 : (j : Int) < 8
            · have lcur : cur.length = W := st7.out.r.1
              have hcap : (W : Int) ≤ (cap1 : Int) := by have := st7.out.r.2.1; omega
              obtain ⟨h, tl, rfl⟩ : ∃ h tl, cur = h :: tl := by
                cases cur with
                | nil => rw [List.length_nil] at lcur; omega
                | cons h tl => exact ⟨h, tl, rfl⟩
              have q0 : wr.cell? ⟨g1, 0, none⟩ = some (.bool h) := (st7.out.r.cell 0 (by simp)).1
              have hsz : Hid (w.heap.size ≤ wr.heap.size) := st7.out.b.size
              have ltl : Hid (tl.length = W - 1) := by show _ = _; rw [List.length_cons] at lcur; omega
              replace LS := LS.next (by omega)
              clear lcur
              have hl1 : (tl.map Value.bool).length = (W - 1) * 1 := by rw [List.length_map, ltl.out]; omega
              have h63 : 0 + (W - 1) ≤ maxLen := by unfold maxLen; omega
              have hby : (0 + (W - 1)) * 1 ≤ 140737488355328 := by omega
              have h63b : 0 + (W - 1) + 1 ≤ maxLen := by unfold maxLen; omega
              have hbyb : (0 + (W - 1) + 1) * 1 ≤ 140737488355328 := by omega
              cases h
              · have e0 : stL pl (false :: tl) = tl ++ [false] := rfl
                rw [e0] at LS
                go_wp2_with (first
                  | (at_builtin; refine wpList_append_own _ rfl _ _ 72 rfl wr.heap.size 4 i0 (.bool false) 1 1 Try.underlying72 hi hz0 hz1 hz2 rfl (by decide) _ _ _ rfl (row_zero wr wr.heap.size (Nat.le_refl _)) ⟨g1, 1, none⟩ (W - 1) (cap1 - 1) (tl.map Value.bool) rfl hl1 (tail_cells st7.out _) (bools_one tl) h63 hby (by simp) ?_; intro v1 wA hA gA _)
                  | (at_builtin; refine wpList_append_own _ rfl _ _ 72 rfl wr.heap.size 4 i0 (.bool false) 1 1 Try.underlying72 hi hz0 hz1 hz2 rfl (by decide) _ _ _ rfl (World.ownsRow.alloc hA _) ⟨wA.heap.size, 0, none⟩ 1 1 [.bool false] rfl rfl (cell_one_new _ _ _) (by simp [Value.oneCell']) h63b hbyb (by have := gA.size; simp at *; omega) ?_; intro v2 wB hBo gB _; obtain ⟨g2, cap2, rfl, stB⟩ := step_row hW.1 st7.out hA gA hBo gB; replace stB : Hid _ := stB))
                go_wp2
                go_loop [12] (fun i => i = .int .i64 0) (fun _ => 0)
                case atStart => rfl
                case round =>
                  subst hrel
                  go_wp2
                  exact ⟨⟨j + 1, g2, cap2, tl ++ [false], by omega, rfl, by simp, stB, LS⟩, by simp [intOf]; omega⟩
              · have ll : (tl ++ [false]).length = W := by have := ltl.out; simp; omega
                have e0 : stL pl (true :: tl) = partL W (tl ++ [false]) pl := by
                  rw [← ll, partL_all (by rw [ll]; exact lp.out)]; rfl
                rw [e0] at LS
                go_wp2_with (first
                  | (at_builtin; refine wpList_append_own _ rfl _ _ 72 rfl wr.heap.size 4 i0 (.bool false) 1 1 Try.underlying72 hi hz0 hz1 hz2 rfl (by decide) _ _ _ rfl (row_zero wr wr.heap.size (Nat.le_refl _)) ⟨g1, 1, none⟩ (W - 1) (cap1 - 1) (tl.map Value.bool) rfl hl1 (tail_cells st7.out _) (bools_one tl) h63 hby (by simp) ?_; intro v1 wA hA gA _)
                  | (at_builtin; refine wpList_append_own _ rfl _ _ 72 rfl wr.heap.size 4 i0 (.bool false) 1 1 Try.underlying72 hi hz0 hz1 hz2 rfl (by decide) _ _ _ rfl (World.ownsRow.alloc hA _) ⟨wA.heap.size, 0, none⟩ 1 1 [.bool false] rfl rfl (cell_one_new _ _ _) (by simp [Value.oneCell']) h63b hbyb (by have := gA.size; simp at *; omega) ?_; intro v2 wB hBo gB _; obtain ⟨g2, cap2, rfl, stB⟩ := step_row hW.1 st7.out hA gA hBo gB; replace stB : Hid _ := stB))
                clear st7 q0 hl1 h63 hby h63b hbyb hA gA hBo gB e0
                go_wp2
                generalize tl ++ [false] = tz at *
                go_loopw [12] (fun i wq => ∃ n : Nat, n ≤ W ∧ i = .int .i64 (n : Int) ∧ Hid (SumSt w wq (kcs W p f false z) g2 cap2 gp capp W (partL n tz pl) pl)) (fun i _ => W - (intOf i).toNat)
                case atStart => exact ⟨0, by omega, rfl, by unfold Hid; rw [partL_zero]; exact stB.out⟩
                case round =>
                  obtain ⟨n, hn, rfl, st8⟩ := hrel
                  clear stB
                  by_cases hnW : (n : Int) < (W : Int)
                  · have jr : n < tz.length := by omega
                    have jc : n < pl.length := by rw [lp.out]; omega
                    have jp : n < (partL n tz pl).length := by rw [partL_len (by omega) (by omega)]; omega
                    obtain ⟨q0, q1⟩ := st8.out.r.cell n jp
                    rw [partL_get (by omega) jr] at q0
                    have q2 := (st8.out.p.cell n jc).1
                    have nx := partL_next jc jr
                    have S9 : Hid (SumSt w (wr.setCell ⟨g2, n, none⟩ (.bool (tz[n] ^^ pl[n]))) (kcs W p f false z) g2 cap2 gp capp W (partL (n + 1) tz pl) pl) := by
                      unfold Hid; rw [← nx]; exact st8.out.set n _
                    clear nx jp st8
                    generalize tz[n] = a1 at *
                    generalize pl[n] = a2 at *
                    cases a1 <;> cases a2
                    all_goals
                      go_wp2_with fail
                      go_region
                      go_wp2
                    all_goals exact ⟨⟨n + 1, by omega, by simp, S9.out.drew⟩, by simp [intOf]; omega⟩
                  · obtain rfl : n = W := by omega
                    go_wp2
                    exact ⟨⟨j + 1, g2, cap2, _, by omega, rfl, by simp, st8, LS⟩, by simp [intOf]; omega⟩
            · obtain rfl : j = 8 := by omega
              have hT := LS.done
              subst hT
              go_wp2
              exact ⟨⟨k + 1, g1, cap1, _, by omega, rfl, by simp, st7, LB⟩, by simp [intOf]; omega⟩
    · obtain rfl : k = bs.length := by omega
      have hT := LB.done
      subst hT
      have kt := st.out.kind.1
      have kz := st.out.kind.2
      have lr : rl.length = W := st.out.r.1
      have B4 : Hid (Below w.heap.size w wr) := st.out.b
      have hfin : Hid (numL rl ^^^ z = S) := hS2
      have R0 : Hid (Row wr w.heap.size (.slice (some ⟨g, 0, none⟩) W cap) rl) := st.out.r.row (Nat.le_of_lt st.out.gl)
      have fn : Hid (∀ n, Calls Try.prog 45 #[.slice (some ⟨g, 0, none⟩) W cap] (wr.drewN n) fun e w' => e = .returned (.int .u32 ((numL rl : Nat) : Int)) ∧ w' = wr.drewN n) := fun n => number_any rl _ w.heap.size (wr.drewN n) (R0.out.below (below_drN (Below.refl _ _) n)) (by omega)
      have nb : numL rl < 4294967296 := num32 (by omega)
      clear R0
      clear st hS2 lr lp 
      generalize numL rl = M at *
      go_wp2_with fail
      go_quiet (first | (go_at_call 45; refine Calls.quiet_of_same (fn.out _)))
      clear fn
      go_wp2
      go_ret
      exact ⟨ret_x nb hz hfin.out, below_drN B4.out _⟩

set_option maxRecDepth 100000 in
set_option maxHeartbeats 4000000 in
theorem rsum0_true (W p f : Nat) (z : Nat) (w : World) (hW : 8 ≤ (W : Int) ∧ (W : Int) ≤ 32) (hz : z < 4294967296) (cf : BitsC f W) (cp : BitsC p W) (S : Nat) (hS : Hid (sumL W p f true z [] = S)) :
    Calls Try.prog 16 #[kv (W : Int) p f true z, .slice none 0 0] w fun e w' => e = .returned (.int .u32 (S : Int)) ∧ Below w.heap.size w w' := by
  obtain ⟨i0, hi, hz0, hz1, hz2⟩ := info_parts info_bool
  go_enter Try.func16, Try.ntmps16
  go_wp2_with fail
  refine (cf _).mono ?_
  rintro e w1 ⟨x, rfl, hx, hb1⟩
  have X : Hid (Row w1 (w.alloc (.cells (kcs W p f true z) 53)).heap.size x (bitsL f W) ∧ Below (w.alloc (.cells (kcs W p f true z) 53)).heap.size (w.alloc (.cells (kcs W p f true z) 53)) w1) := ⟨hx, hb1⟩
  have k0 : w1.cell? ⟨w.heap.size, 0, none⟩ = some (.int .i64 (W : Int)) := (hb1.cell (p := ⟨w.heap.size, 0, none⟩) (by simp)).trans (by simp)
  have k1 : w1.cell? ⟨w.heap.size, 1, none⟩ = some (.int .u32 (p : Int)) := (hb1.cell (p := ⟨w.heap.size, 1, none⟩) (by simp)).trans (by simp)
  clear hx hb1 cf
  go_wp2_with fail
  refine (cp _).mono ?_
  rintro e w2 ⟨y, rfl, hy, hb2⟩
  obtain ⟨g0, cap0, gp, capp, rfl, rfl, st0⟩ := sum_start (w := w) (by omega) (bitsL_len W f) (bitsL_len W p) X.out.1 X.out.2 hy hb2
  replace st0 : Hid (SumSt w w2 (kcs W p f true z) g0 cap0 gp capp W (bitsL f W) (bitsL p W)) := st0
  have lp : Hid ((bitsL p W).length = W) := bitsL_len W p
  have lf : Hid ((bitsL f W).length = W) := bitsL_len W f
  have hS2 : Hid (numL (revL true (bitsL f W)) ^^^ z = S) := hS
  clear hy hb2 X k0 k1 cp hS
  generalize bitsL p W = pl at *
  generalize bitsL f W = fl at *
  go_wp2
  go_loop [5, 7] (fun r i => r = .slice (some ⟨g0, 0, none⟩) W cap0 ∧ i = .int .i64 0) (fun _ _ => 0)
  case atStart => exact ⟨rfl, rfl⟩
  case round =>
    obtain ⟨rfl, rfl⟩ := hrel
    clear lf
    have st := st0
    clear st0
    generalize w2 = wr at *
    generalize g0 = g at *
    generalize cap0 = cap at *
    generalize fl = rl at *
    have kt := st.out.kind.1
    have kz := st.out.kind.2
    have lr : rl.length = W := st.out.r.1
    have R0 : Hid (Row wr w.heap.size (.slice (some ⟨g, 0, none⟩) W cap) rl) := st.out.r.row (Nat.le_of_lt st.out.gl)
    go_wp2_with fail
    refine (turned_any rl _ w.heap.size wr R0.out (by omega)).mono ?_
    rintro e w4 ⟨y2, rfl, hy2, hb4⟩
    have Y : Hid (Row w4 wr.heap.size y2 rl.reverse) := hy2
    replace st : Hid (SumSt w w4 (kcs W p f true z) g cap gp capp W rl pl) := st.out.below hb4
    clear kt kz hy2 hb4 R0
    have kz := st.out.kind.2
    have B4 : Hid (Below w.heap.size w w4) := st.out.b
    have hfin : Hid (numL rl.reverse ^^^ z = S) := hS2
    have fn : Hid (∀ n, Calls Try.prog 45 #[y2] (w4.drewN n) fun e w' => e = .returned (.int .u32 ((numL rl.reverse : Nat) : Int)) ∧ w' = w4.drewN n) := fun n => number_any rl.reverse y2 wr.heap.size (w4.drewN n) (Y.out.below (below_drN (Below.refl _ _) n)) (by rw [List.length_reverse]; omega)
    have nb : numL rl.reverse < 4294967296 := num32 (by rw [List.length_reverse]; omega)
    clear st hS2 lr lp Y
    generalize numL rl.reverse = M at *
    go_wp2_with fail
    go_quiet (first | (go_at_call 45; refine Calls.quiet_of_same (fn.out _)))
    clear fn
    go_wp2
    go_ret
    exact ⟨ret_x nb hz hfin.out, below_drN B4.out _⟩

set_option maxRecDepth 100000 in
set_option maxHeartbeats 4000000 in
theorem rsum0_false (W p f : Nat) (z : Nat) (w : World) (hW : 8 ≤ (W : Int) ∧ (W : Int) ≤ 32) (hz : z < 4294967296) (cf : BitsC f W) (cp : BitsC p W) (S : Nat) (hS : Hid (sumL W p f false z [] = S)) :
    Calls Try.prog 16 #[kv (W : Int) p f false z, .slice none 0 0] w fun e w' => e = .returned (.int .u32 (S : Int)) ∧ Below w.heap.size w w' := by
  obtain ⟨i0, hi, hz0, hz1, hz2⟩ := info_parts info_bool
  go_enter Try.func16, Try.ntmps16
  go_wp2_with fail
  refine (cf _).mono ?_
  rintro e w1 ⟨x, rfl, hx, hb1⟩
  have X : Hid (Row w1 (w.alloc (.cells (kcs W p f false z) 53)).heap.size x (bitsL f W) ∧ Below (w.alloc (.cells (kcs W p f false z) 53)).heap.size (w.alloc (.cells (kcs W p f false z) 53)) w1) := ⟨hx, hb1⟩
  have k0 : w1.cell? ⟨w.heap.size, 0, none⟩ = some (.int .i64 (W : Int)) := (hb1.cell (p := ⟨w.heap.size, 0, none⟩) (by simp)).trans (by simp)
  have k1 : w1.cell? ⟨w.heap.size, 1, none⟩ = some (.int .u32 (p : Int)) := (hb1.cell (p := ⟨w.heap.size, 1, none⟩) (by simp)).trans (by simp)
  clear hx hb1 cf
  go_wp2_with fail
  refine (cp _).mono ?_
  rintro e w2 ⟨y, rfl, hy, hb2⟩
  obtain ⟨g0, cap0, gp, capp, rfl, rfl, st0⟩ := sum_start (w := w) (by omega) (bitsL_len W f) (bitsL_len W p) X.out.1 X.out.2 hy hb2
  replace st0 : Hid (SumSt w w2 (kcs W p f false z) g0 cap0 gp capp W (bitsL f W) (bitsL p W)) := st0
  have lp : Hid ((bitsL p W).length = W) := bitsL_len W p
  have lf : Hid ((bitsL f W).length = W) := bitsL_len W f
  have hS2 : Hid (numL (revL false (bitsL f W)) ^^^ z = S) := hS
  clear hy hb2 X k0 k1 cp hS
  generalize bitsL p W = pl at *
  generalize bitsL f W = fl at *
  go_wp2
  go_loop [5, 7] (fun r i => r = .slice (some ⟨g0, 0, none⟩) W cap0 ∧ i = .int .i64 0) (fun _ _ => 0)
  case atStart => exact ⟨rfl, rfl⟩
  case round =>
    obtain ⟨rfl, rfl⟩ := hrel
    clear lf
    have st := st0
    clear st0
    generalize w2 = wr at *
    generalize g0 = g at *
    generalize cap0 = cap at *
    generalize fl = rl at *
    have kt := st.out.kind.1
    have kz := st.out.kind.2
    have lr : rl.length = W := st.out.r.1
    have B4 : Hid (Below w.heap.size w wr) := st.out.b
    have hfin : Hid (numL rl ^^^ z = S) := hS2
    have R0 : Hid (Row wr w.heap.size (.slice (some ⟨g, 0, none⟩) W cap) rl) := st.out.r.row (Nat.le_of_lt st.out.gl)
    have fn : Hid (∀ n, Calls Try.prog 45 #[.slice (some ⟨g, 0, none⟩) W cap] (wr.drewN n) fun e w' => e = .returned (.int .u32 ((numL rl : Nat) : Int)) ∧ w' = wr.drewN n) := fun n => number_any rl _ w.heap.size (wr.drewN n) (R0.out.below (below_drN (Below.refl _ _) n)) (by omega)
    have nb : numL rl < 4294967296 := num32 (by omega)
    clear R0
    clear st hS2 lr lp 
    generalize numL rl = M at *
    go_wp2_with fail
    go_quiet (first | (go_at_call 45; refine Calls.quiet_of_same (fn.out _)))
    clear fn
    go_wp2
    go_ret
    exact ⟨ret_x nb hz hfin.out, below_drN B4.out _⟩


theorem rsum_any (W p f : Nat) (t : Bool) (z : Nat) (b : Value) (bs : List Nat) (w : World) (hW : W = 8 ∨ W = 16 ∨ W = 32) (hp : p < 4294967296) (hf : f < 4294967296) (hz : z < 4294967296) (hbs : AllBytes bs) (hlen : (bs.length : Int) ≤ 9223372036854775807) (h : BytesAt w b bs) :
    Calls Try.prog 16 #[kv (W : Int) p f t z, b] w fun e w' => e = .returned (.int .u32 ((sumL W p f t z bs : Nat) : Int)) ∧ Below w.heap.size w w' := by
  have cf : BitsC f W := bitsC hf (by omega)
  have cp : BitsC p W := bitsC hp (by omega)
  rcases h with ⟨rfl, rfl⟩ | ⟨g, o, cap, rfl, h1, h2⟩
  · cases t
    · exact rsum0_false W p f z w ⟨by omega, by omega⟩ hz cf cp _ rfl
    · exact rsum0_true W p f z w ⟨by omega, by omega⟩ hz cf cp _ rfl
  · cases t
    · exact rsum_false W p f z bs g o cap w ⟨by omega, by omega⟩ hz cf cp hbs hlen h1 h2 _ rfl
    · exact rsum_true W p f z bs g o cap w ⟨by omega, by omega⟩ hz cf cp hbs hlen h1 h2 _ rfl
end Go.Proofs.Ytllkkgcfhphgmaa
/-
  What laws are handed: numbers of their kinds, a slice of bytes. No conditions but those that each says.
-/
namespace Go.Proofs.Ytllkkgcfhphgmaa
open Go.ChangeShapes Go.WideShapes Go.ChangeAt Go.RowKit
set_option linter.unusedVariables false

end Go.Proofs.Ytllkkgcfhphgmaa
/-
  What frames end with, plainly: sums, mixtures, Fletcher's sum, a number's bytes; the endings kind by kind (layer 5). No conditions but those that each says.
-/
namespace Go.Proofs.Ytllkkgcfhphgmaa
open Go.RowKit
set_option linter.unusedVariables false

/-! sums -/
def totN (bs : List Nat) : Nat := bs.foldl (fun a c => a + c) 0
def mixB (bs : List Nat) : Nat := bs.foldl (fun a c => a ^^^ c) 0
/-- the sum of the sums behind each byte -/
def secN (bs : List Nat) : Nat × Nat := bs.foldl (fun a c => (a.1 + c, a.2 + (a.1 + c))) (0, 0)
theorem totN_snoc (bs : List Nat) (c : Nat) : totN (bs ++ [c]) = totN bs + c := by simp [totN]
theorem mixB_snoc (bs : List Nat) (c : Nat) : mixB (bs ++ [c]) = mixB bs ^^^ c := by simp [mixB]
theorem secN_snoc (bs : List Nat) (c : Nat) : secN (bs ++ [c]) = ((secN bs).1 + c, (secN bs).2 + ((secN bs).1 + c)) := by simp [secN]
theorem secN_one (bs : List Nat) : (secN bs).1 = totN bs := by
  induction bs using snoc_ind with
  | h0 => rfl
  | h1 bs c ih => rw [secN_snoc, totN_snoc, ih]
theorem tot_le {bs : List Nat} (h : AllBytes bs) : totN bs ≤ 255 * bs.length := by
  induction bs using snoc_ind with
  | h0 => exact Nat.le_refl _
  | h1 bs c ih =>
    have h1 := ih (fun x hx => h x (by simp [hx]))
    have h2 := h c (by simp)
    rw [totN_snoc, List.length_append, List.length_singleton]
    omega
theorem sec_le {bs : List Nat} (h : AllBytes bs) : (secN bs).2 ≤ 255 * bs.length * bs.length := by
  induction bs using snoc_ind with
  | h0 => exact Nat.le_refl _
  | h1 bs c ih =>
    have hp : AllBytes bs := fun x hx => h x (by simp [hx])
    have h1 := ih hp
    have h2 := h c (by simp)
    have h3 := tot_le hp
    rw [secN_snoc, List.length_append, List.length_singleton]
    simp only
    rw [secN_one]
    generalize bs.length = n at *
    have e : 255 * (n + 1) * (n + 1) = 255 * n * n + 255 * n + 255 * n + 255 := by grind
    omega
theorem mix_lt {bs : List Nat} (h : AllBytes bs) : mixB bs < 256 := by
  induction bs using snoc_ind with
  | h0 => decide
  | h1 bs c ih =>
    rw [mixB_snoc]
    exact Nat.xor_lt_two_pow (n := 8) (ih (fun x hx => h x (by simp [hx]))) (h c (by simp))

end Go.Proofs.Ytllkkgcfhphgmaa
/-
  Rows of bytes that a law makes (layer 4): laid, grown, written in place, read. No conditions but those that each says.
-/
namespace Go.Proofs.Ytllkkgcfhphgmaa
open Go.RowKit
set_option linter.unusedVariables false

end Go.Proofs.Ytllkkgcfhphgmaa
/-
  What the document's own big returns (layer 5). Conditions: as it says.
-/
namespace Go.Proofs.Ytllkkgcfhphgmaa
open Go.RowKit
set_option linter.unusedVariables false


set_option maxHeartbeats 4000000 in
theorem big_any (v n : Nat) (w : World) (hv : v < 4294967296) (hn : n ≤ 40) :
    Calls Try.prog 15 #[.int .u32 (v : Int), .int .i64 (n : Int)] w fun e w' => ∃ x, e = .returned x ∧ RowB w' w.heap.size x (bigL v n) ∧ Below w.heap.size w w' := by
  obtain ⟨i0, hi, hz0, hz1, hz2⟩ := info_parts info_u8
  have hni : (n : Int) ≤ 40 := by omega
  go_enter Try.func15, Try.ntmps15
  go_wp2
  go_loopw [0, 5, 6] (fun a o i wr => ∃ k m : Nat, k ≤ n ∧ i = .int .i64 (k : Int) ∧ a = .int .u32 (m : Int) ∧ Hid (m = v / 256 ^ k) ∧ Hid (RowB wr w.heap.size o (bigL v k)) ∧ Hid (Below w.heap.size w wr)) (fun _ _ i _ => n - (intOf i).toNat)
  case atStart => exact ⟨0, v, by omega, rfl, rfl, by show _ = _; simp, World.ownsRow_nil _ _ _ _, Below.refl _ _⟩
  case round =>
    obtain ⟨k, m, hk, rfl, rfl, hm, hrow, hB⟩ := hrel
    have hmb : (0 : Int) ≤ (m : Int) ∧ (m : Int) < 4294967296 := by
      have : v / 256 ^ k ≤ v := Nat.div_le_self _ _
      have := hm.out
      exact ⟨by omega, by omega⟩
    by_cases hlt : k < n
    · have hki : (k : Int) < (n : Int) := by omega
      obtain ⟨b, hb⟩ : ∃ b : Nat, b = m % 256 := ⟨_, rfl⟩
      have hbit : Hid (bigL v (k + 1) = b :: bigL v k) := by
        show _ = _
        rw [hb, hm.out]; exact bigL_cons k v
      have hdiv : Hid (m / 256 = v / 256 ^ (k + 1)) := by
        show _ = _
        rw [hm.out, Nat.div_div_eq_div_mul, Nat.pow_succ]
      have hb1 : (m : Int) % 256 = (b : Int) := by omega
      have hb2 : IntKind.u8.wrap (b : Int) = (b : Int) := by simp only [IntKind.wrap_u8']; omega
      rcases hrow.out.form with ⟨rfl, hz⟩ | ⟨g, cap, rfl, hc, hg, hgl⟩
      · have hr1 : Hid (RowB (wr.alloc (.cells #[.int .u8 (b : Int)] 5)) w.heap.size (.slice (some ⟨wr.heap.size, 0, none⟩) 1 1) (bigL v (k + 1))) := by
          unfold Hid RowB
          rw [hbit.out, hz]; exact rowB_one wr _ _ hB.out.size
        have hB1 : Hid (Below w.heap.size w (wr.alloc (.cells #[.int .u8 (b : Int)] 5))) := hB.out.alloc hB.out.size _
        clear hbit hm hb
        go_wp2
        exact ⟨⟨k + 1, m / 256, by omega, by simp, by simp, hdiv, hr1, hB1⟩, by simp [intOf]; omega⟩
      · have hkl : (bigL v k).length = k := bigL_len k v
        have hone : ∀ u ∈ u8v (bigL v k), u.oneCell' = true := bytes_one _
        have h63 : 1 + (bigL v k).length ≤ maxLen := by unfold maxLen; omega
        have hby : (1 + (bigL v k).length) * 1 ≤ 140737488355328 := by omega
        have hsz := hB.out.size
        clear hb
        go_wp2_with (at_builtin; refine wpList_append_own _ rfl _ _ 23 rfl w.heap.size 5 i0 (.int .u8 0) 1 1 Try.underlying23 hi hz0 hz1 hz2 rfl (by decide) _ _ _ rfl (rowB_one wr w.heap.size b hsz) ⟨g, 0, none⟩ (bigL v k).length cap (u8v (bigL v k)) rfl (by simp) ((World.ownsRow.alloc hrow.out _).cells rfl) hone h63 hby (by simp; omega) ?_; intro v' w1 hown' hgrow _)
        have hr1 : RowB w1 w.heap.size v' (bigL v (k + 1)) := by
          unfold RowB
          rw [hbit.out, List.length_cons, Nat.add_comm]
          exact hown'
        have hB1 : Below w.heap.size w w1 := by
          refine (hB.out.alloc hsz _).grown hgrow (by simp; omega) (fun j ej => ?_)
          exact (World.ownsRow.lt (rowB_one wr w.heap.size b hsz) j ej).1
        exact ⟨⟨k + 1, m / 256, by omega, by simp, by simp, hdiv, hr1, hB1⟩, by simp [intOf]; omega⟩
    · obtain rfl : k = n := by omega
      go_wp2
      go_ret
      exact ⟨_, rfl, hrow.out, hB.out⟩
end Go.Proofs.Ytllkkgcfhphgmaa
/-
  What the program's own sums keep from byte to byte (layer 4). No conditions but those that each says.
-/
namespace Go.Proofs.Ytllkkgcfhphgmaa
open Go.RowKit
set_option linter.unusedVariables false

theorem mixN_lt {w r c : Nat} (hw : 8 ≤ w) (hr : r < 2 ^ w) (hc : c < 256) : mixN w r c < 2 ^ w := by
  refine Nat.xor_lt_two_pow hr ?_
  have e : 2 ^ w = 256 * 2 ^ (w - 8) := by rw [show (256 : Nat) = 2 ^ 8 from rfl, ← Nat.pow_add]; congr 1; omega
  rw [e]
  exact Nat.mul_lt_mul_of_pos_right hc (Nat.two_pow_pos _)
theorem byN_lt {w p r c : Nat} (hw : 8 ≤ w) (hp : p < 2 ^ w) (hr : r < 2 ^ w) (hc : c < 256) : byN w p r c < 2 ^ w := itN_lt (by omega) hp 8 (mixN_lt hw hr hc)
/-- a byte, turned if told so -/
def bcN (t : Bool) (c : Nat) : Nat := if t = true then turnL c 8 else c
theorem bcN_lt {t : Bool} {c : Nat} (h : c < 256) : bcN t c < 256 := by
  unfold bcN
  cases t
  · exact h
  · exact turn_lt c 8
/-- what is left to do behind k bytes -/
def LeftN (W p : Nat) (t : Bool) (bs : List Nat) (x k T : Nat) : Prop := ((bs.drop k).map (bcN t)).foldl (byN W p) x = T
theorem LeftN.next {W p : Nat} {t : Bool} {bs : List Nat} {x k T : Nat} (h : LeftN W p t bs x k T) (hk : k < bs.length) : LeftN W p t bs (byN W p x (bcN t bs[k])) (k + 1) T := by
  unfold LeftN at *
  rw [List.drop_eq_getElem_cons hk] at h
  exact h
theorem LeftN.done {W p : Nat} {t : Bool} {bs : List Nat} {x T : Nat} (h : LeftN W p t bs x bs.length T) : x = T := by
  unfold LeftN at h; rw [List.drop_length] at h; exact h
theorem sumN_of (W p f : Nat) (t : Bool) (z : Nat) (bs : List Nat) : ∃ T, LeftN W p t bs f 0 T ∧ sumN W p f t z bs = (if t = true then turnL T W else T) ^^^ z := ⟨_, rfl, rfl⟩
/-- the kind lies in the first new block -/
structure KSt (w x : World) (kc : Array Value) : Prop where
  k : x.heap[w.heap.size]? = some (.cells kc 107 (0, 0))
  b : Below w.heap.size w x
theorem KSt.first (w : World) (kc : Array Value) : KSt w (w.alloc (.cells kc 107)) kc := ⟨World.alloc_heap_new w _, (Below.refl _ _).alloc (Nat.le_refl _) _⟩
theorem KSt.drewN {w x : World} {kc : Array Value} (h : KSt w x kc) (n : Nat) : KSt w (x.drewN n) kc := ⟨h.k, below_drN h.b n⟩
theorem KSt.cells {w x : World} {W p f : Nat} {t : Bool} {z : Nat} (h : KSt w x (kcs W p f t z)) : x.cell? ⟨w.heap.size, 0, none⟩ = some (.int .i64 (W : Int)) ∧ x.cell? ⟨w.heap.size, 1, none⟩ = some (.int .u32 (p : Int)) ∧ x.cell? ⟨w.heap.size, 3, none⟩ = some (.bool t) ∧ x.cell? ⟨w.heap.size, 4, none⟩ = some (.int .u32 (z : Int)) := by
  simp [World.cell?, h.k]
/-- what the program's Turn returns here -/
def TurnC (c d : Nat) (n : Int) : Prop := ∀ w, Calls Try.prog 76 #[.int .u32 (c : Int), .int .i64 n] w fun e w' => e = .returned (.int .u32 (d : Int)) ∧ w' = w
theorem turnC {c n : Nat} (hc : c < 4294967296) (h1 : 1 ≤ n) (h2 : n ≤ 32) : TurnC c (turnL c n) (n : Int) := fun w => by
  have h := turn_any c (n : Int) w hc ⟨by omega, by omega⟩
  have e : turnV c (n : Int) = turnL c n := by unfold turnV; rw [if_pos ⟨by omega, by omega⟩, Int.toNat_natCast]
  rw [e] at h
  exact h
theorem ret_pair {a b : Nat} {e : Int} (h : a = b) : Ending.returned (.tuple #[.int .u32 (a : Int), .int .i64 e]) = .returned (.tuple #[.int .u32 (b : Int), .int .i64 e]) := by rw [h]
end Go.Proofs.Ytllkkgcfhphgmaa
/-
  What the program's own sum of width 8 returns (layer 4). Conditions: the numbers are below 2 to the width; the bytes lie in memory that was there before.
-/
namespace Go.Proofs.Ytllkkgcfhphgmaa
open Go.RowKit
set_option linter.unusedVariables false

set_option maxRecDepth 100000 in
set_option maxHeartbeats 4000000 in
theorem sum80_false (p f z : Nat) (w : World) (hp : p < 256) (hf : f < 256) (hz : z < 256) :
    Calls Try.prog 72 #[kv 8 p f false z, .slice none 0 0] w fun e w' => e = .returned (.tuple #[.int .u32 ((sumN 8 p f false z [] : Nat) : Int), .int .i64 0]) ∧ Below w.heap.size w w' := by
  obtain ⟨T, L0, hS⟩ := sumN_of 8 p f false z []
  obtain ⟨S, hS2⟩ : ∃ S, sumN 8 p f false z [] = S := ⟨_, rfl⟩
  rw [hS2]
  rw [hS2] at hS
  clear hS2
  replace hS : Hid (S = T ^^^ z) := hS
  replace L0 : Hid (LeftN 8 p false [] f 0 T) := L0
  have K0 : Hid (KSt w (w.alloc (.cells (kcs 8 p f false z) 107)) (kcs 8 p f false z)) := KSt.first w _
  have af : IntKind.u8.wrap (f : Int) = (f : Int) := by simp only [IntKind.wrap_u8']; omega
  have ap : IntKind.u8.wrap (p : Int) = (p : Int) := by simp only [IntKind.wrap_u8']; omega
  go_enter Try.func72, Try.ntmps72
  go_wp2_with (go_at_call 75; refine (fits8_yes _ _ (by assumption)).mono ?_; rintro e w' ⟨rfl, rfl⟩)
  go_loopw [6, 30] (fun r i wr => ∃ k x : Nat, k ≤ 0 ∧ x < 256 ∧ r = .int .u8 (x : Int) ∧ i = .int .i64 (k : Int) ∧ Hid (KSt w wr (kcs 8 p f false z)) ∧ Hid (LeftN 8 p false [] x k T)) (fun _ i _ => 0 - (intOf i).toNat)
  case atStart => exact ⟨0, f, by omega, hf, rfl, rfl, K0, L0⟩
  case round =>
    obtain ⟨k, x, hk, hx, rfl, rfl, ks, L⟩ := hrel
    clear K0 L0 af
    obtain ⟨k0, k1, k3, k4⟩ := ks.out.cells
    obtain rfl : k = 0 := by omega
    have dn : T = x := L.out.done.symm
    clear hk
    · clear ap
      have B : Hid (Below w.heap.size w wr) := ks.out.b
      have ax : IntKind.u32.wrap (x : Int) = (x : Int) := by simp only [IntKind.wrap_u32']; omega
      have fin : Hid (S = x ^^^ z) := by unfold Hid; rw [hS.out, dn]
      have ex : bits .xor .u32 (x : Int) (z : Int) = (S : Int) := by rw [u32_xor_nat x z (by omega) (by omega), fin.out]
      clear L ks hS fin
      go_wp2
      go_ret2
      exact ⟨rfl, B.out⟩

set_option maxRecDepth 100000 in
set_option maxHeartbeats 4000000 in
theorem sum8_false (p f z : Nat) (bs : List Nat) (gb ob capb : Nat) (w : World) (hp : p < 256) (hf : f < 256) (hz : z < 256) (hbs : AllBytes bs) (hlen : (bs.length : Int) ≤ 9223372036854775807) (hb : BytesIn w gb ob bs) (hgb : gb < w.heap.size) :
    Calls Try.prog 72 #[kv 8 p f false z, .slice (some ⟨gb, ob, none⟩) bs.length capb] w fun e w' => e = .returned (.tuple #[.int .u32 ((sumN 8 p f false z bs : Nat) : Int), .int .i64 0]) ∧ Below w.heap.size w w' := by
  obtain ⟨T, L0, hS⟩ := sumN_of 8 p f false z bs
  obtain ⟨S, hS2⟩ : ∃ S, sumN 8 p f false z bs = S := ⟨_, rfl⟩
  rw [hS2]
  rw [hS2] at hS
  clear hS2
  replace hS : Hid (S = T ^^^ z) := hS
  replace L0 : Hid (LeftN 8 p false bs f 0 T) := L0
  have K0 : Hid (KSt w (w.alloc (.cells (kcs 8 p f false z) 107)) (kcs 8 p f false z)) := KSt.first w _
  have af : IntKind.u8.wrap (f : Int) = (f : Int) := by simp only [IntKind.wrap_u8']; omega
  have ap : IntKind.u8.wrap (p : Int) = (p : Int) := by simp only [IntKind.wrap_u8']; omega
  go_enter Try.func72, Try.ntmps72
  go_wp2_with (go_at_call 75; refine (fits8_yes _ _ (by assumption)).mono ?_; rintro e w' ⟨rfl, rfl⟩)
  go_loopw [6, 30] (fun r i wr => ∃ k x : Nat, k ≤ bs.length ∧ x < 256 ∧ r = .int .u8 (x : Int) ∧ i = .int .i64 (k : Int) ∧ Hid (KSt w wr (kcs 8 p f false z)) ∧ Hid (LeftN 8 p false bs x k T)) (fun _ i _ => bs.length - (intOf i).toNat)
  case atStart => exact ⟨0, f, by omega, hf, rfl, rfl, K0, L0⟩
  case round =>
    obtain ⟨k, x, hk, hx, rfl, rfl, ks, L⟩ := hrel
    clear K0 L0 af
    obtain ⟨k0, k1, k3, k4⟩ := ks.out.cells
    by_cases hlt : k < bs.length
    · have hki : (k : Int) < (bs.length : Int) := by omega
      have hbk := hb.at hgb ks.out.b k hlt
      have hc : bs[k] < 256 := hbs bs[k] (List.getElem_mem hlt)
      have L1 : Hid (LeftN 8 p false bs (byN 8 p x (bcN false bs[k])) (k + 1) T) := L.out.next hlt
      clear L
      generalize bs[k] = c at *
      have hd : bcN false c < 256 := bcN_lt hc
      have hm : mixN 8 x (bcN false c) < 256 := mixN_lt (w := 8) (by omega) hx hd
      have hy : Hid (byN 8 p x (bcN false c) < 256) := byN_lt (w := 8) (by omega) hp hx hd
      have em : Hid (mixN 8 x (bcN false c) = x ^^^ (bcN false c * 1)) := rfl
      have eb : Hid (byN 8 p x (bcN false c) = itN 8 p 8 (mixN 8 x (bcN false c))) := rfl
      replace eb : Hid (byN 8 p x c = itN 8 p 8 (mixN 8 x c)) := eb
      replace em : Hid (mixN 8 x c = x ^^^ (c * 1)) := em
      replace hy : Hid (byN 8 p x c < 256) := hy
      replace hm : mixN 8 x c < 256 := hm
      replace L1 : Hid (LeftN 8 p false bs (byN 8 p x c) (k + 1) T) := L1
      clear hd
      have ad8 : IntKind.u8.wrap (c : Int) = (c : Int) := by simp only [IntKind.wrap_u8']; omega
      obtain ⟨Y, hY⟩ : ∃ Y, byN 8 p x c = Y := ⟨_, rfl⟩
      rw [hY] at eb hy L1
      clear hY
      replace hy : Hid (Y < 256) := hy
      replace L1 : Hid (LeftN 8 p false bs Y (k + 1) T) := L1
      have dc : Hid (∀ w, Calls Try.prog 77 #[.int .u8 ((mixN 8 x c : Nat) : Int), .int .u8 (p : Int), .int .i64 8] w fun e w' => e = .returned (.int .u8 (Y : Int)) ∧ w' = w) := by
        rw [show Y = itN 8 p 8 (mixN 8 x c) from eb.out]
        exact fun w => div8_any _ p w hm hp
      have axr : bits .xor .u8 (x : Int) (c : Int) = ((mixN 8 x c : Nat) : Int) := by
        rw [em.out, ← u8_xor_nat x (c * 1) hx (by omega)]
        simp
      clear em eb
      generalize mixN 8 x c = m at *
      go_wp2_with fail
      go_quiet (first | (go_at_call 77; refine Calls.quiet_of_same (dc.out _)))
      go_wp2
      exact ⟨⟨k + 1, Y, by omega, hy.out, rfl, by simp, ks.out.drewN _, L1⟩, by simp [intOf]; omega⟩
    · obtain rfl : k = bs.length := by omega
      have dn : T = x := L.out.done.symm
      clear ap
      have B : Hid (Below w.heap.size w wr) := ks.out.b
      have ax : IntKind.u32.wrap (x : Int) = (x : Int) := by simp only [IntKind.wrap_u32']; omega
      have fin : Hid (S = x ^^^ z) := by unfold Hid; rw [hS.out, dn]
      have ex : bits .xor .u32 (x : Int) (z : Int) = (S : Int) := by rw [u32_xor_nat x z (by omega) (by omega), fin.out]
      clear L ks hS fin
      go_wp2
      go_ret2
      exact ⟨rfl, B.out⟩

set_option maxRecDepth 100000 in
set_option maxHeartbeats 4000000 in
theorem sum80_true (p f z : Nat) (w : World) (hp : p < 256) (hf : f < 256) (hz : z < 256) :
    Calls Try.prog 72 #[kv 8 p f true z, .slice none 0 0] w fun e w' => e = .returned (.tuple #[.int .u32 ((sumN 8 p f true z [] : Nat) : Int), .int .i64 0]) ∧ Below w.heap.size w w' := by
  obtain ⟨T, L0, hS⟩ := sumN_of 8 p f true z []
  obtain ⟨S, hS2⟩ : ∃ S, sumN 8 p f true z [] = S := ⟨_, rfl⟩
  rw [hS2]
  rw [hS2] at hS
  clear hS2
  replace hS : Hid (S = turnL T 8 ^^^ z) := hS
  replace L0 : Hid (LeftN 8 p true [] f 0 T) := L0
  have K0 : Hid (KSt w (w.alloc (.cells (kcs 8 p f true z) 107)) (kcs 8 p f true z)) := KSt.first w _
  have af : IntKind.u8.wrap (f : Int) = (f : Int) := by simp only [IntKind.wrap_u8']; omega
  have ap : IntKind.u8.wrap (p : Int) = (p : Int) := by simp only [IntKind.wrap_u8']; omega
  go_enter Try.func72, Try.ntmps72
  go_wp2_with (go_at_call 75; refine (fits8_yes _ _ (by assumption)).mono ?_; rintro e w' ⟨rfl, rfl⟩)
  go_loopw [6, 30] (fun r i wr => ∃ k x : Nat, k ≤ 0 ∧ x < 256 ∧ r = .int .u8 (x : Int) ∧ i = .int .i64 (k : Int) ∧ Hid (KSt w wr (kcs 8 p f true z)) ∧ Hid (LeftN 8 p true [] x k T)) (fun _ i _ => 0 - (intOf i).toNat)
  case atStart => exact ⟨0, f, by omega, hf, rfl, rfl, K0, L0⟩
  case round =>
    obtain ⟨k, x, hk, hx, rfl, rfl, ks, L⟩ := hrel
    clear K0 L0 af
    obtain ⟨k0, k1, k3, k4⟩ := ks.out.cells
    obtain rfl : k = 0 := by omega
    have dn : T = x := L.out.done.symm
    clear hk
    · clear ap
      have B : Hid (Below w.heap.size w wr) := ks.out.b
      have ax : IntKind.u32.wrap (x : Int) = (x : Int) := by simp only [IntKind.wrap_u32']; omega
      have tc : TurnC x (turnL x 8) 8 := turnC (by omega) (by omega) (by omega)
      have td : turnL x 8 < 256 := turn_lt x 8
      have fin : Hid (S = turnL x 8 ^^^ z) := by unfold Hid; rw [hS.out, dn]
      generalize turnL x 8 = y at *
      have ay : IntKind.u8.wrap (y : Int) = (y : Int) := by simp only [IntKind.wrap_u8']; omega
      have ay2 : IntKind.u32.wrap (y : Int) = (y : Int) := by simp only [IntKind.wrap_u32']; omega
      have ex : bits .xor .u32 (y : Int) (z : Int) = (S : Int) := by rw [u32_xor_nat y z (by omega) (by omega), fin.out]
      clear L ks hS fin
      go_wp2_with (go_at_call 76; refine (tc _).mono ?_; rintro e w' ⟨rfl, rfl⟩)
      go_ret2
      exact ⟨rfl, B.out⟩

set_option maxRecDepth 100000 in
set_option maxHeartbeats 4000000 in
theorem sum8_true (p f z : Nat) (bs : List Nat) (gb ob capb : Nat) (w : World) (hp : p < 256) (hf : f < 256) (hz : z < 256) (hbs : AllBytes bs) (hlen : (bs.length : Int) ≤ 9223372036854775807) (hb : BytesIn w gb ob bs) (hgb : gb < w.heap.size) :
    Calls Try.prog 72 #[kv 8 p f true z, .slice (some ⟨gb, ob, none⟩) bs.length capb] w fun e w' => e = .returned (.tuple #[.int .u32 ((sumN 8 p f true z bs : Nat) : Int), .int .i64 0]) ∧ Below w.heap.size w w' := by
  obtain ⟨T, L0, hS⟩ := sumN_of 8 p f true z bs
  obtain ⟨S, hS2⟩ : ∃ S, sumN 8 p f true z bs = S := ⟨_, rfl⟩
  rw [hS2]
  rw [hS2] at hS
  clear hS2
  replace hS : Hid (S = turnL T 8 ^^^ z) := hS
  replace L0 : Hid (LeftN 8 p true bs f 0 T) := L0
  have K0 : Hid (KSt w (w.alloc (.cells (kcs 8 p f true z) 107)) (kcs 8 p f true z)) := KSt.first w _
  have af : IntKind.u8.wrap (f : Int) = (f : Int) := by simp only [IntKind.wrap_u8']; omega
  have ap : IntKind.u8.wrap (p : Int) = (p : Int) := by simp only [IntKind.wrap_u8']; omega
  go_enter Try.func72, Try.ntmps72
  go_wp2_with (go_at_call 75; refine (fits8_yes _ _ (by assumption)).mono ?_; rintro e w' ⟨rfl, rfl⟩)
  go_loopw [6, 30] (fun r i wr => ∃ k x : Nat, k ≤ bs.length ∧ x < 256 ∧ r = .int .u8 (x : Int) ∧ i = .int .i64 (k : Int) ∧ Hid (KSt w wr (kcs 8 p f true z)) ∧ Hid (LeftN 8 p true bs x k T)) (fun _ i _ => bs.length - (intOf i).toNat)
  case atStart => exact ⟨0, f, by omega, hf, rfl, rfl, K0, L0⟩
  case round =>
    obtain ⟨k, x, hk, hx, rfl, rfl, ks, L⟩ := hrel
    clear K0 L0 af
    obtain ⟨k0, k1, k3, k4⟩ := ks.out.cells
    by_cases hlt : k < bs.length
    · have hki : (k : Int) < (bs.length : Int) := by omega
      have hbk := hb.at hgb ks.out.b k hlt
      have hc : bs[k] < 256 := hbs bs[k] (List.getElem_mem hlt)
      have L1 : Hid (LeftN 8 p true bs (byN 8 p x (bcN true bs[k])) (k + 1) T) := L.out.next hlt
      clear L
      generalize bs[k] = c at *
      have hd : bcN true c < 256 := bcN_lt hc
      have hm : mixN 8 x (bcN true c) < 256 := mixN_lt (w := 8) (by omega) hx hd
      have hy : Hid (byN 8 p x (bcN true c) < 256) := byN_lt (w := 8) (by omega) hp hx hd
      have em : Hid (mixN 8 x (bcN true c) = x ^^^ (bcN true c * 1)) := rfl
      have eb : Hid (byN 8 p x (bcN true c) = itN 8 p 8 (mixN 8 x (bcN true c))) := rfl
      have tc : TurnC c (bcN true c) 8 := turnC (by omega) (by omega) (by omega)
      have ac : IntKind.u32.wrap (c : Int) = (c : Int) := by simp only [IntKind.wrap_u32']; omega
      generalize bcN true c = d at *
      have ad8 : IntKind.u8.wrap (d : Int) = (d : Int) := by simp only [IntKind.wrap_u8']; omega
      obtain ⟨Y, hY⟩ : ∃ Y, byN 8 p x d = Y := ⟨_, rfl⟩
      rw [hY] at eb hy L1
      clear hY
      replace hy : Hid (Y < 256) := hy
      replace L1 : Hid (LeftN 8 p true bs Y (k + 1) T) := L1
      have dc : Hid (∀ w, Calls Try.prog 77 #[.int .u8 ((mixN 8 x d : Nat) : Int), .int .u8 (p : Int), .int .i64 8] w fun e w' => e = .returned (.int .u8 (Y : Int)) ∧ w' = w) := by
        rw [show Y = itN 8 p 8 (mixN 8 x d) from eb.out]
        exact fun w => div8_any _ p w hm hp
      have axr : bits .xor .u8 (x : Int) (d : Int) = ((mixN 8 x d : Nat) : Int) := by
        rw [em.out, ← u8_xor_nat x (d * 1) hx (by omega)]
        simp
      clear em eb
      generalize mixN 8 x d = m at *
      go_wp2_with (go_at_call 76; refine (tc _).mono ?_; rintro e w' ⟨rfl, rfl⟩)
      go_quiet (first | (go_at_call 77; refine Calls.quiet_of_same (dc.out _)))
      go_wp2
      exact ⟨⟨k + 1, Y, by omega, hy.out, rfl, by simp, ks.out.drewN _, L1⟩, by simp [intOf]; omega⟩
    · obtain rfl : k = bs.length := by omega
      have dn : T = x := L.out.done.symm
      clear ap
      have B : Hid (Below w.heap.size w wr) := ks.out.b
      have ax : IntKind.u32.wrap (x : Int) = (x : Int) := by simp only [IntKind.wrap_u32']; omega
      have tc : TurnC x (turnL x 8) 8 := turnC (by omega) (by omega) (by omega)
      have td : turnL x 8 < 256 := turn_lt x 8
      have fin : Hid (S = turnL x 8 ^^^ z) := by unfold Hid; rw [hS.out, dn]
      generalize turnL x 8 = y at *
      have ay : IntKind.u8.wrap (y : Int) = (y : Int) := by simp only [IntKind.wrap_u8']; omega
      have ay2 : IntKind.u32.wrap (y : Int) = (y : Int) := by simp only [IntKind.wrap_u32']; omega
      have ex : bits .xor .u32 (y : Int) (z : Int) = (S : Int) := by rw [u32_xor_nat y z (by omega) (by omega), fin.out]
      clear L ks hS fin
      go_wp2_with (go_at_call 76; refine (tc _).mono ?_; rintro e w' ⟨rfl, rfl⟩)
      go_ret2
      exact ⟨rfl, B.out⟩
end Go.Proofs.Ytllkkgcfhphgmaa
/-
  What the program's own sum of width 16 returns (layer 4). Conditions: the numbers are below 2 to the width; the bytes lie in memory that was there before.
-/
namespace Go.Proofs.Ytllkkgcfhphgmaa
open Go.RowKit
set_option linter.unusedVariables false

set_option maxRecDepth 100000 in
set_option maxHeartbeats 4000000 in
theorem sum160_false (p f z : Nat) (w : World) (hp : p < 65536) (hf : f < 65536) (hz : z < 65536) :
    Calls Try.prog 73 #[kv 16 p f false z, .slice none 0 0] w fun e w' => e = .returned (.tuple #[.int .u32 ((sumN 16 p f false z [] : Nat) : Int), .int .i64 0]) ∧ Below w.heap.size w w' := by
  obtain ⟨T, L0, hS⟩ := sumN_of 16 p f false z []
  obtain ⟨S, hS2⟩ : ∃ S, sumN 16 p f false z [] = S := ⟨_, rfl⟩
  rw [hS2]
  rw [hS2] at hS
  clear hS2
  replace hS : Hid (S = T ^^^ z) := hS
  replace L0 : Hid (LeftN 16 p false [] f 0 T) := L0
  have K0 : Hid (KSt w (w.alloc (.cells (kcs 16 p f false z) 107)) (kcs 16 p f false z)) := KSt.first w _
  have af : IntKind.u16.wrap (f : Int) = (f : Int) := by simp only [IntKind.wrap_u16]; omega
  have ap : IntKind.u16.wrap (p : Int) = (p : Int) := by simp only [IntKind.wrap_u16]; omega
  go_enter Try.func73, Try.ntmps73
  go_wp2_with (go_at_call 78; refine (fits16_yes _ _ (by assumption)).mono ?_; rintro e w' ⟨rfl, rfl⟩)
  go_loopw [6, 30] (fun r i wr => ∃ k x : Nat, k ≤ 0 ∧ x < 65536 ∧ r = .int .u16 (x : Int) ∧ i = .int .i64 (k : Int) ∧ Hid (KSt w wr (kcs 16 p f false z)) ∧ Hid (LeftN 16 p false [] x k T)) (fun _ i _ => 0 - (intOf i).toNat)
  case atStart => exact ⟨0, f, by omega, hf, rfl, rfl, K0, L0⟩
  case round =>
    obtain ⟨k, x, hk, hx, rfl, rfl, ks, L⟩ := hrel
    clear K0 L0 af
    obtain ⟨k0, k1, k3, k4⟩ := ks.out.cells
    obtain rfl : k = 0 := by omega
    have dn : T = x := L.out.done.symm
    clear hk
    · clear ap
      have B : Hid (Below w.heap.size w wr) := ks.out.b
      have ax : IntKind.u32.wrap (x : Int) = (x : Int) := by simp only [IntKind.wrap_u32']; omega
      have fin : Hid (S = x ^^^ z) := by unfold Hid; rw [hS.out, dn]
      have ex : bits .xor .u32 (x : Int) (z : Int) = (S : Int) := by rw [u32_xor_nat x z (by omega) (by omega), fin.out]
      clear L ks hS fin
      go_wp2
      go_ret2
      exact ⟨rfl, B.out⟩

set_option maxRecDepth 100000 in
set_option maxHeartbeats 4000000 in
theorem sum16_false (p f z : Nat) (bs : List Nat) (gb ob capb : Nat) (w : World) (hp : p < 65536) (hf : f < 65536) (hz : z < 65536) (hbs : AllBytes bs) (hlen : (bs.length : Int) ≤ 9223372036854775807) (hb : BytesIn w gb ob bs) (hgb : gb < w.heap.size) :
    Calls Try.prog 73 #[kv 16 p f false z, .slice (some ⟨gb, ob, none⟩) bs.length capb] w fun e w' => e = .returned (.tuple #[.int .u32 ((sumN 16 p f false z bs : Nat) : Int), .int .i64 0]) ∧ Below w.heap.size w w' := by
  obtain ⟨T, L0, hS⟩ := sumN_of 16 p f false z bs
  obtain ⟨S, hS2⟩ : ∃ S, sumN 16 p f false z bs = S := ⟨_, rfl⟩
  rw [hS2]
  rw [hS2] at hS
  clear hS2
  replace hS : Hid (S = T ^^^ z) := hS
  replace L0 : Hid (LeftN 16 p false bs f 0 T) := L0
  have K0 : Hid (KSt w (w.alloc (.cells (kcs 16 p f false z) 107)) (kcs 16 p f false z)) := KSt.first w _
  have af : IntKind.u16.wrap (f : Int) = (f : Int) := by simp only [IntKind.wrap_u16]; omega
  have ap : IntKind.u16.wrap (p : Int) = (p : Int) := by simp only [IntKind.wrap_u16]; omega
  go_enter Try.func73, Try.ntmps73
  go_wp2_with (go_at_call 78; refine (fits16_yes _ _ (by assumption)).mono ?_; rintro e w' ⟨rfl, rfl⟩)
  go_loopw [6, 30] (fun r i wr => ∃ k x : Nat, k ≤ bs.length ∧ x < 65536 ∧ r = .int .u16 (x : Int) ∧ i = .int .i64 (k : Int) ∧ Hid (KSt w wr (kcs 16 p f false z)) ∧ Hid (LeftN 16 p false bs x k T)) (fun _ i _ => bs.length - (intOf i).toNat)
  case atStart => exact ⟨0, f, by omega, hf, rfl, rfl, K0, L0⟩
  case round =>
    obtain ⟨k, x, hk, hx, rfl, rfl, ks, L⟩ := hrel
    clear K0 L0 af
    obtain ⟨k0, k1, k3, k4⟩ := ks.out.cells
    by_cases hlt : k < bs.length
    · have hki : (k : Int) < (bs.length : Int) := by omega
      have hbk := hb.at hgb ks.out.b k hlt
      have hc : bs[k] < 256 := hbs bs[k] (List.getElem_mem hlt)
      have L1 : Hid (LeftN 16 p false bs (byN 16 p x (bcN false bs[k])) (k + 1) T) := L.out.next hlt
      clear L
      generalize bs[k] = c at *
      have hd : bcN false c < 256 := bcN_lt hc
      have hm : mixN 16 x (bcN false c) < 65536 := mixN_lt (w := 16) (by omega) hx hd
      have hy : Hid (byN 16 p x (bcN false c) < 65536) := byN_lt (w := 16) (by omega) hp hx hd
      have em : Hid (mixN 16 x (bcN false c) = x ^^^ (bcN false c * 256)) := rfl
      have eb : Hid (byN 16 p x (bcN false c) = itN 16 p 8 (mixN 16 x (bcN false c))) := rfl
      replace eb : Hid (byN 16 p x c = itN 16 p 8 (mixN 16 x c)) := eb
      replace em : Hid (mixN 16 x c = x ^^^ (c * 256)) := em
      replace hy : Hid (byN 16 p x c < 65536) := hy
      replace hm : mixN 16 x c < 65536 := hm
      replace L1 : Hid (LeftN 16 p false bs (byN 16 p x c) (k + 1) T) := L1
      clear hd
      have ad8 : IntKind.u8.wrap (c : Int) = (c : Int) := by simp only [IntKind.wrap_u8']; omega
      have ad : IntKind.u16.wrap (c : Int) = (c : Int) := by simp only [IntKind.wrap_u16]; omega
      have ash : IntKind.u16.wrap ((c : Int) * 256) = (c : Int) * 256 := by simp only [IntKind.wrap_u16]; omega
      obtain ⟨Y, hY⟩ : ∃ Y, byN 16 p x c = Y := ⟨_, rfl⟩
      rw [hY] at eb hy L1
      clear hY
      replace hy : Hid (Y < 65536) := hy
      replace L1 : Hid (LeftN 16 p false bs Y (k + 1) T) := L1
      have dc : Hid (∀ w, Calls Try.prog 79 #[.int .u16 ((mixN 16 x c : Nat) : Int), .int .u16 (p : Int), .int .i64 16] w fun e w' => e = .returned (.int .u16 (Y : Int)) ∧ w' = w) := by
        rw [show Y = itN 16 p 8 (mixN 16 x c) from eb.out]
        exact fun w => div16_any _ p w hm hp
      have axr : bits .xor .u16 (x : Int) ((c : Int) * 256) = ((mixN 16 x c : Nat) : Int) := by
        rw [em.out, ← u16_xor_nat x (c * 256) hx (by omega)]
        rfl
      clear em eb
      generalize mixN 16 x c = m at *
      go_wp2_with fail
      go_quiet (first | (go_at_call 79; refine Calls.quiet_of_same (dc.out _)))
      go_wp2
      exact ⟨⟨k + 1, Y, by omega, hy.out, rfl, by simp, ks.out.drewN _, L1⟩, by simp [intOf]; omega⟩
    · obtain rfl : k = bs.length := by omega
      have dn : T = x := L.out.done.symm
      clear ap
      have B : Hid (Below w.heap.size w wr) := ks.out.b
      have ax : IntKind.u32.wrap (x : Int) = (x : Int) := by simp only [IntKind.wrap_u32']; omega
      have fin : Hid (S = x ^^^ z) := by unfold Hid; rw [hS.out, dn]
      have ex : bits .xor .u32 (x : Int) (z : Int) = (S : Int) := by rw [u32_xor_nat x z (by omega) (by omega), fin.out]
      clear L ks hS fin
      go_wp2
      go_ret2
      exact ⟨rfl, B.out⟩

set_option maxRecDepth 100000 in
set_option maxHeartbeats 4000000 in
theorem sum160_true (p f z : Nat) (w : World) (hp : p < 65536) (hf : f < 65536) (hz : z < 65536) :
    Calls Try.prog 73 #[kv 16 p f true z, .slice none 0 0] w fun e w' => e = .returned (.tuple #[.int .u32 ((sumN 16 p f true z [] : Nat) : Int), .int .i64 0]) ∧ Below w.heap.size w w' := by
  obtain ⟨T, L0, hS⟩ := sumN_of 16 p f true z []
  obtain ⟨S, hS2⟩ : ∃ S, sumN 16 p f true z [] = S := ⟨_, rfl⟩
  rw [hS2]
  rw [hS2] at hS
  clear hS2
  replace hS : Hid (S = turnL T 16 ^^^ z) := hS
  replace L0 : Hid (LeftN 16 p true [] f 0 T) := L0
  have K0 : Hid (KSt w (w.alloc (.cells (kcs 16 p f true z) 107)) (kcs 16 p f true z)) := KSt.first w _
  have af : IntKind.u16.wrap (f : Int) = (f : Int) := by simp only [IntKind.wrap_u16]; omega
  have ap : IntKind.u16.wrap (p : Int) = (p : Int) := by simp only [IntKind.wrap_u16]; omega
  go_enter Try.func73, Try.ntmps73
  go_wp2_with (go_at_call 78; refine (fits16_yes _ _ (by assumption)).mono ?_; rintro e w' ⟨rfl, rfl⟩)
  go_loopw [6, 30] (fun r i wr => ∃ k x : Nat, k ≤ 0 ∧ x < 65536 ∧ r = .int .u16 (x : Int) ∧ i = .int .i64 (k : Int) ∧ Hid (KSt w wr (kcs 16 p f true z)) ∧ Hid (LeftN 16 p true [] x k T)) (fun _ i _ => 0 - (intOf i).toNat)
  case atStart => exact ⟨0, f, by omega, hf, rfl, rfl, K0, L0⟩
  case round =>
    obtain ⟨k, x, hk, hx, rfl, rfl, ks, L⟩ := hrel
    clear K0 L0 af
    obtain ⟨k0, k1, k3, k4⟩ := ks.out.cells
    obtain rfl : k = 0 := by omega
    have dn : T = x := L.out.done.symm
    clear hk
    · clear ap
      have B : Hid (Below w.heap.size w wr) := ks.out.b
      have ax : IntKind.u32.wrap (x : Int) = (x : Int) := by simp only [IntKind.wrap_u32']; omega
      have tc : TurnC x (turnL x 16) 16 := turnC (by omega) (by omega) (by omega)
      have td : turnL x 16 < 65536 := turn_lt x 16
      have fin : Hid (S = turnL x 16 ^^^ z) := by unfold Hid; rw [hS.out, dn]
      generalize turnL x 16 = y at *
      have ay : IntKind.u16.wrap (y : Int) = (y : Int) := by simp only [IntKind.wrap_u16]; omega
      have ay2 : IntKind.u32.wrap (y : Int) = (y : Int) := by simp only [IntKind.wrap_u32']; omega
      have ex : bits .xor .u32 (y : Int) (z : Int) = (S : Int) := by rw [u32_xor_nat y z (by omega) (by omega), fin.out]
      clear L ks hS fin
      go_wp2_with (go_at_call 76; refine (tc _).mono ?_; rintro e w' ⟨rfl, rfl⟩)
      go_ret2
      exact ⟨rfl, B.out⟩

set_option maxRecDepth 100000 in
set_option maxHeartbeats 4000000 in
theorem sum16_true (p f z : Nat) (bs : List Nat) (gb ob capb : Nat) (w : World) (hp : p < 65536) (hf : f < 65536) (hz : z < 65536) (hbs : AllBytes bs) (hlen : (bs.length : Int) ≤ 9223372036854775807) (hb : BytesIn w gb ob bs) (hgb : gb < w.heap.size) :
    Calls Try.prog 73 #[kv 16 p f true z, .slice (some ⟨gb, ob, none⟩) bs.length capb] w fun e w' => e = .returned (.tuple #[.int .u32 ((sumN 16 p f true z bs : Nat) : Int), .int .i64 0]) ∧ Below w.heap.size w w' := by
  obtain ⟨T, L0, hS⟩ := sumN_of 16 p f true z bs
  obtain ⟨S, hS2⟩ : ∃ S, sumN 16 p f true z bs = S := ⟨_, rfl⟩
  rw [hS2]
  rw [hS2] at hS
  clear hS2
  replace hS : Hid (S = turnL T 16 ^^^ z) := hS
  replace L0 : Hid (LeftN 16 p true bs f 0 T) := L0
  have K0 : Hid (KSt w (w.alloc (.cells (kcs 16 p f true z) 107)) (kcs 16 p f true z)) := KSt.first w _
  have af : IntKind.u16.wrap (f : Int) = (f : Int) := by simp only [IntKind.wrap_u16]; omega
  have ap : IntKind.u16.wrap (p : Int) = (p : Int) := by simp only [IntKind.wrap_u16]; omega
  go_enter Try.func73, Try.ntmps73
  go_wp2_with (go_at_call 78; refine (fits16_yes _ _ (by assumption)).mono ?_; rintro e w' ⟨rfl, rfl⟩)
  go_loopw [6, 30] (fun r i wr => ∃ k x : Nat, k ≤ bs.length ∧ x < 65536 ∧ r = .int .u16 (x : Int) ∧ i = .int .i64 (k : Int) ∧ Hid (KSt w wr (kcs 16 p f true z)) ∧ Hid (LeftN 16 p true bs x k T)) (fun _ i _ => bs.length - (intOf i).toNat)
  case atStart => exact ⟨0, f, by omega, hf, rfl, rfl, K0, L0⟩
  case round =>
    obtain ⟨k, x, hk, hx, rfl, rfl, ks, L⟩ := hrel
    clear K0 L0 af
    obtain ⟨k0, k1, k3, k4⟩ := ks.out.cells
    by_cases hlt : k < bs.length
    · have hki : (k : Int) < (bs.length : Int) := by omega
      have hbk := hb.at hgb ks.out.b k hlt
      have hc : bs[k] < 256 := hbs bs[k] (List.getElem_mem hlt)
      have L1 : Hid (LeftN 16 p true bs (byN 16 p x (bcN true bs[k])) (k + 1) T) := L.out.next hlt
      clear L
      generalize bs[k] = c at *
      have hd : bcN true c < 256 := bcN_lt hc
      have hm : mixN 16 x (bcN true c) < 65536 := mixN_lt (w := 16) (by omega) hx hd
      have hy : Hid (byN 16 p x (bcN true c) < 65536) := byN_lt (w := 16) (by omega) hp hx hd
      have em : Hid (mixN 16 x (bcN true c) = x ^^^ (bcN true c * 256)) := rfl
      have eb : Hid (byN 16 p x (bcN true c) = itN 16 p 8 (mixN 16 x (bcN true c))) := rfl
      have tc : TurnC c (bcN true c) 8 := turnC (by omega) (by omega) (by omega)
      have ac : IntKind.u32.wrap (c : Int) = (c : Int) := by simp only [IntKind.wrap_u32']; omega
      generalize bcN true c = d at *
      have ad8 : IntKind.u8.wrap (d : Int) = (d : Int) := by simp only [IntKind.wrap_u8']; omega
      have ad : IntKind.u16.wrap (d : Int) = (d : Int) := by simp only [IntKind.wrap_u16]; omega
      have ash : IntKind.u16.wrap ((d : Int) * 256) = (d : Int) * 256 := by simp only [IntKind.wrap_u16]; omega
      obtain ⟨Y, hY⟩ : ∃ Y, byN 16 p x d = Y := ⟨_, rfl⟩
      rw [hY] at eb hy L1
      clear hY
      replace hy : Hid (Y < 65536) := hy
      replace L1 : Hid (LeftN 16 p true bs Y (k + 1) T) := L1
      have dc : Hid (∀ w, Calls Try.prog 79 #[.int .u16 ((mixN 16 x d : Nat) : Int), .int .u16 (p : Int), .int .i64 16] w fun e w' => e = .returned (.int .u16 (Y : Int)) ∧ w' = w) := by
        rw [show Y = itN 16 p 8 (mixN 16 x d) from eb.out]
        exact fun w => div16_any _ p w hm hp
      have axr : bits .xor .u16 (x : Int) ((d : Int) * 256) = ((mixN 16 x d : Nat) : Int) := by
        rw [em.out, ← u16_xor_nat x (d * 256) hx (by omega)]
        rfl
      clear em eb
      generalize mixN 16 x d = m at *
      go_wp2_with (go_at_call 76; refine (tc _).mono ?_; rintro e w' ⟨rfl, rfl⟩)
      go_quiet (first | (go_at_call 79; refine Calls.quiet_of_same (dc.out _)))
      go_wp2
      exact ⟨⟨k + 1, Y, by omega, hy.out, rfl, by simp, ks.out.drewN _, L1⟩, by simp [intOf]; omega⟩
    · obtain rfl : k = bs.length := by omega
      have dn : T = x := L.out.done.symm
      clear ap
      have B : Hid (Below w.heap.size w wr) := ks.out.b
      have ax : IntKind.u32.wrap (x : Int) = (x : Int) := by simp only [IntKind.wrap_u32']; omega
      have tc : TurnC x (turnL x 16) 16 := turnC (by omega) (by omega) (by omega)
      have td : turnL x 16 < 65536 := turn_lt x 16
      have fin : Hid (S = turnL x 16 ^^^ z) := by unfold Hid; rw [hS.out, dn]
      generalize turnL x 16 = y at *
      have ay : IntKind.u16.wrap (y : Int) = (y : Int) := by simp only [IntKind.wrap_u16]; omega
      have ay2 : IntKind.u32.wrap (y : Int) = (y : Int) := by simp only [IntKind.wrap_u32']; omega
      have ex : bits .xor .u32 (y : Int) (z : Int) = (S : Int) := by rw [u32_xor_nat y z (by omega) (by omega), fin.out]
      clear L ks hS fin
      go_wp2_with (go_at_call 76; refine (tc _).mono ?_; rintro e w' ⟨rfl, rfl⟩)
      go_ret2
      exact ⟨rfl, B.out⟩
end Go.Proofs.Ytllkkgcfhphgmaa
/-
  What the program's own sum of width 32 returns (layer 4). Conditions: the numbers are below 2 to the width; the bytes lie in memory that was there before.
-/
namespace Go.Proofs.Ytllkkgcfhphgmaa
open Go.RowKit
set_option linter.unusedVariables false

set_option maxRecDepth 100000 in
set_option maxHeartbeats 4000000 in
theorem sum320_false (p f z : Nat) (w : World) (hp : p < 4294967296) (hf : f < 4294967296) (hz : z < 4294967296) :
    Calls Try.prog 74 #[kv 32 p f false z, .slice none 0 0] w fun e w' => e = .returned (.tuple #[.int .u32 ((sumN 32 p f false z [] : Nat) : Int), .int .i64 0]) ∧ Below w.heap.size w w' := by
  obtain ⟨T, L0, hS⟩ := sumN_of 32 p f false z []
  obtain ⟨S, hS2⟩ : ∃ S, sumN 32 p f false z [] = S := ⟨_, rfl⟩
  rw [hS2]
  rw [hS2] at hS
  clear hS2
  replace hS : Hid (S = T ^^^ z) := hS
  replace L0 : Hid (LeftN 32 p false [] f 0 T) := L0
  have K0 : Hid (KSt w (w.alloc (.cells (kcs 32 p f false z) 107)) (kcs 32 p f false z)) := KSt.first w _
  have af : IntKind.u32.wrap (f : Int) = (f : Int) := by simp only [IntKind.wrap_u32']; omega
  have ap : IntKind.u32.wrap (p : Int) = (p : Int) := by simp only [IntKind.wrap_u32']; omega
  go_enter Try.func74, Try.ntmps74
  go_wp2_with (go_at_call 80; refine (fits32_yes _ _ (by assumption)).mono ?_; rintro e w' ⟨rfl, rfl⟩)
  go_loopw [6, 29] (fun r i wr => ∃ k x : Nat, k ≤ 0 ∧ x < 4294967296 ∧ r = .int .u32 (x : Int) ∧ i = .int .i64 (k : Int) ∧ Hid (KSt w wr (kcs 32 p f false z)) ∧ Hid (LeftN 32 p false [] x k T)) (fun _ i _ => 0 - (intOf i).toNat)
  case atStart => exact ⟨0, f, by omega, hf, rfl, rfl, K0, L0⟩
  case round =>
    obtain ⟨k, x, hk, hx, rfl, rfl, ks, L⟩ := hrel
    clear K0 L0 af
    obtain ⟨k0, k1, k3, k4⟩ := ks.out.cells
    obtain rfl : k = 0 := by omega
    have dn : T = x := L.out.done.symm
    clear hk
    · clear ap
      have B : Hid (Below w.heap.size w wr) := ks.out.b
      have ax : IntKind.u32.wrap (x : Int) = (x : Int) := by simp only [IntKind.wrap_u32']; omega
      have fin : Hid (S = x ^^^ z) := by unfold Hid; rw [hS.out, dn]
      have ex : bits .xor .u32 (x : Int) (z : Int) = (S : Int) := by rw [u32_xor_nat x z (by omega) (by omega), fin.out]
      clear L ks hS fin
      go_wp2
      go_ret2
      exact ⟨rfl, B.out⟩

set_option maxRecDepth 100000 in
set_option maxHeartbeats 4000000 in
theorem sum32_false (p f z : Nat) (bs : List Nat) (gb ob capb : Nat) (w : World) (hp : p < 4294967296) (hf : f < 4294967296) (hz : z < 4294967296) (hbs : AllBytes bs) (hlen : (bs.length : Int) ≤ 9223372036854775807) (hb : BytesIn w gb ob bs) (hgb : gb < w.heap.size) :
    Calls Try.prog 74 #[kv 32 p f false z, .slice (some ⟨gb, ob, none⟩) bs.length capb] w fun e w' => e = .returned (.tuple #[.int .u32 ((sumN 32 p f false z bs : Nat) : Int), .int .i64 0]) ∧ Below w.heap.size w w' := by
  obtain ⟨T, L0, hS⟩ := sumN_of 32 p f false z bs
  obtain ⟨S, hS2⟩ : ∃ S, sumN 32 p f false z bs = S := ⟨_, rfl⟩
  rw [hS2]
  rw [hS2] at hS
  clear hS2
  replace hS : Hid (S = T ^^^ z) := hS
  replace L0 : Hid (LeftN 32 p false bs f 0 T) := L0
  have K0 : Hid (KSt w (w.alloc (.cells (kcs 32 p f false z) 107)) (kcs 32 p f false z)) := KSt.first w _
  have af : IntKind.u32.wrap (f : Int) = (f : Int) := by simp only [IntKind.wrap_u32']; omega
  have ap : IntKind.u32.wrap (p : Int) = (p : Int) := by simp only [IntKind.wrap_u32']; omega
  go_enter Try.func74, Try.ntmps74
  go_wp2_with (go_at_call 80; refine (fits32_yes _ _ (by assumption)).mono ?_; rintro e w' ⟨rfl, rfl⟩)
  go_loopw [6, 29] (fun r i wr => ∃ k x : Nat, k ≤ bs.length ∧ x < 4294967296 ∧ r = .int .u32 (x : Int) ∧ i = .int .i64 (k : Int) ∧ Hid (KSt w wr (kcs 32 p f false z)) ∧ Hid (LeftN 32 p false bs x k T)) (fun _ i _ => bs.length - (intOf i).toNat)
  case atStart => exact ⟨0, f, by omega, hf, rfl, rfl, K0, L0⟩
  case round =>
    obtain ⟨k, x, hk, hx, rfl, rfl, ks, L⟩ := hrel
    clear K0 L0 af
    obtain ⟨k0, k1, k3, k4⟩ := ks.out.cells
    by_cases hlt : k < bs.length
    · have hki : (k : Int) < (bs.length : Int) := by omega
      have hbk := hb.at hgb ks.out.b k hlt
      have hc : bs[k] < 256 := hbs bs[k] (List.getElem_mem hlt)
      have L1 : Hid (LeftN 32 p false bs (byN 32 p x (bcN false bs[k])) (k + 1) T) := L.out.next hlt
      clear L
      generalize bs[k] = c at *
      have hd : bcN false c < 256 := bcN_lt hc
      have hm : mixN 32 x (bcN false c) < 4294967296 := mixN_lt (w := 32) (by omega) hx hd
      have hy : Hid (byN 32 p x (bcN false c) < 4294967296) := byN_lt (w := 32) (by omega) hp hx hd
      have em : Hid (mixN 32 x (bcN false c) = x ^^^ (bcN false c * 16777216)) := rfl
      have eb : Hid (byN 32 p x (bcN false c) = itN 32 p 8 (mixN 32 x (bcN false c))) := rfl
      replace eb : Hid (byN 32 p x c = itN 32 p 8 (mixN 32 x c)) := eb
      replace em : Hid (mixN 32 x c = x ^^^ (c * 16777216)) := em
      replace hy : Hid (byN 32 p x c < 4294967296) := hy
      replace hm : mixN 32 x c < 4294967296 := hm
      replace L1 : Hid (LeftN 32 p false bs (byN 32 p x c) (k + 1) T) := L1
      clear hd
      have ad8 : IntKind.u8.wrap (c : Int) = (c : Int) := by simp only [IntKind.wrap_u8']; omega
      have ad : IntKind.u32.wrap (c : Int) = (c : Int) := by simp only [IntKind.wrap_u32']; omega
      have ash : IntKind.u32.wrap ((c : Int) * 16777216) = (c : Int) * 16777216 := by simp only [IntKind.wrap_u32']; omega
      obtain ⟨Y, hY⟩ : ∃ Y, byN 32 p x c = Y := ⟨_, rfl⟩
      rw [hY] at eb hy L1
      clear hY
      replace hy : Hid (Y < 4294967296) := hy
      replace L1 : Hid (LeftN 32 p false bs Y (k + 1) T) := L1
      have dc : Hid (∀ w, Calls Try.prog 81 #[.int .u32 ((mixN 32 x c : Nat) : Int), .int .u32 (p : Int), .int .i64 32] w fun e w' => e = .returned (.int .u32 (Y : Int)) ∧ w' = w) := by
        rw [show Y = itN 32 p 8 (mixN 32 x c) from eb.out]
        exact fun w => div32_any _ p w hm hp
      have axr : bits .xor .u32 (x : Int) ((c : Int) * 16777216) = ((mixN 32 x c : Nat) : Int) := by
        rw [em.out, ← u32_xor_nat x (c * 16777216) hx (by omega)]
        rfl
      clear em eb
      generalize mixN 32 x c = m at *
      go_wp2_with fail
      go_quiet (first | (go_at_call 81; refine Calls.quiet_of_same (dc.out _)))
      go_wp2
      exact ⟨⟨k + 1, Y, by omega, hy.out, rfl, by simp, ks.out.drewN _, L1⟩, by simp [intOf]; omega⟩
    · obtain rfl : k = bs.length := by omega
      have dn : T = x := L.out.done.symm
      clear ap
      have B : Hid (Below w.heap.size w wr) := ks.out.b
      have ax : IntKind.u32.wrap (x : Int) = (x : Int) := by simp only [IntKind.wrap_u32']; omega
      have fin : Hid (S = x ^^^ z) := by unfold Hid; rw [hS.out, dn]
      have ex : bits .xor .u32 (x : Int) (z : Int) = (S : Int) := by rw [u32_xor_nat x z (by omega) (by omega), fin.out]
      clear L ks hS fin
      go_wp2
      go_ret2
      exact ⟨rfl, B.out⟩

set_option maxRecDepth 100000 in
set_option maxHeartbeats 4000000 in
theorem sum320_true (p f z : Nat) (w : World) (hp : p < 4294967296) (hf : f < 4294967296) (hz : z < 4294967296) :
    Calls Try.prog 74 #[kv 32 p f true z, .slice none 0 0] w fun e w' => e = .returned (.tuple #[.int .u32 ((sumN 32 p f true z [] : Nat) : Int), .int .i64 0]) ∧ Below w.heap.size w w' := by
  obtain ⟨T, L0, hS⟩ := sumN_of 32 p f true z []
  obtain ⟨S, hS2⟩ : ∃ S, sumN 32 p f true z [] = S := ⟨_, rfl⟩
  rw [hS2]
  rw [hS2] at hS
  clear hS2
  replace hS : Hid (S = turnL T 32 ^^^ z) := hS
  replace L0 : Hid (LeftN 32 p true [] f 0 T) := L0
  have K0 : Hid (KSt w (w.alloc (.cells (kcs 32 p f true z) 107)) (kcs 32 p f true z)) := KSt.first w _
  have af : IntKind.u32.wrap (f : Int) = (f : Int) := by simp only [IntKind.wrap_u32']; omega
  have ap : IntKind.u32.wrap (p : Int) = (p : Int) := by simp only [IntKind.wrap_u32']; omega
  go_enter Try.func74, Try.ntmps74
  go_wp2_with (go_at_call 80; refine (fits32_yes _ _ (by assumption)).mono ?_; rintro e w' ⟨rfl, rfl⟩)
  go_loopw [6, 29] (fun r i wr => ∃ k x : Nat, k ≤ 0 ∧ x < 4294967296 ∧ r = .int .u32 (x : Int) ∧ i = .int .i64 (k : Int) ∧ Hid (KSt w wr (kcs 32 p f true z)) ∧ Hid (LeftN 32 p true [] x k T)) (fun _ i _ => 0 - (intOf i).toNat)
  case atStart => exact ⟨0, f, by omega, hf, rfl, rfl, K0, L0⟩
  case round =>
    obtain ⟨k, x, hk, hx, rfl, rfl, ks, L⟩ := hrel
    clear K0 L0 af
    obtain ⟨k0, k1, k3, k4⟩ := ks.out.cells
    obtain rfl : k = 0 := by omega
    have dn : T = x := L.out.done.symm
    clear hk
    · clear ap
      have B : Hid (Below w.heap.size w wr) := ks.out.b
      have ax : IntKind.u32.wrap (x : Int) = (x : Int) := by simp only [IntKind.wrap_u32']; omega
      have tc : TurnC x (turnL x 32) 32 := turnC (by omega) (by omega) (by omega)
      have td : turnL x 32 < 4294967296 := turn_lt x 32
      have fin : Hid (S = turnL x 32 ^^^ z) := by unfold Hid; rw [hS.out, dn]
      generalize turnL x 32 = y at *
      have ay : IntKind.u32.wrap (y : Int) = (y : Int) := by simp only [IntKind.wrap_u32']; omega
      have ay2 : IntKind.u32.wrap (y : Int) = (y : Int) := by simp only [IntKind.wrap_u32']; omega
      have ex : bits .xor .u32 (y : Int) (z : Int) = (S : Int) := by rw [u32_xor_nat y z (by omega) (by omega), fin.out]
      clear L ks hS fin
      go_wp2_with (go_at_call 76; refine (tc _).mono ?_; rintro e w' ⟨rfl, rfl⟩)
      go_ret2
      exact ⟨rfl, B.out⟩

set_option maxRecDepth 100000 in
set_option maxHeartbeats 4000000 in
theorem sum32_true (p f z : Nat) (bs : List Nat) (gb ob capb : Nat) (w : World) (hp : p < 4294967296) (hf : f < 4294967296) (hz : z < 4294967296) (hbs : AllBytes bs) (hlen : (bs.length : Int) ≤ 9223372036854775807) (hb : BytesIn w gb ob bs) (hgb : gb < w.heap.size) :
    Calls Try.prog 74 #[kv 32 p f true z, .slice (some ⟨gb, ob, none⟩) bs.length capb] w fun e w' => e = .returned (.tuple #[.int .u32 ((sumN 32 p f true z bs : Nat) : Int), .int .i64 0]) ∧ Below w.heap.size w w' := by
  obtain ⟨T, L0, hS⟩ := sumN_of 32 p f true z bs
  obtain ⟨S, hS2⟩ : ∃ S, sumN 32 p f true z bs = S := ⟨_, rfl⟩
  rw [hS2]
  rw [hS2] at hS
  clear hS2
  replace hS : Hid (S = turnL T 32 ^^^ z) := hS
  replace L0 : Hid (LeftN 32 p true bs f 0 T) := L0
  have K0 : Hid (KSt w (w.alloc (.cells (kcs 32 p f true z) 107)) (kcs 32 p f true z)) := KSt.first w _
  have af : IntKind.u32.wrap (f : Int) = (f : Int) := by simp only [IntKind.wrap_u32']; omega
  have ap : IntKind.u32.wrap (p : Int) = (p : Int) := by simp only [IntKind.wrap_u32']; omega
  go_enter Try.func74, Try.ntmps74
  go_wp2_with (go_at_call 80; refine (fits32_yes _ _ (by assumption)).mono ?_; rintro e w' ⟨rfl, rfl⟩)
  go_loopw [6, 29] (fun r i wr => ∃ k x : Nat, k ≤ bs.length ∧ x < 4294967296 ∧ r = .int .u32 (x : Int) ∧ i = .int .i64 (k : Int) ∧ Hid (KSt w wr (kcs 32 p f true z)) ∧ Hid (LeftN 32 p true bs x k T)) (fun _ i _ => bs.length - (intOf i).toNat)
  case atStart => exact ⟨0, f, by omega, hf, rfl, rfl, K0, L0⟩
  case round =>
    obtain ⟨k, x, hk, hx, rfl, rfl, ks, L⟩ := hrel
    clear K0 L0 af
    obtain ⟨k0, k1, k3, k4⟩ := ks.out.cells
    by_cases hlt : k < bs.length
    · have hki : (k : Int) < (bs.length : Int) := by omega
      have hbk := hb.at hgb ks.out.b k hlt
      have hc : bs[k] < 256 := hbs bs[k] (List.getElem_mem hlt)
      have L1 : Hid (LeftN 32 p true bs (byN 32 p x (bcN true bs[k])) (k + 1) T) := L.out.next hlt
      clear L
      generalize bs[k] = c at *
      have hd : bcN true c < 256 := bcN_lt hc
      have hm : mixN 32 x (bcN true c) < 4294967296 := mixN_lt (w := 32) (by omega) hx hd
      have hy : Hid (byN 32 p x (bcN true c) < 4294967296) := byN_lt (w := 32) (by omega) hp hx hd
      have em : Hid (mixN 32 x (bcN true c) = x ^^^ (bcN true c * 16777216)) := rfl
      have eb : Hid (byN 32 p x (bcN true c) = itN 32 p 8 (mixN 32 x (bcN true c))) := rfl
      have tc : TurnC c (bcN true c) 8 := turnC (by omega) (by omega) (by omega)
      have ac : IntKind.u32.wrap (c : Int) = (c : Int) := by simp only [IntKind.wrap_u32']; omega
      generalize bcN true c = d at *
      have ad8 : IntKind.u8.wrap (d : Int) = (d : Int) := by simp only [IntKind.wrap_u8']; omega
      have ad : IntKind.u32.wrap (d : Int) = (d : Int) := by simp only [IntKind.wrap_u32']; omega
      have ash : IntKind.u32.wrap ((d : Int) * 16777216) = (d : Int) * 16777216 := by simp only [IntKind.wrap_u32']; omega
      obtain ⟨Y, hY⟩ : ∃ Y, byN 32 p x d = Y := ⟨_, rfl⟩
      rw [hY] at eb hy L1
      clear hY
      replace hy : Hid (Y < 4294967296) := hy
      replace L1 : Hid (LeftN 32 p true bs Y (k + 1) T) := L1
      have dc : Hid (∀ w, Calls Try.prog 81 #[.int .u32 ((mixN 32 x d : Nat) : Int), .int .u32 (p : Int), .int .i64 32] w fun e w' => e = .returned (.int .u32 (Y : Int)) ∧ w' = w) := by
        rw [show Y = itN 32 p 8 (mixN 32 x d) from eb.out]
        exact fun w => div32_any _ p w hm hp
      have axr : bits .xor .u32 (x : Int) ((d : Int) * 16777216) = ((mixN 32 x d : Nat) : Int) := by
        rw [em.out, ← u32_xor_nat x (d * 16777216) hx (by omega)]
        rfl
      clear em eb
      generalize mixN 32 x d = m at *
      go_wp2_with (go_at_call 76; refine (tc _).mono ?_; rintro e w' ⟨rfl, rfl⟩)
      go_quiet (first | (go_at_call 81; refine Calls.quiet_of_same (dc.out _)))
      go_wp2
      exact ⟨⟨k + 1, Y, by omega, hy.out, rfl, by simp, ks.out.drewN _, L1⟩, by simp [intOf]; omega⟩
    · obtain rfl : k = bs.length := by omega
      have dn : T = x := L.out.done.symm
      clear ap
      have B : Hid (Below w.heap.size w wr) := ks.out.b
      have ax : IntKind.u32.wrap (x : Int) = (x : Int) := by simp only [IntKind.wrap_u32']; omega
      have tc : TurnC x (turnL x 32) 32 := turnC (by omega) (by omega) (by omega)
      have td : turnL x 32 < 4294967296 := turn_lt x 32
      have fin : Hid (S = turnL x 32 ^^^ z) := by unfold Hid; rw [hS.out, dn]
      generalize turnL x 32 = y at *
      have ay : IntKind.u32.wrap (y : Int) = (y : Int) := by simp only [IntKind.wrap_u32']; omega
      have ay2 : IntKind.u32.wrap (y : Int) = (y : Int) := by simp only [IntKind.wrap_u32']; omega
      have ex : bits .xor .u32 (y : Int) (z : Int) = (S : Int) := by rw [u32_xor_nat y z (by omega) (by omega), fin.out]
      clear L ks hS fin
      go_wp2_with (go_at_call 76; refine (tc _).mono ?_; rintro e w' ⟨rfl, rfl⟩)
      go_ret2
      exact ⟨rfl, B.out⟩
end Go.Proofs.Ytllkkgcfhphgmaa
/-
  What the document's own Name returns (layer 7). No conditions.
-/
namespace Go.Proofs.Ytllkkgcfhphgmaa
open Go.RowKit
set_option linter.unusedVariables false

theorem sdrop_at {s : ByteArray} {k : Nat} (hk : k < s.size) : s.data.toList.drop k = s[k] :: s.data.toList.drop (k + 1) := by
  have hl : k < s.data.toList.length := by simpa using hk
  rw [List.drop_eq_getElem_cons hl]
  rfl
theorem name_form {s : ByteArray} (h0 : 0 < s.size) : nameB s.data.toList = (decide (s.size ≤ 12) && (lowB s[0] && allN s.data.toList)) := by
  have hl : s.data.toList.length = s.size := by simp
  have e : s.data.toList = s[0] :: s.data.toList.drop 1 := by
    have := sdrop_at (s := s) (k := 0) h0
    simpa using this
  unfold nameB
  rw [hl]
  congr 1
  obtain ⟨r, hr⟩ : ∃ r, s.data.toList = s[0] :: r := ⟨_, e⟩
  rw [hr]
theorem ret_bb {x y : Bool} (h : y = x) : Ending.returned (.bool x) = .returned (.bool y) := by rw [h]
theorem sget (s : ByteArray) {k : Nat} (h : k < s.size) (h2 : k < s.data.toList.length) : s.data.toList[k] = s[k] := rfl

set_option maxRecDepth 100000 in
set_option maxHeartbeats 4000000 in
theorem rname_main (s : ByteArray) (w : World) (h0 : 0 < s.size) (h12 : (s.size : Int) ≤ 12) (c1 : (97 : Int) ≤ (s[0].toNat : Int)) (c2 : (s[0].toNat : Int) ≤ 122) :
    Calls Try.prog 30 #[.string s] w fun e w' => e = .returned (.bool (allN s.data.toList)) ∧ w' = w := by
  have h0i : (0 : Int) < (s.size : Int) := by omega
  have g1 : decide ((s.size : Int) < 1) = false := decide_eq_false (by omega)
  have g2 : decide (12 < (s.size : Int)) = false := decide_eq_false (by omega)
  have g3 : decide ((s[0].toNat : Int) < 97) = false := decide_eq_false (by omega)
  have g4 : decide (122 < (s[0].toNat : Int)) = false := decide_eq_false (by omega)
  obtain ⟨T, hT⟩ : ∃ T, allN s.data.toList = T := ⟨_, rfl⟩
  rw [hT]
  replace hT : Hid (allN s.data.toList = T) := hT
  go_enter Try.func30, Try.ntmps30
  go_wp2
  go_loop [3] (fun vi => ∃ k : Nat, (k : Int) ≤ (s.size : Int) ∧ vi = .int .i64 (k : Int) ∧ Hid (allN (s.data.toList.take k) = true)) (fun vi => s.size - (intOf vi).toNat)
  case atStart => exact ⟨0, by omega, rfl, rfl⟩
  case round =>
    obtain ⟨k, hk, rfl, hall⟩ := hrel
    by_cases hlt : k < s.size
    · have hki : (k : Int) < (s.size : Int) := by omega
      have hl : k < s.data.toList.length := by simpa using hlt
      have stp : Hid (nameC s[k] = false → T = false) := fun h => by rw [← hT.out]; exact allN_stop hl h
      have nx : Hid (nameC s[k] = true → allN (s.data.toList.take (k + 1)) = true) := fun h => allN_next hl hall.out h
      have lk : s[k].toNat < 256 := s[k].toNat_lt
      clear hall hT g3 g4 c1 c2
      by_cases a1 : (97 : Int) ≤ (s[k].toNat : Int)
      · by_cases a2 : (s[k].toNat : Int) ≤ 122
        · have nl : Hid (allN (s.data.toList.take (k + 1)) = true) := nx.out (by unfold nameC; simp; omega)
          have q1 : decide ((s[k].toNat : Int) < 97) = false := decide_eq_false (by omega)
          have q2 : decide (122 < (s[k].toNat : Int)) = false := decide_eq_false (by omega)
          clear nx stp
          go_wp2
          exact ⟨⟨k + 1, by omega, by simp, nl⟩, by simp [intOf]; omega⟩
        · have fin : Hid (T = false) := stp.out (by unfold nameC; simp; omega)
          have q1 : decide ((s[k].toNat : Int) < 97) = false := decide_eq_false (by omega)
          have q2 : decide (122 < (s[k].toNat : Int)) = true := decide_eq_true (by omega)
          have q3 : decide ((s[k].toNat : Int) < 48) = false := decide_eq_false (by omega)
          have q4 : decide (57 < (s[k].toNat : Int)) = true := decide_eq_true (by omega)
          clear nx stp
          go_wp2
          go_ret
          exact ⟨ret_bb fin.out, rfl⟩
      · have q1 : decide ((s[k].toNat : Int) < 97) = true := decide_eq_true (by omega)
        by_cases a3 : (48 : Int) ≤ (s[k].toNat : Int)
        · have q3 : decide ((s[k].toNat : Int) < 48) = false := decide_eq_false (by omega)
          by_cases a4 : (s[k].toNat : Int) ≤ 57
          · have nl : Hid (allN (s.data.toList.take (k + 1)) = true) := nx.out (by unfold nameC; simp; omega)
            have q4 : decide (57 < (s[k].toNat : Int)) = false := decide_eq_false (by omega)
            clear nx stp
            go_wp2
            exact ⟨⟨k + 1, by omega, by simp, nl⟩, by simp [intOf]; omega⟩
          · have fin : Hid (T = false) := stp.out (by unfold nameC; simp; omega)
            have q4 : decide (57 < (s[k].toNat : Int)) = true := decide_eq_true (by omega)
            clear nx stp
            go_wp2
            go_ret
            exact ⟨ret_bb fin.out, rfl⟩
        · have fin : Hid (T = false) := stp.out (by unfold nameC; simp; omega)
          have q3 : decide ((s[k].toNat : Int) < 48) = true := decide_eq_true (by omega)
          clear nx stp
          go_wp2
          go_ret
          exact ⟨ret_bb fin.out, rfl⟩
    · obtain rfl : k = s.size := by omega
      have fin : Hid (T = true) := by
        have h := hall.out
        rw [List.take_of_length_le (by simp)] at h
        rw [← hT.out]
        exact h
      clear hall hT hlt g3 g4 c1 c2
      go_wp2
      go_ret
      exact ⟨ret_bb fin.out, rfl⟩
set_option maxRecDepth 100000 in
set_option maxHeartbeats 4000000 in
theorem rname_zero (s : ByteArray) (w : World) (h0 : (s.size : Int) < 1) :
    Calls Try.prog 30 #[.string s] w fun e w' => e = .returned (.bool false) ∧ w' = w := by
  have g1 : decide ((s.size : Int) < 1) = true := decide_eq_true (by omega)
  go_enter Try.func30, Try.ntmps30
  go_wp2
  go_ret
  exact ⟨rfl, rfl⟩
set_option maxRecDepth 100000 in
set_option maxHeartbeats 4000000 in
theorem rname_long (s : ByteArray) (w : World) (h12 : 12 < (s.size : Int)) :
    Calls Try.prog 30 #[.string s] w fun e w' => e = .returned (.bool false) ∧ w' = w := by
  have g1 : decide ((s.size : Int) < 1) = false := decide_eq_false (by omega)
  have g2 : decide (12 < (s.size : Int)) = true := decide_eq_true (by omega)
  go_enter Try.func30, Try.ntmps30
  go_wp2
  go_ret
  exact ⟨rfl, rfl⟩
set_option maxRecDepth 100000 in
set_option maxHeartbeats 4000000 in
theorem rname_low (s : ByteArray) (w : World) (h0 : 0 < s.size) (h12 : (s.size : Int) ≤ 12) (c1 : (s[0].toNat : Int) < 97) :
    Calls Try.prog 30 #[.string s] w fun e w' => e = .returned (.bool false) ∧ w' = w := by
  have h0i : (0 : Int) < (s.size : Int) := by omega
  have g1 : decide ((s.size : Int) < 1) = false := decide_eq_false (by omega)
  have g2 : decide (12 < (s.size : Int)) = false := decide_eq_false (by omega)
  have g3 : decide ((s[0].toNat : Int) < 97) = true := decide_eq_true (by omega)
  go_enter Try.func30, Try.ntmps30
  go_wp2
  go_ret
  exact ⟨rfl, rfl⟩
set_option maxRecDepth 100000 in
set_option maxHeartbeats 4000000 in
theorem rname_high (s : ByteArray) (w : World) (h0 : 0 < s.size) (h12 : (s.size : Int) ≤ 12) (c1 : (97 : Int) ≤ (s[0].toNat : Int)) (c2 : (122 : Int) < (s[0].toNat : Int)) :
    Calls Try.prog 30 #[.string s] w fun e w' => e = .returned (.bool false) ∧ w' = w := by
  have h0i : (0 : Int) < (s.size : Int) := by omega
  have g1 : decide ((s.size : Int) < 1) = false := decide_eq_false (by omega)
  have g2 : decide (12 < (s.size : Int)) = false := decide_eq_false (by omega)
  have g3 : decide ((s[0].toNat : Int) < 97) = false := decide_eq_false (by omega)
  have g4 : decide (122 < (s[0].toNat : Int)) = true := decide_eq_true (by omega)
  go_enter Try.func30, Try.ntmps30
  go_wp2
  go_ret
  exact ⟨rfl, rfl⟩
theorem rname_any (s : ByteArray) (w : World) : Calls Try.prog 30 #[.string s] w fun e w' => e = .returned (.bool (nameB s.data.toList)) ∧ w' = w := by
  by_cases h0 : 0 < s.size
  · rw [name_form h0]
    by_cases h12 : (s.size : Int) ≤ 12
    · rw [decide_eq_true (show s.size ≤ 12 by omega), Bool.true_and]
      by_cases c1 : (97 : Int) ≤ (s[0].toNat : Int)
      · by_cases c2 : (s[0].toNat : Int) ≤ 122
        · rw [show lowB s[0] = true by unfold lowB; simp; omega, Bool.true_and]
          exact rname_main s w h0 h12 c1 c2
        · rw [show lowB s[0] = false by unfold lowB; simp; omega, Bool.false_and]
          exact rname_high s w h0 h12 c1 (by omega)
      · rw [show lowB s[0] = false by unfold lowB; simp; omega, Bool.false_and]
        exact rname_low s w h0 h12 (by omega)
    · rw [decide_eq_false (show ¬ s.size ≤ 12 by omega), Bool.false_and]
      exact rname_long s w (by omega)
  · have e : s.data.toList = [] := List.length_eq_zero_iff.1 (by rw [show s.data.toList.length = s.size by simp]; omega)
    rw [e]
    exact rname_zero s w (by omega)
end Go.Proofs.Ytllkkgcfhphgmaa
/-
  What is asked of the program's own Name (layer 7), as a contract. Condition: a text is at most 5000 bytes.
-/
namespace Go.Proofs.Ytllkkgcfhphgmaa
open Go.RowKit
set_option linter.unusedVariables false

def NameP : Prop := ∀ (s : ByteArray) (w : World), (s.size : Int) ≤ 5000 → Calls Try.prog 20 #[.string s] w fun e w' => e = .returned (.bool (nameB s.data.toList)) ∧ Below w.heap.size w w'
def NaC (f : FuncId) (s : ByteArray) (B : Bool) : Prop := ∀ x, Calls Try.prog f #[.string s] x fun e w' => e = .returned (.bool B) ∧ Below x.heap.size x w'
theorem same_w {f : FuncId} {args : Array Value} {x : World} {v : Value} (h : Calls Try.prog f args x fun e w' => e = .returned v ∧ w' = x) : Calls Try.prog f args x fun e w' => e = .returned v ∧ Below x.heap.size x w' :=
  h.mono fun _ _ ⟨a, b⟩ => ⟨a, by rw [b]; exact Below.refl _ _⟩
end Go.Proofs.Ytllkkgcfhphgmaa
/-
  What the program's own Name returns (layer 7): it is the document's. Conditions: as the contract says.
-/
namespace Go.Proofs.Ytllkkgcfhphgmaa
open Go.RowKit
set_option linter.unusedVariables false

theorem below_iter (w : World) (s : ByteArray) (p : Nat) : Below w.heap.size w (w.iter s p) := (Below.refl _ _).alloc (Nat.le_refl _) _
/-- the first byte a letter, each of the first k a letter or a figure -/
def NameK (l : List UInt8) (k : Nat) : Prop := allN (l.take k) = true ∧ (0 < k → ∃ c r, l = c :: r ∧ lowB c = true)
theorem nameK_first (l : List UInt8) : NameK l 0 := ⟨rfl, fun h => absurd h (by omega)⟩
theorem nameK_next {l : List UInt8} {k : Nat} (h : k < l.length) (ha : NameK l k) (hc : nameC l[k] = true) (h0 : k = 0 → lowB l[k] = true) : NameK l (k + 1) := by
  refine ⟨allN_next h ha.1 hc, fun _ => ?_⟩
  by_cases hk : k = 0
  · subst hk
    exact ⟨l[0], l.drop 1, by have e := List.drop_eq_getElem_cons h; simpa using e, h0 rfl⟩
  · exact ha.2 (by omega)
theorem nameB_long {l : List UInt8} (h : ¬ l.length ≤ 12) : nameB l = false := by unfold nameB; rw [decide_eq_false h]; rfl
theorem nameB_all {l : List UInt8} (h : NameK l l.length) (h0 : 0 < l.length) (h12 : l.length ≤ 12) : nameB l = true := by
  obtain ⟨h1, h2⟩ := h
  obtain ⟨c, r, e, hc⟩ := h2 h0
  rw [List.take_length] at h1
  subst e
  unfold nameB
  rw [decide_eq_true h12, h1]
  show (true && (lowB c && true)) = true
  rw [hc]; rfl
theorem nameB_stop {l : List UInt8} {k : Nat} (h : k < l.length) (hc : nameC l[k] = false ∨ (k = 0 ∧ lowB l[k] = false)) : nameB l = false := by
  unfold nameB
  cases l with
  | nil => simp
  | cons c r =>
    rcases hc with hc | ⟨hk, hc⟩
    · show (decide _ && (lowB c && allN (c :: r))) = false
      rw [allN_stop h hc]; simp
    · subst hk
      show (decide _ && (lowB c && allN (c :: r))) = false
      rw [show lowB c = false from hc]; simp

set_option maxRecDepth 100000 in
set_option maxHeartbeats 4000000 in
theorem pname_main (s : ByteArray) (w : World) (h0 : (1 : Int) ≤ (s.size : Int)) (h12 : (s.size : Int) ≤ 12) :
    Calls Try.prog 20 #[.string s] w fun e w' => e = .returned (.bool (nameB s.data.toList)) ∧ Below w.heap.size w w' := by
  have g1 : decide ((s.size : Int) < 1) = false := decide_eq_false (by omega)
  have g2 : decide (12 < (s.size : Int)) = false := decide_eq_false (by omega)
  have hlen : s.data.toList.length = s.size := by simp
  obtain ⟨T, hT⟩ : ∃ T, nameB s.data.toList = T := ⟨_, rfl⟩
  rw [hT]
  replace hT : Hid (nameB s.data.toList = T) := hT
  go_enter Try.func20, Try.ntmps20
  go_wp2
  go_loopw [] (fun wr => ∃ k : Nat, k ≤ s.size ∧ wr = w.iter s k ∧ Hid (NameK s.data.toList k)) (fun wr => s.size - wr.iterPos w.heap.size)
  case atStart => exact ⟨0, Nat.zero_le _, rfl, nameK_first _⟩
  case round =>
    obtain ⟨k, hk, rfl, hall⟩ := hrel
    by_cases hlt : k < s.size
    · have hl : k < s.data.toList.length := by simpa using hlt
      have lk : s[k].toNat < 256 := s[k].toNat_lt
      have stp : Hid (nameC s[k] = false ∨ (k = 0 ∧ lowB s[k] = false) → T = false) := fun h => by rw [← hT.out]; exact nameB_stop hl h
      have nx : Hid (nameC s[k] = true → (k = 0 → lowB s[k] = true) → NameK s.data.toList (k + 1)) := fun h h2 => nameK_next hl hall.out h h2
      clear hall hT
      by_cases ha : s[k].toNat < 128
      · have hd := decode_ascii s k hlt ha
        have hnx : ∀ ty, (Instr.next (.pointer (some ⟨w.heap.size, 0, none⟩)) true ty).run Try.prog (w.iter s k) = .ok (.tuple #[.bool true, .int .i64 (k : Int), .int .i32 (s[k].toNat : Int)]) (w.iter s (k + 1)) := fun ty => by rw [run_next_any w s k ty hlt, hd]
        clear hd
        obtain ⟨c, hc⟩ : ∃ c : Nat, s[k].toNat = c := ⟨_, rfl⟩
        have hcn : Hid ((nameC s[k] = decide ((97 ≤ c ∧ c ≤ 122) ∨ (48 ≤ c ∧ c ≤ 57))) ∧ (lowB s[k] = decide (97 ≤ c ∧ c ≤ 122))) := by rw [← hc]; exact ⟨rfl, rfl⟩
        rw [hc] at hnx ha lk
        clear hc
        by_cases a1 : (97 : Int) ≤ (c : Int)
        · have q1 : decide ((97 : Int) ≤ (c : Int)) = true := decide_eq_true a1
          by_cases a2 : (c : Int) ≤ 122
          · have q2 : decide ((c : Int) ≤ 122) = true := decide_eq_true a2
            have nl : Hid (NameK s.data.toList (k + 1)) := nx.out (by rw [hcn.out.1]; exact decide_eq_true (by omega)) (fun _ => by rw [hcn.out.2]; exact decide_eq_true (by omega))
            clear nx stp hcn
            go_wp2
            exact ⟨⟨k + 1, by omega, rfl, nl⟩, by simp; omega⟩
          · have q2 : decide ((c : Int) ≤ 122) = false := decide_eq_false a2
            have q3 : decide ((48 : Int) ≤ (c : Int)) = true := decide_eq_true (by omega)
            have q4 : decide ((c : Int) ≤ 57) = false := decide_eq_false (by omega)
            have fin : Hid (T = false) := stp.out (.inl (by rw [hcn.out.1]; exact decide_eq_false (by omega)))
            clear nx stp hcn
            go_wp2
            go_ret
            exact ⟨ret_bb fin.out, below_iter _ _ _⟩
        · have q1 : decide ((97 : Int) ≤ (c : Int)) = false := decide_eq_false a1
          by_cases a3 : (48 : Int) ≤ (c : Int)
          · have q3 : decide ((48 : Int) ≤ (c : Int)) = true := decide_eq_true a3
            by_cases a4 : (c : Int) ≤ 57
            · have q4 : decide ((c : Int) ≤ 57) = true := decide_eq_true a4
              by_cases k0 : (k : Int) = 0
              · have q5 : ((k : Int) == 0) = true := by simp [k0]
                have fin : Hid (T = false) := stp.out (.inr ⟨by omega, by rw [hcn.out.2]; exact decide_eq_false (by omega)⟩)
                clear nx stp hcn
                go_wp2
                go_ret
                exact ⟨ret_bb fin.out, below_iter _ _ _⟩
              · have q5 : ((k : Int) == 0) = false := beq_eq_false_iff_ne.2 k0
                have nl : Hid (NameK s.data.toList (k + 1)) := nx.out (by rw [hcn.out.1]; exact decide_eq_true (by omega)) (fun h => absurd h (by omega))
                clear nx stp hcn
                go_wp2
                exact ⟨⟨k + 1, by omega, rfl, nl⟩, by simp; omega⟩
            · have q4 : decide ((c : Int) ≤ 57) = false := decide_eq_false a4
              have fin : Hid (T = false) := stp.out (.inl (by rw [hcn.out.1]; exact decide_eq_false (by omega)))
              clear nx stp hcn
              go_wp2
              go_ret
              exact ⟨ret_bb fin.out, below_iter _ _ _⟩
          · have q3 : decide ((48 : Int) ≤ (c : Int)) = false := decide_eq_false a3
            have fin : Hid (T = false) := stp.out (.inl (by rw [hcn.out.1]; exact decide_eq_false (by omega)))
            clear nx stp hcn
            go_wp2
            go_ret
            exact ⟨ret_bb fin.out, below_iter _ _ _⟩
      · have hd := decode_high s k hlt (by omega)
        obtain ⟨R, hR⟩ : ∃ R : Nat, (Utf8.decode s k).1 = R := ⟨_, rfl⟩
        obtain ⟨D, hD⟩ : ∃ D : Nat, (Utf8.decode s k).2 = D := ⟨_, rfl⟩
        have hnx : ∀ ty, (Instr.next (.pointer (some ⟨w.heap.size, 0, none⟩)) true ty).run Try.prog (w.iter s k) = .ok (.tuple #[.bool true, .int .i64 (k : Int), .int .i32 (R : Int)]) (w.iter s (k + D)) := fun ty => by rw [run_next_any w s k ty hlt, hR, hD]
        rw [hR] at hd
        have hR1 : (128 : Int) ≤ (R : Int) := by omega
        have q1 : decide ((97 : Int) ≤ (R : Int)) = true := decide_eq_true (by omega)
        have q2 : decide ((R : Int) ≤ 122) = false := decide_eq_false (by omega)
        have q3 : decide ((48 : Int) ≤ (R : Int)) = true := decide_eq_true (by omega)
        have q4 : decide ((R : Int) ≤ 57) = false := decide_eq_false (by omega)
        have fin : Hid (T = false) := stp.out (.inl (by unfold nameC; exact decide_eq_false (by omega)))
        clear nx stp hd hR hD
        go_wp2
        go_ret
        exact ⟨ret_bb fin.out, below_iter _ _ _⟩
    · obtain rfl : k = s.size := by omega
      have fin : Hid (T = true) := by
        rw [← hT.out]
        exact nameB_all (by rw [hlen]; exact hall.out) (by omega) (by omega)
      have hnx : ∀ ty, (Instr.next (.pointer (some ⟨w.heap.size, 0, none⟩)) true ty).run Try.prog (w.iter s s.size) = _ := fun ty => run_next_end w s s.size ty (by omega)
      clear hall hT
      go_wp2
      go_ret
      exact ⟨ret_bb fin.out, below_iter _ _ _⟩
set_option maxRecDepth 100000 in
set_option maxHeartbeats 4000000 in
theorem pname_zero (s : ByteArray) (w : World) (h0 : (s.size : Int) < 1) :
    Calls Try.prog 20 #[.string s] w fun e w' => e = .returned (.bool false) ∧ w' = w := by
  have g1 : decide ((s.size : Int) < 1) = true := decide_eq_true (by omega)
  go_enter Try.func20, Try.ntmps20
  go_wp2
  go_ret
  exact ⟨rfl, rfl⟩
set_option maxRecDepth 100000 in
set_option maxHeartbeats 4000000 in
theorem pname_long (s : ByteArray) (w : World) (h12 : 12 < (s.size : Int)) :
    Calls Try.prog 20 #[.string s] w fun e w' => e = .returned (.bool false) ∧ w' = w := by
  have g1 : decide ((s.size : Int) < 1) = false := decide_eq_false (by omega)
  have g2 : decide (12 < (s.size : Int)) = true := decide_eq_true (by omega)
  go_enter Try.func20, Try.ntmps20
  go_wp2
  go_ret
  exact ⟨rfl, rfl⟩
theorem HM : NameP := fun s w hs => by
  have hlen : s.data.toList.length = s.size := by simp
  by_cases h0 : (s.size : Int) < 1
  · have e : s.data.toList = [] := List.length_eq_zero_iff.1 (by rw [hlen]; omega)
    rw [e]
    exact same_w (pname_zero s w h0)
  · by_cases h12 : (s.size : Int) ≤ 12
    · exact pname_main s w (by omega) h12
    · rw [nameB_long (by rw [hlen]; omega)]
      exact same_w (pname_long s w (by omega))
end Go.Proofs.Ytllkkgcfhphgmaa
