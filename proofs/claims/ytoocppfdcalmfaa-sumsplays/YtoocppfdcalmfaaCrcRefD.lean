/-
  What the document's own Sum returns (layer 4). Conditions: the kind is right; the bytes lie in memory that was there before.
-/
import Derived.Deep.CutRange
import Derived.BigRegion
import Derived.Deep.QuietTactic
import Derived.BigQuiet
import Derived.Laws.BitsAllLaws
import Derived.Test.YtoocppfdcalmfaaCrcRefC
namespace Go.Proofs.Ytoocppfdcalmfaa
open Go.RowKit
set_option linter.unusedVariables false

def BytesIn (w : World) (gb ob : Nat) (bs : List Nat) : Prop := ∀ j (h : j < bs.length), w.cell? ⟨gb, ob + j, none⟩ = some (.int .u8 (bs[j] : Int))
def AllBytes (bs : List Nat) : Prop := ∀ c ∈ bs, c < 256
def BitsC (v n : Nat) : Prop := ∀ w, Calls Try.prog 24 #[.int .u32 (v : Int), .int .i64 (n : Int)] w fun e w' => ∃ x, e = .returned x ∧ Row w' w.heap.size x (bitsL v n) ∧ Below w.heap.size w w'
theorem bitsC {v n : Nat} (hv : v < 4294967296) (hn : n ≤ 40) : BitsC v n := fun w => bits_any v n w hv hn
/-- what is left to do behind k bytes, behind j steps -/
def LeftB (pl rl : List Bool) (t : Bool) (bs : List Nat) (k : Nat) (T : List Bool) : Prop := foldB pl rl ((bs.drop k).map (bcL t)) = T
def LeftS (pl cur : List Bool) (j : Nat) (T : List Bool) : Prop := itL pl (8 - j) cur = T
theorem LeftB.next {pl rl : List Bool} {t : Bool} {bs : List Nat} {k : Nat} {T : List Bool} (h : LeftB pl rl t bs k T) (hk : k < bs.length) : LeftB pl (byL pl rl (bcL t bs[k])) t bs (k + 1) T := by
  unfold LeftB at *
  rw [List.drop_eq_getElem_cons hk] at h
  exact h
theorem LeftB.done {pl rl : List Bool} {t : Bool} {bs : List Nat} {T : List Bool} (h : LeftB pl rl t bs bs.length T) : rl = T := by
  unfold LeftB at h; rw [List.drop_length] at h; exact h
theorem LeftS.next {pl cur : List Bool} {j : Nat} {T : List Bool} (h : LeftS pl cur j T) (hj : j < 8) : LeftS pl (stL pl cur) (j + 1) T := by
  unfold LeftS at *
  rw [show 8 - j = (8 - (j + 1)) + 1 by omega] at h
  exact h
theorem LeftS.done {pl cur T : List Bool} (h : LeftS pl cur 8 T) : cur = T := h
theorem SumSt.drew {w x : World} {kc : Array Value} {g cap gp capp W : Nat} {rl pl : List Bool} (h : SumSt w x kc g cap gp capp W rl pl) : SumSt w x.drew kc g cap gp capp W rl pl := h.below (Below.refl _ _).drew
theorem RowW.drew {x : World} {g cap W : Nat} {l : List Bool} (h : RowW x g cap W l) : RowW x.drew g cap W l := h.below (Below.refl _ _).drew
abbrev kcs (W p f : Nat) (t : Bool) (z : Nat) : Array Value := #[.int .i64 (W : Int), .int .u32 (p : Int), .int .u32 (f : Int), .bool t, .int .u32 (z : Int)]
theorem SumSt.kind {w x : World} {W' p f : Nat} {t : Bool} {z g cap gp capp W : Nat} {rl pl : List Bool} (h : SumSt w x (kcs W' p f t z) g cap gp capp W rl pl) : x.cell? ⟨w.heap.size, 3, none⟩ = some (.bool t) ∧ x.cell? ⟨w.heap.size, 4, none⟩ = some (.int .u32 (z : Int)) := by
  simp [World.cell?, h.k]
theorem BytesIn.at {w x : World} {gb ob : Nat} {bs : List Nat} (h : BytesIn w gb ob bs) (hg : gb < w.heap.size) (hb : Below w.heap.size w x) (k : Nat) (hk : k < bs.length) : x.cell? ⟨gb, ob + k, none⟩ = some (.int .u8 (bs[k] : Int)) :=
  (hb.cell (p := ⟨gb, ob + k, none⟩) hg).trans (h k hk)
/-- the state behind the two first calls -/
theorem sum_start {w w1 w2 : World} {kc : Array Value} {x y : Value} {fl pl : List Bool} {W : Nat} (hW : 0 < W) (lf : fl.length = W) (lp : pl.length = W) (hx : Row w1 (w.alloc (.cells kc 48)).heap.size x fl) (hb1 : Below (w.alloc (.cells kc 48)).heap.size (w.alloc (.cells kc 48)) w1)
    (hy : Row w2 w1.heap.size y pl) (hb2 : Below w1.heap.size w1 w2) : ∃ g cap gp capp, x = .slice (some ⟨g, 0, none⟩) W cap ∧ y = .slice (some ⟨gp, 0, none⟩) W capp ∧ SumSt w w2 kc g cap gp capp W fl pl := by
  obtain ⟨g, cap, ex, gb, rx⟩ := RowW.of hx (by omega)
  obtain ⟨gp, capp, ey, gpb, ry⟩ := RowW.of hy (by omega)
  rw [lf] at ex rx
  rw [lp] at ey ry
  have l1 := rx.lt
  simp only [World.size_alloc] at gb
  have k0 : (w.alloc (.cells kc 48)).heap[w.heap.size]? = some (.cells kc 48 (0, 0)) := World.alloc_heap_new w _
  have k1 := (hb1.block w.heap.size (by simp)).trans k0
  have k2 := (hb2.block w.heap.size (Array.getElem?_eq_some_iff.1 k1).1).trans k1
  refine ⟨g, cap, gp, capp, ex, ey, rx.below hb2, ry, by omega, by omega, by omega, k2, ?_⟩
  exact belowT (belowT ((Below.refl _ _).alloc (Nat.le_refl _) _) hb1) hb2
theorem below_drN {B : Nat} {a w : World} (h : Below B a w) (n : Nat) : Below B a (w.drewN n) := ⟨h.os, h.tape, h.output, h.size, h.block⟩
theorem num32 {l : List Bool} (h : l.length ≤ 32) : numL l < 4294967296 := by
  have h1 := numL_lt l
  have h2 : 2 ^ l.length ≤ 2 ^ 32 := Nat.pow_le_pow_right (by omega) h
  omega
theorem ret_x {M z S : Nat} (hM : M < 4294967296) (hz : z < 4294967296) (h : M ^^^ z = S) : Ending.returned (.int .u32 (bits .xor .u32 (M : Int) (z : Int))) = .returned (.int .u32 (S : Int)) := by rw [u32_xor_nat M z hM hz, h]
theorem row_zero (w : World) (base : Nat) (h : base ≤ w.heap.size) : (w.alloc (.cells #[] 4)).ownsRow base 4 1 (.slice (some ⟨w.heap.size, 0, none⟩) 0 0) 0 [] :=
  ⟨rfl, .inr ⟨w.heap.size, 0, #[], rfl, h, World.alloc_heap_new w _, by omega, by omega, rfl, rfl⟩⟩
theorem tail_cells {w x : World} {kc : Array Value} {g cap gp capp W : Nat} {h : Bool} {tl pl : List Bool} (st : SumSt w x kc g cap gp capp W (h :: tl) pl) (o : Obj) : ∀ j u, (tl.map Value.bool)[j]? = some u → (x.alloc o).cell? ((⟨g, 1, none⟩ : Addr).add j) = some u := by
  intro j u hu
  rw [List.getElem?_map] at hu
  have hj : j < tl.length := by
    rcases Nat.lt_or_ge j tl.length with h | h
    · exact h
    · rw [List.getElem?_eq_none h] at hu; cases hu
  rw [List.getElem?_eq_getElem hj] at hu
  have e : Value.bool tl[j] = u := by simpa using hu
  have c := (st.r.cell (j + 1) (by simp; omega)).1
  have c2 := (((Below.refl x.heap.size x).alloc (Nat.le_refl _) o).cell (p := ⟨g, j + 1, none⟩) st.r.lt).trans c
  rw [← e]
  have a : (⟨g, 1, none⟩ : Addr).add j = ⟨g, j + 1, none⟩ := by simp [Addr.add, Nat.add_comm]
  rw [a, c2]
  rfl
theorem bools_one (l : List Bool) : ∀ u ∈ l.map Value.bool, u.oneCell' = true := fun u hu => by
  obtain ⟨b, _, rfl⟩ := List.mem_map.1 hu; rfl
/-- the state behind the two appends: doubled -/
theorem step_row {w wr wA wB : World} {kc : Array Value} {g cap gp capp W : Nat} {h : Bool} {tl pl : List Bool} {v1 v2 : Value} (hW : 8 ≤ (W : Int)) (st : SumSt w wr kc g cap gp capp W (h :: tl) pl)
    (hA : wA.ownsRow wr.heap.size 4 1 v1 (0 + (W - 1)) ([] ++ tl.map Value.bool)) (gA : (wr.alloc (.cells #[] 4)).grownBy wA (Value.slice (some ⟨wr.heap.size, 0, none⟩) 0 0).ownBlock)
    (hB : wB.ownsRow wr.heap.size 4 1 v2 (0 + (W - 1) + 1) ([] ++ tl.map Value.bool ++ [.bool false])) (gB : (wA.alloc (.cells #[.bool false] 4)).grownBy wB v1.ownBlock) :
    ∃ g2 cap2, v2 = .slice (some ⟨g2, 0, none⟩) W cap2 ∧ SumSt w wB kc g2 cap2 gp capp W (tl ++ [false]) pl := by
  have bA : Below wr.heap.size wr wA := ((Below.refl _ wr).alloc (Nat.le_refl _) _).grown gA (by simp) (fun j e => by simp [Value.ownBlock] at e; omega)
  have bB : Below wr.heap.size wr wB := (bA.alloc bA.size _).grown gB (by have := bA.size; simp; omega) (fun j e => (World.ownsRow.lt hA j e).1)
  have ll : (tl ++ [false]).length = W := by have := st.r.1; simp at *; omega
  have hr : Row wB wr.heap.size v2 (tl ++ [false]) := by
    unfold Row
    rw [ll]
    have e : 0 + (W - 1) + 1 = W := by omega
    rw [e] at hB
    simpa using hB
  obtain ⟨g2, cap2, ev, gb, r2⟩ := RowW.of hr (by omega)
  rw [ll] at ev r2
  have s := st.below bB
  have l1 := st.p.lt
  have l2 := st.r.lt
  have l3 := st.gl
  exact ⟨g2, cap2, ev, r2, s.p, by omega, by omega, st.gpl, s.k, s.b⟩

set_option maxRecDepth 100000 in
set_option maxHeartbeats 4000000 in
theorem rsum_true (W p f : Nat) (z : Nat) (bs : List Nat) (gb ob capb : Nat) (w : World) (hW : 8 ≤ (W : Int) ∧ (W : Int) ≤ 32) (hz : z < 4294967296) (cf : BitsC f W) (cp : BitsC p W) (hbs : AllBytes bs) (hlen : (bs.length : Int) ≤ 9223372036854775807)
    (hb : BytesIn w gb ob bs) (hgb : gb < w.heap.size) (S : Nat) (hS : Hid (sumL W p f true z bs = S)) :
    Calls Try.prog 16 #[kv (W : Int) p f true z, .slice (some ⟨gb, ob, none⟩) bs.length capb] w fun e w' => e = .returned (.int .u32 (S : Int)) ∧ Below w.heap.size w w' := by
  obtain ⟨i0, hi, hz0, hz1, hz2⟩ := info_parts info_bool
  go_enter Try.func16, Try.ntmps16
  go_wp2_with fail
  refine (cf _).mono ?_
  rintro e w1 ⟨x, rfl, hx, hb1⟩
  have X : Hid (Row w1 (w.alloc (.cells (kcs W p f true z) 48)).heap.size x (bitsL f W) ∧ Below (w.alloc (.cells (kcs W p f true z) 48)).heap.size (w.alloc (.cells (kcs W p f true z) 48)) w1) := ⟨hx, hb1⟩
  have k0 : w1.cell? ⟨w.heap.size, 0, none⟩ = some (.int .i64 (W : Int)) := (hb1.cell (p := ⟨w.heap.size, 0, none⟩) (by simp)).trans (by simp)
  have k1 : w1.cell? ⟨w.heap.size, 1, none⟩ = some (.int .u32 (p : Int)) := (hb1.cell (p := ⟨w.heap.size, 1, none⟩) (by simp)).trans (by simp)
  clear hx hb1 cf
  go_wp2_with fail
  refine (cp _).mono ?_
  rintro e w2 ⟨y, rfl, hy, hb2⟩
  obtain ⟨g0, cap0, gp, capp, rfl, rfl, st0⟩ := sum_start (w := w) (by omega) (bitsL_len W f) (bitsL_len W p) X.out.1 X.out.2 hy hb2
  replace st0 : Hid (SumSt w w2 (kcs W p f true z) g0 cap0 gp capp W (bitsL f W) (bitsL p W)) := st0
  have lp : Hid ((bitsL p W).length = W) := bitsL_len W p
  have lf : Hid ((bitsL f W).length = W) := bitsL_len W f
  have L0 : LeftB (bitsL p W) (bitsL f W) true bs 0 (foldB (bitsL p W) (bitsL f W) (bs.map (bcL true))) := rfl
  have hS2 : Hid (numL (revL true (foldB (bitsL p W) (bitsL f W) (bs.map (bcL true)))) ^^^ z = S) := hS
  clear hy hb2 X k0 k1 cp hS
  generalize foldB (bitsL p W) (bitsL f W) (bs.map (bcL true)) = T at *
  generalize bitsL p W = pl at *
  generalize bitsL f W = fl at *
  go_wp2
  go_loopw [5, 7] (fun r i wr => ∃ k g cap : Nat, ∃ rl : List Bool, k ≤ bs.length ∧ r = .slice (some ⟨g, 0, none⟩) W cap ∧ i = .int .i64 (k : Int) ∧ Hid (SumSt w wr (kcs W p f true z) g cap gp capp W rl pl) ∧ LeftB pl rl true bs k T) (fun _ i _ => bs.length - (intOf i).toNat)
  case atStart => exact ⟨0, g0, cap0, fl, by omega, rfl, rfl, st0, L0⟩
  case round =>
    obtain ⟨k, g, cap, rl, hk, rfl, rfl, st, LB⟩ := hrel
    clear st0 L0 lf
    by_cases hlt : k < bs.length
    · have hki : (k : Int) < (bs.length : Int) := by omega
      have hbk := hb.at hgb st.out.b k hlt
      have hc256 : (0 : Int) ≤ (bs[k] : Int) ∧ (bs[k] : Int) < 256 := by
        have := hbs bs[k] (List.getElem_mem hlt)
        exact ⟨by omega, by omega⟩
      have cb : BitsC bs[k] 8 := bitsC (by omega) (by omega)
      replace LB := LB.next hlt
      generalize bs[k] = c at *
      have gwr : Hid (g < wr.heap.size ∧ w.heap.size < g) := ⟨st.out.r.lt, st.out.gl⟩
      go_wp2_with fail
      refine (cb _).mono ?_
      rintro e w3 ⟨y, rfl, hy, hb3⟩
      obtain ⟨gc, capc, ey, gcb, rc⟩ := RowW.of hy (by rw [bitsL_len]; omega)
      rw [bitsL_len] at ey rc
      subst ey
      replace st : Hid (SumSt w w3 (kcs W p f true z) g cap gp capp W rl pl) := st.out.below hb3
      have kt := st.out.kind.1
      have sz3 : Hid (wr.heap.size ≤ w3.heap.size) := hb3.size
      replace hy : Hid (Row w3 wr.heap.size (.slice (some ⟨gc, 0, none⟩) 8 capc) (bitsL c 8)) := hy
      clear hb3 rc gcb cb hbk
      go_wp2_with fail
      refine (turned_any (bitsL c 8) _ wr.heap.size w3 hy.out (by rw [bitsL_len]; omega)).mono ?_
      rintro e w4 ⟨y2, rfl, hy2, hb4⟩
      obtain ⟨gd, capd, ey, gdb, rc⟩ := RowW.of hy2 (by rw [List.length_reverse, bitsL_len]; omega)
      rw [List.length_reverse, bitsL_len] at ey rc
      subst ey
      replace st : Hid (SumSt w w4 (kcs W p f true z) g cap gp capp W rl pl) := st.out.below hb4
      replace rc : Hid (RowW w4 gd capd 8 (bcL true c)) := rc
      have gne : Hid (gd ≠ g ∧ w.heap.size < gd) := by
        have h1 := gwr.out
        have h2 := sz3.out
        exact ⟨by omega, by omega⟩
      clear hy hy2 hb4 gdb kt sz3 gwr
      generalize w4 = w9 at *
      have lc : (bcL true c).length = 8 := bcL_len _ _
      have lr : rl.length = W := st.out.r.1
      clear hc256
      generalize bcL true c = cl at *
      go_wp2
      go_loopw [9] (fun i wq => ∃ j : Nat, j ≤ 8 ∧ i = .int .i64 (j : Int) ∧ Hid (SumSt w wq (kcs W p f true z) g cap gp capp W (partL j rl cl) pl) ∧ Hid (RowW wq gd capd 8 cl)) (fun i _ => 8 - (intOf i).toNat)
      case atStart => exact ⟨0, by omega, rfl, by unfold Hid; rw [partL_zero]; exact st.out, rc⟩
      case round =>
        obtain ⟨j, hj, rfl, st5, rc5⟩ := hrel
        clear st rc
        by_cases hj8 : (j : Int) < 8
        · have jr : j < rl.length := by omega
          have jc : j < cl.length := by omega
          have jp : j < (partL j rl cl).length := by rw [partL_len (by omega) (by omega)]; omega
          obtain ⟨q0, q1⟩ := st5.out.r.cell j jp
          rw [partL_get (by omega) jr] at q0
          have q2 := (rc5.out.cell j jc).1
          have nx := partL_next jc jr
          have hjW : (j : Int) < (W : Int) := by omega
          have S6 : Hid (SumSt w (wr.setCell ⟨g, j, none⟩ (.bool (rl[j] ^^ cl[j]))) (kcs W p f true z) g cap gp capp W (partL (j + 1) rl cl) pl) := by
            unfold Hid; rw [← nx]; exact st5.out.set j _
          have R6 : Hid (RowW (wr.setCell ⟨g, j, none⟩ (.bool (rl[j] ^^ cl[j]))) gd capd 8 cl) := rc5.out.block (blk_far _ _ _ _ gne.out.1)
          clear nx jp st5 rc5
          generalize rl[j] = a1 at *
          generalize cl[j] = a2 at *
          cases a1 <;> cases a2
          all_goals
            go_wp2_with fail
            go_region
            go_wp2
          all_goals exact ⟨⟨j + 1, by omega, by simp, S6.out.drew, R6.out.drew⟩, by simp [intOf]; omega⟩
        · obtain rfl : j = 8 := by omega
          have st6 : Hid (SumSt w wr (kcs W p f true z) g cap gp capp W (mixL rl cl) pl) := by unfold Hid; rw [← partL_mix lc]; exact st5.out
          have LS0 : LeftS pl (mixL rl cl) 0 (byL pl rl cl) := rfl
          clear st5 rc5 lr lc gne hj
          generalize byL pl rl cl = T2 at *
          generalize mixL rl cl = ml at *
          go_wp2
          go_loopw [5, 10] (fun r i wq => ∃ j g cap : Nat, ∃ cur : List Bool, j ≤ 8 ∧ r = .slice (some ⟨g, 0, none⟩) W cap ∧ i = .int .i64 (j : Int) ∧ Hid (SumSt w wq (kcs W p f true z) g cap gp capp W cur pl) ∧ LeftS pl cur j T2) (fun _ i _ => 8 - (intOf i).toNat)
          case atStart => exact ⟨0, g, cap, ml, by omega, rfl, rfl, st6, LS0⟩
          case round =>
            obtain ⟨j, g1, cap1, cur, hj, rfl, rfl, st7, LS⟩ := hrel
            clear st6 LS0
            by_cases hj8 : (j : Int) < 8
            · have lcur : cur.length = W := st7.out.r.1
              have hcap : (W : Int) ≤ (cap1 : Int) := by have := st7.out.r.2.1; omega
              obtain ⟨h, tl, rfl⟩ : ∃ h tl, cur = h :: tl := by
                cases cur with
                | nil => rw [List.length_nil] at lcur; omega
                | cons h tl => exact ⟨h, tl, rfl⟩
              have q0 : wr.cell? ⟨g1, 0, none⟩ = some (.bool h) := (st7.out.r.cell 0 (by simp)).1
              have hsz : Hid (w.heap.size ≤ wr.heap.size) := st7.out.b.size
              have ltl : Hid (tl.length = W - 1) := by show _ = _; rw [List.length_cons] at lcur; omega
              replace LS := LS.next (by omega)
              clear lcur
              have hl1 : (tl.map Value.bool).length = (W - 1) * 1 := by rw [List.length_map, ltl.out]; omega
              have h63 : 0 + (W - 1) ≤ maxLen := by unfold maxLen; omega
              have hby : (0 + (W - 1)) * 1 ≤ 140737488355328 := by omega
              have h63b : 0 + (W - 1) + 1 ≤ maxLen := by unfold maxLen; omega
              have hbyb : (0 + (W - 1) + 1) * 1 ≤ 140737488355328 := by omega
              cases h
              · have e0 : stL pl (false :: tl) = tl ++ [false] := rfl
                rw [e0] at LS
                go_wp2_with (first
                  | (at_builtin; refine wpList_append_own _ rfl _ _ 52 rfl wr.heap.size 4 i0 (.bool false) 1 1 Try.underlying52 hi hz0 hz1 hz2 rfl (by decide) _ _ _ rfl (row_zero wr wr.heap.size (Nat.le_refl _)) ⟨g1, 1, none⟩ (W - 1) (cap1 - 1) (tl.map Value.bool) rfl hl1 (tail_cells st7.out _) (bools_one tl) h63 hby (by simp) ?_; intro v1 wA hA gA _)
                  | (at_builtin; refine wpList_append_own _ rfl _ _ 52 rfl wr.heap.size 4 i0 (.bool false) 1 1 Try.underlying52 hi hz0 hz1 hz2 rfl (by decide) _ _ _ rfl (World.ownsRow.alloc hA _) ⟨wA.heap.size, 0, none⟩ 1 1 [.bool false] rfl rfl (cell_one_new _ _ _) (by simp [Value.oneCell']) h63b hbyb (by have := gA.size; simp at *; omega) ?_; intro v2 wB hBo gB _; obtain ⟨g2, cap2, rfl, stB⟩ := step_row hW.1 st7.out hA gA hBo gB; replace stB : Hid _ := stB))
                go_wp2
                go_loop [12] (fun i => i = .int .i64 0) (fun _ => 0)
                case atStart => rfl
                case round =>
                  subst hrel
                  go_wp2
                  exact ⟨⟨j + 1, g2, cap2, tl ++ [false], by omega, rfl, by simp, stB, LS⟩, by simp [intOf]; omega⟩
              · have ll : (tl ++ [false]).length = W := by have := ltl.out; simp; omega
                have e0 : stL pl (true :: tl) = partL W (tl ++ [false]) pl := by
                  rw [← ll, partL_all (by rw [ll]; exact lp.out)]; rfl
                rw [e0] at LS
                go_wp2_with (first
                  | (at_builtin; refine wpList_append_own _ rfl _ _ 52 rfl wr.heap.size 4 i0 (.bool false) 1 1 Try.underlying52 hi hz0 hz1 hz2 rfl (by decide) _ _ _ rfl (row_zero wr wr.heap.size (Nat.le_refl _)) ⟨g1, 1, none⟩ (W - 1) (cap1 - 1) (tl.map Value.bool) rfl hl1 (tail_cells st7.out _) (bools_one tl) h63 hby (by simp) ?_; intro v1 wA hA gA _)
                  | (at_builtin; refine wpList_append_own _ rfl _ _ 52 rfl wr.heap.size 4 i0 (.bool false) 1 1 Try.underlying52 hi hz0 hz1 hz2 rfl (by decide) _ _ _ rfl (World.ownsRow.alloc hA _) ⟨wA.heap.size, 0, none⟩ 1 1 [.bool false] rfl rfl (cell_one_new _ _ _) (by simp [Value.oneCell']) h63b hbyb (by have := gA.size; simp at *; omega) ?_; intro v2 wB hBo gB _; obtain ⟨g2, cap2, rfl, stB⟩ := step_row hW.1 st7.out hA gA hBo gB; replace stB : Hid _ := stB))
                clear st7 q0 hl1 h63 hby h63b hbyb hA gA hBo gB e0
                go_wp2
                generalize tl ++ [false] = tz at *
                go_loopw [12] (fun i wq => ∃ n : Nat, n ≤ W ∧ i = .int .i64 (n : Int) ∧ Hid (SumSt w wq (kcs W p f true z) g2 cap2 gp capp W (partL n tz pl) pl)) (fun i _ => W - (intOf i).toNat)
                case atStart => exact ⟨0, by omega, rfl, by unfold Hid; rw [partL_zero]; exact stB.out⟩
                case round =>
                  obtain ⟨n, hn, rfl, st8⟩ := hrel
                  clear stB
                  by_cases hnW : (n : Int) < (W : Int)
                  · have jr : n < tz.length := by omega
                    have jc : n < pl.length := by rw [lp.out]; omega
                    have jp : n < (partL n tz pl).length := by rw [partL_len (by omega) (by omega)]; omega
                    obtain ⟨q0, q1⟩ := st8.out.r.cell n jp
                    rw [partL_get (by omega) jr] at q0
                    have q2 := (st8.out.p.cell n jc).1
                    have nx := partL_next jc jr
                    have S9 : Hid (SumSt w (wr.setCell ⟨g2, n, none⟩ (.bool (tz[n] ^^ pl[n]))) (kcs W p f true z) g2 cap2 gp capp W (partL (n + 1) tz pl) pl) := by
                      unfold Hid; rw [← nx]; exact st8.out.set n _
                    clear nx jp st8
                    generalize tz[n] = a1 at *
                    generalize pl[n] = a2 at *
                    cases a1 <;> cases a2
                    all_goals
                      go_wp2_with fail
                      go_region
                      go_wp2
                    all_goals exact ⟨⟨n + 1, by omega, by simp, S9.out.drew⟩, by simp [intOf]; omega⟩
                  · obtain rfl : n = W := by omega
                    go_wp2
                    exact ⟨⟨j + 1, g2, cap2, _, by omega, rfl, by simp, st8, LS⟩, by simp [intOf]; omega⟩
            · obtain rfl : j = 8 := by omega
              have hT := LS.done
              subst hT
              go_wp2
              exact ⟨⟨k + 1, g1, cap1, _, by omega, rfl, by simp, st7, LB⟩, by simp [intOf]; omega⟩
    · obtain rfl : k = bs.length := by omega
      have hT := LB.done
      subst hT
      have kt := st.out.kind.1
      have kz := st.out.kind.2
      have lr : rl.length = W := st.out.r.1
      have R0 : Hid (Row wr w.heap.size (.slice (some ⟨g, 0, none⟩) W cap) rl) := st.out.r.row (Nat.le_of_lt st.out.gl)
      go_wp2_with fail
      refine (turned_any rl _ w.heap.size wr R0.out (by omega)).mono ?_
      rintro e w4 ⟨y2, rfl, hy2, hb4⟩
      have Y : Hid (Row w4 wr.heap.size y2 rl.reverse) := hy2
      replace st : Hid (SumSt w w4 (kcs W p f true z) g cap gp capp W rl pl) := st.out.below hb4
      clear kt kz hy2 hb4 R0
      have kz := st.out.kind.2
      have B4 : Hid (Below w.heap.size w w4) := st.out.b
      have hfin : Hid (numL rl.reverse ^^^ z = S) := hS2
      have fn : Hid (∀ n, Calls Try.prog 26 #[y2] (w4.drewN n) fun e w' => e = .returned (.int .u32 ((numL rl.reverse : Nat) : Int)) ∧ w' = w4.drewN n) := fun n => number_any rl.reverse y2 wr.heap.size (w4.drewN n) (Y.out.below (below_drN (Below.refl _ _) n)) (by rw [List.length_reverse]; omega)
      have nb : numL rl.reverse < 4294967296 := num32 (by rw [List.length_reverse]; omega)
      clear st hS2 lr lp Y
      generalize numL rl.reverse = M at *
      go_wp2_with fail
      go_quiet (first | (go_at_call 26; refine Calls.quiet_of_same (fn.out _)))
      clear fn
      go_wp2
      go_ret
      exact ⟨ret_x nb hz hfin.out, below_drN B4.out _⟩

set_option maxRecDepth 100000 in
set_option maxHeartbeats 4000000 in
theorem rsum_false (W p f : Nat) (z : Nat) (bs : List Nat) (gb ob capb : Nat) (w : World) (hW : 8 ≤ (W : Int) ∧ (W : Int) ≤ 32) (hz : z < 4294967296) (cf : BitsC f W) (cp : BitsC p W) (hbs : AllBytes bs) (hlen : (bs.length : Int) ≤ 9223372036854775807)
    (hb : BytesIn w gb ob bs) (hgb : gb < w.heap.size) (S : Nat) (hS : Hid (sumL W p f false z bs = S)) :
    Calls Try.prog 16 #[kv (W : Int) p f false z, .slice (some ⟨gb, ob, none⟩) bs.length capb] w fun e w' => e = .returned (.int .u32 (S : Int)) ∧ Below w.heap.size w w' := by
  obtain ⟨i0, hi, hz0, hz1, hz2⟩ := info_parts info_bool
  go_enter Try.func16, Try.ntmps16
  go_wp2_with fail
  refine (cf _).mono ?_
  rintro e w1 ⟨x, rfl, hx, hb1⟩
  have X : Hid (Row w1 (w.alloc (.cells (kcs W p f false z) 48)).heap.size x (bitsL f W) ∧ Below (w.alloc (.cells (kcs W p f false z) 48)).heap.size (w.alloc (.cells (kcs W p f false z) 48)) w1) := ⟨hx, hb1⟩
  have k0 : w1.cell? ⟨w.heap.size, 0, none⟩ = some (.int .i64 (W : Int)) := (hb1.cell (p := ⟨w.heap.size, 0, none⟩) (by simp)).trans (by simp)
  have k1 : w1.cell? ⟨w.heap.size, 1, none⟩ = some (.int .u32 (p : Int)) := (hb1.cell (p := ⟨w.heap.size, 1, none⟩) (by simp)).trans (by simp)
  clear hx hb1 cf
  go_wp2_with fail
  refine (cp _).mono ?_
  rintro e w2 ⟨y, rfl, hy, hb2⟩
  obtain ⟨g0, cap0, gp, capp, rfl, rfl, st0⟩ := sum_start (w := w) (by omega) (bitsL_len W f) (bitsL_len W p) X.out.1 X.out.2 hy hb2
  replace st0 : Hid (SumSt w w2 (kcs W p f false z) g0 cap0 gp capp W (bitsL f W) (bitsL p W)) := st0
  have lp : Hid ((bitsL p W).length = W) := bitsL_len W p
  have lf : Hid ((bitsL f W).length = W) := bitsL_len W f
  have L0 : LeftB (bitsL p W) (bitsL f W) false bs 0 (foldB (bitsL p W) (bitsL f W) (bs.map (bcL false))) := rfl
  have hS2 : Hid (numL (revL false (foldB (bitsL p W) (bitsL f W) (bs.map (bcL false)))) ^^^ z = S) := hS
  clear hy hb2 X k0 k1 cp hS
  generalize foldB (bitsL p W) (bitsL f W) (bs.map (bcL false)) = T at *
  generalize bitsL p W = pl at *
  generalize bitsL f W = fl at *
  go_wp2
  go_loopw [5, 7] (fun r i wr => ∃ k g cap : Nat, ∃ rl : List Bool, k ≤ bs.length ∧ r = .slice (some ⟨g, 0, none⟩) W cap ∧ i = .int .i64 (k : Int) ∧ Hid (SumSt w wr (kcs W p f false z) g cap gp capp W rl pl) ∧ LeftB pl rl false bs k T) (fun _ i _ => bs.length - (intOf i).toNat)
  case atStart => exact ⟨0, g0, cap0, fl, by omega, rfl, rfl, st0, L0⟩
  case round =>
    obtain ⟨k, g, cap, rl, hk, rfl, rfl, st, LB⟩ := hrel
    clear st0 L0 lf
    by_cases hlt : k < bs.length
    · have hki : (k : Int) < (bs.length : Int) := by omega
      have hbk := hb.at hgb st.out.b k hlt
      have hc256 : (0 : Int) ≤ (bs[k] : Int) ∧ (bs[k] : Int) < 256 := by
        have := hbs bs[k] (List.getElem_mem hlt)
        exact ⟨by omega, by omega⟩
      have cb : BitsC bs[k] 8 := bitsC (by omega) (by omega)
      replace LB := LB.next hlt
      generalize bs[k] = c at *
      have gwr : Hid (g < wr.heap.size ∧ w.heap.size < g) := ⟨st.out.r.lt, st.out.gl⟩
      go_wp2_with fail
      refine (cb _).mono ?_
      rintro e w3 ⟨y, rfl, hy, hb3⟩
      obtain ⟨gc, capc, ey, gcb, rc⟩ := RowW.of hy (by rw [bitsL_len]; omega)
      rw [bitsL_len] at ey rc
      subst ey
      replace st : Hid (SumSt w w3 (kcs W p f false z) g cap gp capp W rl pl) := st.out.below hb3
      have kt := st.out.kind.1
      have sz3 : Hid (wr.heap.size ≤ w3.heap.size) := hb3.size
      replace rc : Hid (RowW w3 gc capc 8 (bcL false c)) := rc
      have gne : Hid (gc ≠ g ∧ w.heap.size < gc) := by
        have h1 := gwr.out
        have h2 := sz3.out
        exact ⟨by omega, by omega⟩
      clear hy hb3 gcb cb hbk sz3 gwr
      generalize gc = gd at *
      generalize capc = capd at *
      generalize w3 = w9 at *
      have lc : (bcL false c).length = 8 := bcL_len _ _
      have lr : rl.length = W := st.out.r.1
      clear hc256
      generalize bcL false c = cl at *
      go_wp2
      go_loopw [9] (fun i wq => ∃ j : Nat, j ≤ 8 ∧ i = .int .i64 (j : Int) ∧ Hid (SumSt w wq (kcs W p f false z) g cap gp capp W (partL j rl cl) pl) ∧ Hid (RowW wq gd capd 8 cl)) (fun i _ => 8 - (intOf i).toNat)
      case atStart => exact ⟨0, by omega, rfl, by unfold Hid; rw [partL_zero]; exact st.out, rc⟩
      case round =>
        obtain ⟨j, hj, rfl, st5, rc5⟩ := hrel
        clear st rc
        by_cases hj8 : (j : Int) < 8
        · have jr : j < rl.length := by omega
          have jc : j < cl.length := by omega
          have jp : j < (partL j rl cl).length := by rw [partL_len (by omega) (by omega)]; omega
          obtain ⟨q0, q1⟩ := st5.out.r.cell j jp
          rw [partL_get (by omega) jr] at q0
          have q2 := (rc5.out.cell j jc).1
          have nx := partL_next jc jr
          have hjW : (j : Int) < (W : Int) := by omega
          have S6 : Hid (SumSt w (wr.setCell ⟨g, j, none⟩ (.bool (rl[j] ^^ cl[j]))) (kcs W p f false z) g cap gp capp W (partL (j + 1) rl cl) pl) := by
            unfold Hid; rw [← nx]; exact st5.out.set j _
          have R6 : Hid (RowW (wr.setCell ⟨g, j, none⟩ (.bool (rl[j] ^^ cl[j]))) gd capd 8 cl) := rc5.out.block (blk_far _ _ _ _ gne.out.1)
          clear nx jp st5 rc5
          generalize rl[j] = a1 at *
          generalize cl[j] = a2 at *
          cases a1 <;> cases a2
          all_goals
            go_wp2_with fail
            go_region
            go_wp2
          all_goals exact ⟨⟨j + 1, by omega, by simp, S6.out.drew, R6.out.drew⟩, by simp [intOf]; omega⟩
        · obtain rfl : j = 8 := by omega
          have st6 : Hid (SumSt w wr (kcs W p f false z) g cap gp capp W (mixL rl cl) pl) := by unfold Hid; rw [← partL_mix lc]; exact st5.out
          have LS0 : LeftS pl (mixL rl cl) 0 (byL pl rl cl) := rfl
          clear st5 rc5 lr lc gne hj
          generalize byL pl rl cl = T2 at *
          generalize mixL rl cl = ml at *
          go_wp2
          go_loopw [5, 10] (fun r i wq => ∃ j g cap : Nat, ∃ cur : List Bool, j ≤ 8 ∧ r = .slice (some ⟨g, 0, none⟩) W cap ∧ i = .int .i64 (j : Int) ∧ Hid (SumSt w wq (kcs W p f false z) g cap gp capp W cur pl) ∧ LeftS pl cur j T2) (fun _ i _ => 8 - (intOf i).toNat)
          case atStart => exact ⟨0, g, cap, ml, by omega, rfl, rfl, st6, LS0⟩
          case round =>
            obtain ⟨j, g1, cap1, cur, hj, rfl, rfl, st7, LS⟩ := hrel
            clear st6 LS0
            by_cases hj8 : (j : Int) < 8
            · have lcur : cur.length = W := st7.out.r.1
              have hcap : (W : Int) ≤ (cap1 : Int) := by have := st7.out.r.2.1; omega
              obtain ⟨h, tl, rfl⟩ : ∃ h tl, cur = h :: tl := by
                cases cur with
                | nil => rw [List.length_nil] at lcur; omega
                | cons h tl => exact ⟨h, tl, rfl⟩
              have q0 : wr.cell? ⟨g1, 0, none⟩ = some (.bool h) := (st7.out.r.cell 0 (by simp)).1
              have hsz : Hid (w.heap.size ≤ wr.heap.size) := st7.out.b.size
              have ltl : Hid (tl.length = W - 1) := by show _ = _; rw [List.length_cons] at lcur; omega
              replace LS := LS.next (by omega)
              clear lcur
              have hl1 : (tl.map Value.bool).length = (W - 1) * 1 := by rw [List.length_map, ltl.out]; omega
              have h63 : 0 + (W - 1) ≤ maxLen := by unfold maxLen; omega
              have hby : (0 + (W - 1)) * 1 ≤ 140737488355328 := by omega
              have h63b : 0 + (W - 1) + 1 ≤ maxLen := by unfold maxLen; omega
              have hbyb : (0 + (W - 1) + 1) * 1 ≤ 140737488355328 := by omega
              cases h
              · have e0 : stL pl (false :: tl) = tl ++ [false] := rfl
                rw [e0] at LS
                go_wp2_with (first
                  | (at_builtin; refine wpList_append_own _ rfl _ _ 52 rfl wr.heap.size 4 i0 (.bool false) 1 1 Try.underlying52 hi hz0 hz1 hz2 rfl (by decide) _ _ _ rfl (row_zero wr wr.heap.size (Nat.le_refl _)) ⟨g1, 1, none⟩ (W - 1) (cap1 - 1) (tl.map Value.bool) rfl hl1 (tail_cells st7.out _) (bools_one tl) h63 hby (by simp) ?_; intro v1 wA hA gA _)
                  | (at_builtin; refine wpList_append_own _ rfl _ _ 52 rfl wr.heap.size 4 i0 (.bool false) 1 1 Try.underlying52 hi hz0 hz1 hz2 rfl (by decide) _ _ _ rfl (World.ownsRow.alloc hA _) ⟨wA.heap.size, 0, none⟩ 1 1 [.bool false] rfl rfl (cell_one_new _ _ _) (by simp [Value.oneCell']) h63b hbyb (by have := gA.size; simp at *; omega) ?_; intro v2 wB hBo gB _; obtain ⟨g2, cap2, rfl, stB⟩ := step_row hW.1 st7.out hA gA hBo gB; replace stB : Hid _ := stB))
                go_wp2
                go_loop [12] (fun i => i = .int .i64 0) (fun _ => 0)
                case atStart => rfl
                case round =>
                  subst hrel
                  go_wp2
                  exact ⟨⟨j + 1, g2, cap2, tl ++ [false], by omega, rfl, by simp, stB, LS⟩, by simp [intOf]; omega⟩
              · have ll : (tl ++ [false]).length = W := by have := ltl.out; simp; omega
                have e0 : stL pl (true :: tl) = partL W (tl ++ [false]) pl := by
                  rw [← ll, partL_all (by rw [ll]; exact lp.out)]; rfl
                rw [e0] at LS
                go_wp2_with (first
                  | (at_builtin; refine wpList_append_own _ rfl _ _ 52 rfl wr.heap.size 4 i0 (.bool false) 1 1 Try.underlying52 hi hz0 hz1 hz2 rfl (by decide) _ _ _ rfl (row_zero wr wr.heap.size (Nat.le_refl _)) ⟨g1, 1, none⟩ (W - 1) (cap1 - 1) (tl.map Value.bool) rfl hl1 (tail_cells st7.out _) (bools_one tl) h63 hby (by simp) ?_; intro v1 wA hA gA _)
                  | (at_builtin; refine wpList_append_own _ rfl _ _ 52 rfl wr.heap.size 4 i0 (.bool false) 1 1 Try.underlying52 hi hz0 hz1 hz2 rfl (by decide) _ _ _ rfl (World.ownsRow.alloc hA _) ⟨wA.heap.size, 0, none⟩ 1 1 [.bool false] rfl rfl (cell_one_new _ _ _) (by simp [Value.oneCell']) h63b hbyb (by have := gA.size; simp at *; omega) ?_; intro v2 wB hBo gB _; obtain ⟨g2, cap2, rfl, stB⟩ := step_row hW.1 st7.out hA gA hBo gB; replace stB : Hid _ := stB))
                clear st7 q0 hl1 h63 hby h63b hbyb hA gA hBo gB e0
                go_wp2
                generalize tl ++ [false] = tz at *
                go_loopw [12] (fun i wq => ∃ n : Nat, n ≤ W ∧ i = .int .i64 (n : Int) ∧ Hid (SumSt w wq (kcs W p f false z) g2 cap2 gp capp W (partL n tz pl) pl)) (fun i _ => W - (intOf i).toNat)
                case atStart => exact ⟨0, by omega, rfl, by unfold Hid; rw [partL_zero]; exact stB.out⟩
                case round =>
                  obtain ⟨n, hn, rfl, st8⟩ := hrel
                  clear stB
                  by_cases hnW : (n : Int) < (W : Int)
                  · have jr : n < tz.length := by omega
                    have jc : n < pl.length := by rw [lp.out]; omega
                    have jp : n < (partL n tz pl).length := by rw [partL_len (by omega) (by omega)]; omega
                    obtain ⟨q0, q1⟩ := st8.out.r.cell n jp
                    rw [partL_get (by omega) jr] at q0
                    have q2 := (st8.out.p.cell n jc).1
                    have nx := partL_next jc jr
                    have S9 : Hid (SumSt w (wr.setCell ⟨g2, n, none⟩ (.bool (tz[n] ^^ pl[n]))) (kcs W p f false z) g2 cap2 gp capp W (partL (n + 1) tz pl) pl) := by
                      unfold Hid; rw [← nx]; exact st8.out.set n _
                    clear nx jp st8
                    generalize tz[n] = a1 at *
                    generalize pl[n] = a2 at *
                    cases a1 <;> cases a2
                    all_goals
                      go_wp2_with fail
                      go_region
                      go_wp2
                    all_goals exact ⟨⟨n + 1, by omega, by simp, S9.out.drew⟩, by simp [intOf]; omega⟩
                  · obtain rfl : n = W := by omega
                    go_wp2
                    exact ⟨⟨j + 1, g2, cap2, _, by omega, rfl, by simp, st8, LS⟩, by simp [intOf]; omega⟩
            · obtain rfl : j = 8 := by omega
              have hT := LS.done
              subst hT
              go_wp2
              exact ⟨⟨k + 1, g1, cap1, _, by omega, rfl, by simp, st7, LB⟩, by simp [intOf]; omega⟩
    · obtain rfl : k = bs.length := by omega
      have hT := LB.done
      subst hT
      have kt := st.out.kind.1
      have kz := st.out.kind.2
      have lr : rl.length = W := st.out.r.1
      have B4 : Hid (Below w.heap.size w wr) := st.out.b
      have hfin : Hid (numL rl ^^^ z = S) := hS2
      have R0 : Hid (Row wr w.heap.size (.slice (some ⟨g, 0, none⟩) W cap) rl) := st.out.r.row (Nat.le_of_lt st.out.gl)
      have fn : Hid (∀ n, Calls Try.prog 26 #[.slice (some ⟨g, 0, none⟩) W cap] (wr.drewN n) fun e w' => e = .returned (.int .u32 ((numL rl : Nat) : Int)) ∧ w' = wr.drewN n) := fun n => number_any rl _ w.heap.size (wr.drewN n) (R0.out.below (below_drN (Below.refl _ _) n)) (by omega)
      have nb : numL rl < 4294967296 := num32 (by omega)
      clear R0
      clear st hS2 lr lp 
      generalize numL rl = M at *
      go_wp2_with fail
      go_quiet (first | (go_at_call 26; refine Calls.quiet_of_same (fn.out _)))
      clear fn
      go_wp2
      go_ret
      exact ⟨ret_x nb hz hfin.out, below_drN B4.out _⟩

set_option maxRecDepth 100000 in
set_option maxHeartbeats 4000000 in
theorem rsum0_true (W p f : Nat) (z : Nat) (w : World) (hW : 8 ≤ (W : Int) ∧ (W : Int) ≤ 32) (hz : z < 4294967296) (cf : BitsC f W) (cp : BitsC p W) (S : Nat) (hS : Hid (sumL W p f true z [] = S)) :
    Calls Try.prog 16 #[kv (W : Int) p f true z, .slice none 0 0] w fun e w' => e = .returned (.int .u32 (S : Int)) ∧ Below w.heap.size w w' := by
  obtain ⟨i0, hi, hz0, hz1, hz2⟩ := info_parts info_bool
  go_enter Try.func16, Try.ntmps16
  go_wp2_with fail
  refine (cf _).mono ?_
  rintro e w1 ⟨x, rfl, hx, hb1⟩
  have X : Hid (Row w1 (w.alloc (.cells (kcs W p f true z) 48)).heap.size x (bitsL f W) ∧ Below (w.alloc (.cells (kcs W p f true z) 48)).heap.size (w.alloc (.cells (kcs W p f true z) 48)) w1) := ⟨hx, hb1⟩
  have k0 : w1.cell? ⟨w.heap.size, 0, none⟩ = some (.int .i64 (W : Int)) := (hb1.cell (p := ⟨w.heap.size, 0, none⟩) (by simp)).trans (by simp)
  have k1 : w1.cell? ⟨w.heap.size, 1, none⟩ = some (.int .u32 (p : Int)) := (hb1.cell (p := ⟨w.heap.size, 1, none⟩) (by simp)).trans (by simp)
  clear hx hb1 cf
  go_wp2_with fail
  refine (cp _).mono ?_
  rintro e w2 ⟨y, rfl, hy, hb2⟩
  obtain ⟨g0, cap0, gp, capp, rfl, rfl, st0⟩ := sum_start (w := w) (by omega) (bitsL_len W f) (bitsL_len W p) X.out.1 X.out.2 hy hb2
  replace st0 : Hid (SumSt w w2 (kcs W p f true z) g0 cap0 gp capp W (bitsL f W) (bitsL p W)) := st0
  have lp : Hid ((bitsL p W).length = W) := bitsL_len W p
  have lf : Hid ((bitsL f W).length = W) := bitsL_len W f
  have hS2 : Hid (numL (revL true (bitsL f W)) ^^^ z = S) := hS
  clear hy hb2 X k0 k1 cp hS
  generalize bitsL p W = pl at *
  generalize bitsL f W = fl at *
  go_wp2
  go_loop [5, 7] (fun r i => r = .slice (some ⟨g0, 0, none⟩) W cap0 ∧ i = .int .i64 0) (fun _ _ => 0)
  case atStart => exact ⟨rfl, rfl⟩
  case round =>
    obtain ⟨rfl, rfl⟩ := hrel
    clear lf
    have st := st0
    clear st0
    generalize w2 = wr at *
    generalize g0 = g at *
    generalize cap0 = cap at *
    generalize fl = rl at *
    have kt := st.out.kind.1
    have kz := st.out.kind.2
    have lr : rl.length = W := st.out.r.1
    have R0 : Hid (Row wr w.heap.size (.slice (some ⟨g, 0, none⟩) W cap) rl) := st.out.r.row (Nat.le_of_lt st.out.gl)
    go_wp2_with fail
    refine (turned_any rl _ w.heap.size wr R0.out (by omega)).mono ?_
    rintro e w4 ⟨y2, rfl, hy2, hb4⟩
    have Y : Hid (Row w4 wr.heap.size y2 rl.reverse) := hy2
    replace st : Hid (SumSt w w4 (kcs W p f true z) g cap gp capp W rl pl) := st.out.below hb4
    clear kt kz hy2 hb4 R0
    have kz := st.out.kind.2
    have B4 : Hid (Below w.heap.size w w4) := st.out.b
    have hfin : Hid (numL rl.reverse ^^^ z = S) := hS2
    have fn : Hid (∀ n, Calls Try.prog 26 #[y2] (w4.drewN n) fun e w' => e = .returned (.int .u32 ((numL rl.reverse : Nat) : Int)) ∧ w' = w4.drewN n) := fun n => number_any rl.reverse y2 wr.heap.size (w4.drewN n) (Y.out.below (below_drN (Below.refl _ _) n)) (by rw [List.length_reverse]; omega)
    have nb : numL rl.reverse < 4294967296 := num32 (by rw [List.length_reverse]; omega)
    clear st hS2 lr lp Y
    generalize numL rl.reverse = M at *
    go_wp2_with fail
    go_quiet (first | (go_at_call 26; refine Calls.quiet_of_same (fn.out _)))
    clear fn
    go_wp2
    go_ret
    exact ⟨ret_x nb hz hfin.out, below_drN B4.out _⟩

set_option maxRecDepth 100000 in
set_option maxHeartbeats 4000000 in
theorem rsum0_false (W p f : Nat) (z : Nat) (w : World) (hW : 8 ≤ (W : Int) ∧ (W : Int) ≤ 32) (hz : z < 4294967296) (cf : BitsC f W) (cp : BitsC p W) (S : Nat) (hS : Hid (sumL W p f false z [] = S)) :
    Calls Try.prog 16 #[kv (W : Int) p f false z, .slice none 0 0] w fun e w' => e = .returned (.int .u32 (S : Int)) ∧ Below w.heap.size w w' := by
  obtain ⟨i0, hi, hz0, hz1, hz2⟩ := info_parts info_bool
  go_enter Try.func16, Try.ntmps16
  go_wp2_with fail
  refine (cf _).mono ?_
  rintro e w1 ⟨x, rfl, hx, hb1⟩
  have X : Hid (Row w1 (w.alloc (.cells (kcs W p f false z) 48)).heap.size x (bitsL f W) ∧ Below (w.alloc (.cells (kcs W p f false z) 48)).heap.size (w.alloc (.cells (kcs W p f false z) 48)) w1) := ⟨hx, hb1⟩
  have k0 : w1.cell? ⟨w.heap.size, 0, none⟩ = some (.int .i64 (W : Int)) := (hb1.cell (p := ⟨w.heap.size, 0, none⟩) (by simp)).trans (by simp)
  have k1 : w1.cell? ⟨w.heap.size, 1, none⟩ = some (.int .u32 (p : Int)) := (hb1.cell (p := ⟨w.heap.size, 1, none⟩) (by simp)).trans (by simp)
  clear hx hb1 cf
  go_wp2_with fail
  refine (cp _).mono ?_
  rintro e w2 ⟨y, rfl, hy, hb2⟩
  obtain ⟨g0, cap0, gp, capp, rfl, rfl, st0⟩ := sum_start (w := w) (by omega) (bitsL_len W f) (bitsL_len W p) X.out.1 X.out.2 hy hb2
  replace st0 : Hid (SumSt w w2 (kcs W p f false z) g0 cap0 gp capp W (bitsL f W) (bitsL p W)) := st0
  have lp : Hid ((bitsL p W).length = W) := bitsL_len W p
  have lf : Hid ((bitsL f W).length = W) := bitsL_len W f
  have hS2 : Hid (numL (revL false (bitsL f W)) ^^^ z = S) := hS
  clear hy hb2 X k0 k1 cp hS
  generalize bitsL p W = pl at *
  generalize bitsL f W = fl at *
  go_wp2
  go_loop [5, 7] (fun r i => r = .slice (some ⟨g0, 0, none⟩) W cap0 ∧ i = .int .i64 0) (fun _ _ => 0)
  case atStart => exact ⟨rfl, rfl⟩
  case round =>
    obtain ⟨rfl, rfl⟩ := hrel
    clear lf
    have st := st0
    clear st0
    generalize w2 = wr at *
    generalize g0 = g at *
    generalize cap0 = cap at *
    generalize fl = rl at *
    have kt := st.out.kind.1
    have kz := st.out.kind.2
    have lr : rl.length = W := st.out.r.1
    have B4 : Hid (Below w.heap.size w wr) := st.out.b
    have hfin : Hid (numL rl ^^^ z = S) := hS2
    have R0 : Hid (Row wr w.heap.size (.slice (some ⟨g, 0, none⟩) W cap) rl) := st.out.r.row (Nat.le_of_lt st.out.gl)
    have fn : Hid (∀ n, Calls Try.prog 26 #[.slice (some ⟨g, 0, none⟩) W cap] (wr.drewN n) fun e w' => e = .returned (.int .u32 ((numL rl : Nat) : Int)) ∧ w' = wr.drewN n) := fun n => number_any rl _ w.heap.size (wr.drewN n) (R0.out.below (below_drN (Below.refl _ _) n)) (by omega)
    have nb : numL rl < 4294967296 := num32 (by omega)
    clear R0
    clear st hS2 lr lp 
    generalize numL rl = M at *
    go_wp2_with fail
    go_quiet (first | (go_at_call 26; refine Calls.quiet_of_same (fn.out _)))
    clear fn
    go_wp2
    go_ret
    exact ⟨ret_x nb hz hfin.out, below_drN B4.out _⟩

/-- a slice of bytes, as it is handed over -/
def BytesAt (w : World) (b : Value) (bs : List Nat) : Prop :=
  (b = .slice none 0 0 ∧ bs = []) ∨ ∃ g o cap, b = .slice (some ⟨g, o, none⟩) bs.length cap ∧ BytesIn w g o bs ∧ g < w.heap.size

theorem rsum_any (W p f : Nat) (t : Bool) (z : Nat) (b : Value) (bs : List Nat) (w : World) (hW : W = 8 ∨ W = 16 ∨ W = 32) (hp : p < 4294967296) (hf : f < 4294967296) (hz : z < 4294967296) (hbs : AllBytes bs) (hlen : (bs.length : Int) ≤ 9223372036854775807) (h : BytesAt w b bs) :
    Calls Try.prog 16 #[kv (W : Int) p f t z, b] w fun e w' => e = .returned (.int .u32 ((sumL W p f t z bs : Nat) : Int)) ∧ Below w.heap.size w w' := by
  have cf : BitsC f W := bitsC hf (by omega)
  have cp : BitsC p W := bitsC hp (by omega)
  rcases h with ⟨rfl, rfl⟩ | ⟨g, o, cap, rfl, h1, h2⟩
  · cases t
    · exact rsum0_false W p f z w ⟨by omega, by omega⟩ hz cf cp _ rfl
    · exact rsum0_true W p f z w ⟨by omega, by omega⟩ hz cf cp _ rfl
  · cases t
    · exact rsum_false W p f z bs g o cap w ⟨by omega, by omega⟩ hz cf cp hbs hlen h1 h2 _ rfl
    · exact rsum_true W p f z bs g o cap w ⟨by omega, by omega⟩ hz cf cp hbs hlen h1 h2 _ rfl
end Go.Proofs.Ytoocppfdcalmfaa
