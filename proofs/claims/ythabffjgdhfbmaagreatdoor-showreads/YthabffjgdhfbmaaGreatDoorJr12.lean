/-
  Texts that belong together, one behind the other: CrcRefD, SumMath, SumRefA, CrcPD, CrcPE, CrcSumAt, SumEnd, SnMath. Conditions: as each says.
-/
import Derived.BigQuiet
import Derived.BigRegion
import Derived.ChangeOld
import Derived.Deep.CutRange
import Derived.Deep.QuietTactic
import Derived.Laws.BitsAllLaws
import Derived.Laws.OwnMore
import Derived.Laws.Shifts
import Derived.Lib.SlBytesConst
import Derived.OpenShut
import Derived.ProofKit
import Derived.ShutString
import Derived.Test.YthabffjgdhfbmaaGreatDoorJr1
import Derived.Test.YthabffjgdhfbmaaGreatDoorJr2
import Derived.Test.YthabffjgdhfbmaaGreatDoorJr3
import Derived.Test.YthabffjgdhfbmaaGreatDoorJr11
set_option maxRecDepth 100000
set_option maxHeartbeats 32000000
set_option linter.unusedVariables false
namespace Go.Proofs.YthabffjgdhfbmaaGreatDoor
open Go.RowKit
def BitsC (v n : Nat) : Prop := ∀ w, Calls Tryz.prog 90 #[.int .u32 (v : Int), .int .i64 (n : Int)] w fun e w' => ∃ x, e = .returned x ∧ Row w' w.heap.size x (bitsL v n) ∧ Below w.heap.size w w'
theorem bitsC {v n : Nat} (hv : v < 4294967296) (hn : n ≤ 40) : BitsC v n := fun w => bits_any v n w hv hn
def LeftB (pl rl : List Bool) (t : Bool) (bs : List Nat) (k : Nat) (T : List Bool) : Prop := foldB pl rl ((bs.drop k).map (bcL t)) = T
def LeftS (pl cur : List Bool) (j : Nat) (T : List Bool) : Prop := itL pl (8 - j) cur = T
theorem LeftB.next {pl rl : List Bool} {t : Bool} {bs : List Nat} {k : Nat} {T : List Bool} (h : LeftB pl rl t bs k T) (hk : k < bs.length) : LeftB pl (byL pl rl (bcL t bs[k])) t bs (k + 1) T := by
 unfold LeftB at *
 rw [List.drop_eq_getElem_cons hk] at h
 exact h
theorem LeftB.done {pl rl : List Bool} {t : Bool} {bs : List Nat} {T : List Bool} (h : LeftB pl rl t bs bs.length T) : rl = T := by
 unfold LeftB at h; rw [List.drop_length] at h; exact h
theorem LeftS.next {pl cur : List Bool} {j : Nat} {T : List Bool} (h : LeftS pl cur j T) (hj : j < 8) : LeftS pl (stL pl cur) (j + 1) T := by
 unfold LeftS at *
 rw [show 8 - j = (8 - (j + 1)) + 1 by omega] at h
 exact h
theorem LeftS.done {pl cur T : List Bool} (h : LeftS pl cur 8 T) : cur = T := h
theorem SumSt.drew {w x : World} {kc : Array Value} {g cap gp capp W : Nat} {rl pl : List Bool} (h : SumSt w x kc g cap gp capp W rl pl) : SumSt w x.drew kc g cap gp capp W rl pl := h.below (Below.refl _ _).drew
theorem RowW.drew {x : World} {g cap W : Nat} {l : List Bool} (h : RowW x g cap W l) : RowW x.drew g cap W l := h.below (Below.refl _ _).drew
abbrev kcs (W p f : Nat) (t : Bool) (z : Nat) : Array Value := #[.int .i64 (W : Int), .int .u32 (p : Int), .int .u32 (f : Int), .bool t, .int .u32 (z : Int)]
theorem SumSt.kind {w x : World} {W' p f : Nat} {t : Bool} {z g cap gp capp W : Nat} {rl pl : List Bool} (h : SumSt w x (kcs W' p f t z) g cap gp capp W rl pl) : x.cell? ⟨w.heap.size, 3, none⟩ = some (.bool t) ∧ x.cell? ⟨w.heap.size, 4, none⟩ = some (.int .u32 (z : Int)) := by
 simp [World.cell?, h.k]
theorem sum_start {w w1 w2 : World} {kc : Array Value} {x y : Value} {fl pl : List Bool} {W : Nat} (hW : 0 < W) (lf : fl.length = W) (lp : pl.length = W) (hx : Row w1 (w.alloc (.cells kc 110)).heap.size x fl) (hb1 : Below (w.alloc (.cells kc 110)).heap.size (w.alloc (.cells kc 110)) w1)
 (hy : Row w2 w1.heap.size y pl) (hb2 : Below w1.heap.size w1 w2) : ∃ g cap gp capp, x = .slice (some ⟨g, 0, none⟩) W cap ∧ y = .slice (some ⟨gp, 0, none⟩) W capp ∧ SumSt w w2 kc g cap gp capp W fl pl := by
 obtain ⟨g, cap, ex, gb, rx⟩ := RowW.of hx (by omega)
 obtain ⟨gp, capp, ey, gpb, ry⟩ := RowW.of hy (by omega)
 rw [lf] at ex rx
 rw [lp] at ey ry
 have l1 := rx.lt
 simp only [World.size_alloc] at gb
 have k0 : (w.alloc (.cells kc 110)).heap[w.heap.size]? = some (.cells kc 110 (0, 0)) := World.alloc_heap_new w _
 have k1 := (hb1.block w.heap.size (by simp)).trans k0
 have k2 := (hb2.block w.heap.size (Array.getElem?_eq_some_iff.1 k1).1).trans k1
 refine ⟨g, cap, gp, capp, ex, ey, rx.below hb2, ry, by omega, by omega, by omega, k2, ?_⟩
 exact belowT (belowT ((Below.refl _ _).alloc (Nat.le_refl _) _) hb1) hb2
theorem below_drN {B : Nat} {a w : World} (h : Below B a w) (n : Nat) : Below B a (w.drewN n) := ⟨h.os, h.tape, h.output, h.size, h.block⟩
theorem num32 {l : List Bool} (h : l.length ≤ 32) : numL l < 4294967296 := by
 have h1 := numL_lt l
 have h2 : 2 ^ l.length ≤ 2 ^ 32 := Nat.pow_le_pow_right (by omega) h
 omega
theorem ret_x {M z S : Nat} (hM : M < 4294967296) (hz : z < 4294967296) (h : M ^^^ z = S) : Ending.returned (.int .u32 (bits .xor .u32 (M : Int) (z : Int))) = .returned (.int .u32 (S : Int)) := by rw [u32_xor_nat M z hM hz, h]
theorem row_zero (w : World) (base : Nat) (h : base ≤ w.heap.size) : (w.alloc (.cells #[] 4)).ownsRow base 4 1 (.slice (some ⟨w.heap.size, 0, none⟩) 0 0) 0 [] :=
 ⟨rfl, .inr ⟨w.heap.size, 0, #[], rfl, h, World.alloc_heap_new w _, by omega, by omega, rfl, rfl⟩⟩
theorem tail_cells {w x : World} {kc : Array Value} {g cap gp capp W : Nat} {h : Bool} {tl pl : List Bool} (st : SumSt w x kc g cap gp capp W (h :: tl) pl) (o : Obj) : ∀ j u, (tl.map Value.bool)[j]? = some u → (x.alloc o).cell? ((⟨g, 1, none⟩ : Addr).add j) = some u := by
 intro j u hu
 rw [List.getElem?_map] at hu
 have hj : j < tl.length := by
  rcases Nat.lt_or_ge j tl.length with h | h
  · exact h
  · rw [List.getElem?_eq_none h] at hu; cases hu
 rw [List.getElem?_eq_getElem hj] at hu
 have e : Value.bool tl[j] = u := by simpa using hu
 have c := (st.r.cell (j + 1) (by simp; omega)).1
 have c2 := (((Below.refl x.heap.size x).alloc (Nat.le_refl _) o).cell (p := ⟨g, j + 1, none⟩) st.r.lt).trans c
 rw [← e]
 have a : (⟨g, 1, none⟩ : Addr).add j = ⟨g, j + 1, none⟩ := by simp [Addr.add, Nat.add_comm]
 rw [a, c2]
 rfl
theorem bools_one (l : List Bool) : ∀ u ∈ l.map Value.bool, u.oneCell' = true := fun u hu => by
 obtain ⟨b, _, rfl⟩ := List.mem_map.1 hu; rfl
theorem step_row {w wr wA wB : World} {kc : Array Value} {g cap gp capp W : Nat} {h : Bool} {tl pl : List Bool} {v1 v2 : Value} (hW : 8 ≤ (W : Int)) (st : SumSt w wr kc g cap gp capp W (h :: tl) pl)
 (hA : wA.ownsRow wr.heap.size 4 1 v1 (0 + (W - 1)) ([] ++ tl.map Value.bool)) (gA : (wr.alloc (.cells #[] 4)).grownBy wA (Value.slice (some ⟨wr.heap.size, 0, none⟩) 0 0).ownBlock)
 (hB : wB.ownsRow wr.heap.size 4 1 v2 (0 + (W - 1) + 1) ([] ++ tl.map Value.bool ++ [.bool false])) (gB : (wA.alloc (.cells #[.bool false] 4)).grownBy wB v1.ownBlock) :
 ∃ g2 cap2, v2 = .slice (some ⟨g2, 0, none⟩) W cap2 ∧ SumSt w wB kc g2 cap2 gp capp W (tl ++ [false]) pl := by
 have bA : Below wr.heap.size wr wA := ((Below.refl _ wr).alloc (Nat.le_refl _) _).grown gA (by simp) (fun j e => by simp [Value.ownBlock] at e; omega)
 have bB : Below wr.heap.size wr wB := (bA.alloc bA.size _).grown gB (by have := bA.size; simp; omega) (fun j e => (World.ownsRow.lt hA j e).1)
 have ll : (tl ++ [false]).length = W := by have := st.r.1; simp at *; omega
 have hr : Row wB wr.heap.size v2 (tl ++ [false]) := by
  unfold Row
  rw [ll]
  have e : 0 + (W - 1) + 1 = W := by omega
  rw [e] at hB
  simpa using hB
 obtain ⟨g2, cap2, ev, gb, r2⟩ := RowW.of hr (by omega)
 rw [ll] at ev r2
 have s := st.below bB
 have l1 := st.p.lt
 have l2 := st.r.lt
 have l3 := st.gl
 exact ⟨g2, cap2, ev, r2, s.p, by omega, by omega, st.gpl, s.k, s.b⟩
theorem rsum_true (W p f : Nat) (z : Nat) (bs : List Nat) (gb ob capb : Nat) (w : World) (hW : 8 ≤ (W : Int) ∧ (W : Int) ≤ 32) (hz : z < 4294967296) (cf : BitsC f W) (cp : BitsC p W) (hbs : AllBytes bs) (hlen : (bs.length : Int) ≤ 9223372036854775807)
 (hb : BytesIn w gb ob bs) (hgb : gb < w.heap.size) (S : Nat) (hS : Hid (sumL W p f true z bs = S)) :
 Calls Tryz.prog 60 #[kv (W : Int) p f true z, .slice (some ⟨gb, ob, none⟩) bs.length capb] w fun e w' => e = .returned (.int .u32 (S : Int)) ∧ Below w.heap.size w w' := by
 obtain ⟨i0, hi, hz0, hz1, hz2⟩ := info_parts info_bool
 go_enter Tryz.func60, Tryz.ntmps60
 go_wp2_with fail
 refine (cf _).mono ?_
 rintro e w1 ⟨x, rfl, hx, hb1⟩
 have X : Hid (Row w1 (w.alloc (.cells (kcs W p f true z) 110)).heap.size x (bitsL f W) ∧ Below (w.alloc (.cells (kcs W p f true z) 110)).heap.size (w.alloc (.cells (kcs W p f true z) 110)) w1) := ⟨hx, hb1⟩
 have k0 : w1.cell? ⟨w.heap.size, 0, none⟩ = some (.int .i64 (W : Int)) := (hb1.cell (p := ⟨w.heap.size, 0, none⟩) (by simp)).trans (by simp)
 have k1 : w1.cell? ⟨w.heap.size, 1, none⟩ = some (.int .u32 (p : Int)) := (hb1.cell (p := ⟨w.heap.size, 1, none⟩) (by simp)).trans (by simp)
 clear hx hb1 cf
 go_wp2_with fail
 refine (cp _).mono ?_
 rintro e w2 ⟨y, rfl, hy, hb2⟩
 obtain ⟨g0, cap0, gp, capp, rfl, rfl, st0⟩ := sum_start (w := w) (by omega) (bitsL_len W f) (bitsL_len W p) X.out.1 X.out.2 hy hb2
 replace st0 : Hid (SumSt w w2 (kcs W p f true z) g0 cap0 gp capp W (bitsL f W) (bitsL p W)) := st0
 have lp : Hid ((bitsL p W).length = W) := bitsL_len W p
 have lf : Hid ((bitsL f W).length = W) := bitsL_len W f
 have L0 : LeftB (bitsL p W) (bitsL f W) true bs 0 (foldB (bitsL p W) (bitsL f W) (bs.map (bcL true))) := rfl
 have hS2 : Hid (numL (revL true (foldB (bitsL p W) (bitsL f W) (bs.map (bcL true)))) ^^^ z = S) := hS
 clear hy hb2 X k0 k1 cp hS
 generalize foldB (bitsL p W) (bitsL f W) (bs.map (bcL true)) = T at *
 generalize bitsL p W = pl at *
 generalize bitsL f W = fl at *
 go_wp2
 go_loopw [5, 7] (fun r i wr => ∃ k g cap : Nat, ∃ rl : List Bool, k ≤ bs.length ∧ r = .slice (some ⟨g, 0, none⟩) W cap ∧ i = .int .i64 (k : Int) ∧ Hid (SumSt w wr (kcs W p f true z) g cap gp capp W rl pl) ∧ LeftB pl rl true bs k T) (fun _ i _ => bs.length - (intOf i).toNat)
 case atStart => exact ⟨0, g0, cap0, fl, by omega, rfl, rfl, st0, L0⟩
 case round =>
  obtain ⟨k, g, cap, rl, hk, rfl, rfl, st, LB⟩ := hrel
  clear st0 L0 lf
  by_cases hlt : k < bs.length
  · have hki : (k : Int) < (bs.length : Int) := by omega
    have hbk := hb.at hgb st.out.b k hlt
    have hc256 : (0 : Int) ≤ (bs[k] : Int) ∧ (bs[k] : Int) < 256 := by
     have := hbs bs[k] (List.getElem_mem hlt)
     exact ⟨by omega, by omega⟩
    have cb : BitsC bs[k] 8 := bitsC (by omega) (by omega)
    replace LB := LB.next hlt
    generalize bs[k] = c at *
    have gwr : Hid (g < wr.heap.size ∧ w.heap.size < g) := ⟨st.out.r.lt, st.out.gl⟩
    go_wp2_with fail
    refine (cb _).mono ?_
    rintro e w3 ⟨y, rfl, hy, hb3⟩
    obtain ⟨gc, capc, ey, gcb, rc⟩ := RowW.of hy (by rw [bitsL_len]; omega)
    rw [bitsL_len] at ey rc
    subst ey
    replace st : Hid (SumSt w w3 (kcs W p f true z) g cap gp capp W rl pl) := st.out.below hb3
    have kt := st.out.kind.1
    have sz3 : Hid (wr.heap.size ≤ w3.heap.size) := hb3.size
    replace hy : Hid (Row w3 wr.heap.size (.slice (some ⟨gc, 0, none⟩) 8 capc) (bitsL c 8)) := hy
    clear hb3 rc gcb cb hbk
    go_wp2_with fail
    refine (turned_any (bitsL c 8) _ wr.heap.size w3 hy.out (by rw [bitsL_len]; omega)).mono ?_
    rintro e w4 ⟨y2, rfl, hy2, hb4⟩
    obtain ⟨gd, capd, ey, gdb, rc⟩ := RowW.of hy2 (by rw [List.length_reverse, bitsL_len]; omega)
    rw [List.length_reverse, bitsL_len] at ey rc
    subst ey
    replace st : Hid (SumSt w w4 (kcs W p f true z) g cap gp capp W rl pl) := st.out.below hb4
    replace rc : Hid (RowW w4 gd capd 8 (bcL true c)) := rc
    have gne : Hid (gd ≠ g ∧ w.heap.size < gd) := by
     have h1 := gwr.out
     have h2 := sz3.out
     exact ⟨by omega, by omega⟩
    clear hy hy2 hb4 gdb kt sz3 gwr
    generalize w4 = w9 at *
    have lc : (bcL true c).length = 8 := bcL_len _ _
    have lr : rl.length = W := st.out.r.1
    clear hc256
    generalize bcL true c = cl at *
    go_wp2
    go_loopw [9] (fun i wq => ∃ j : Nat, j ≤ 8 ∧ i = .int .i64 (j : Int) ∧ Hid (SumSt w wq (kcs W p f true z) g cap gp capp W (partL j rl cl) pl) ∧ Hid (RowW wq gd capd 8 cl)) (fun i _ => 8 - (intOf i).toNat)
    case atStart => exact ⟨0, by omega, rfl, by unfold Hid; rw [partL_zero]; exact st.out, rc⟩
    case round =>
     obtain ⟨j, hj, rfl, st5, rc5⟩ := hrel
     clear st rc
     by_cases hj8 : (j : Int) < 8
     · have jr : j < rl.length := by omega
       have jc : j < cl.length := by omega
       have jp : j < (partL j rl cl).length := by rw [partL_len (by omega) (by omega)]; omega
       obtain ⟨q0, q1⟩ := st5.out.r.cell j jp
       rw [partL_get (by omega) jr] at q0
       have q2 := (rc5.out.cell j jc).1
       have nx := partL_next jc jr
       have hjW : (j : Int) < (W : Int) := by omega
       have S6 : Hid (SumSt w (wr.setCell ⟨g, j, none⟩ (.bool (rl[j] ^^ cl[j]))) (kcs W p f true z) g cap gp capp W (partL (j + 1) rl cl) pl) := by
        unfold Hid; rw [← nx]; exact st5.out.set j _
       have R6 : Hid (RowW (wr.setCell ⟨g, j, none⟩ (.bool (rl[j] ^^ cl[j]))) gd capd 8 cl) := rc5.out.block (blk_far _ _ _ _ gne.out.1)
       clear nx jp st5 rc5
       generalize rl[j] = a1 at *
       generalize cl[j] = a2 at *
       cases a1 <;> cases a2
       all_goals
        go_wp2_with fail
        go_region
        go_wp2
       all_goals exact ⟨⟨j + 1, by omega, by simp, S6.out.drew, R6.out.drew⟩, by simp [intOf]; omega⟩
     · obtain rfl : j = 8 := by omega
       have st6 : Hid (SumSt w wr (kcs W p f true z) g cap gp capp W (mixL rl cl) pl) := by unfold Hid; rw [← partL_mix lc]; exact st5.out
       have LS0 : LeftS pl (mixL rl cl) 0 (byL pl rl cl) := rfl
       clear st5 rc5 lr lc gne hj
       generalize byL pl rl cl = T2 at *
       generalize mixL rl cl = ml at *
       go_wp2
       go_loopw [5, 10] (fun r i wq => ∃ j g cap : Nat, ∃ cur : List Bool, j ≤ 8 ∧ r = .slice (some ⟨g, 0, none⟩) W cap ∧ i = .int .i64 (j : Int) ∧ Hid (SumSt w wq (kcs W p f true z) g cap gp capp W cur pl) ∧ LeftS pl cur j T2) (fun _ i _ => 8 - (intOf i).toNat)
       case atStart => exact ⟨0, g, cap, ml, by omega, rfl, rfl, st6, LS0⟩
       case round =>
        obtain ⟨j, g1, cap1, cur, hj, rfl, rfl, st7, LS⟩ := hrel
        clear st6 LS0
        by_cases hj8 : (j : Int) < 8
        · have lcur : cur.length = W := st7.out.r.1
          have hcap : (W : Int) ≤ (cap1 : Int) := by have := st7.out.r.2.1; omega
          obtain ⟨h, tl, rfl⟩ : ∃ h tl, cur = h :: tl := by
           cases cur with
           | nil => rw [List.length_nil] at lcur; omega
           | cons h tl => exact ⟨h, tl, rfl⟩
          have q0 : wr.cell? ⟨g1, 0, none⟩ = some (.bool h) := (st7.out.r.cell 0 (by simp)).1
          have hsz : Hid (w.heap.size ≤ wr.heap.size) := st7.out.b.size
          have ltl : Hid (tl.length = W - 1) := by show _ = _; rw [List.length_cons] at lcur; omega
          replace LS := LS.next (by omega)
          clear lcur
          have hl1 : (tl.map Value.bool).length = (W - 1) * 1 := by rw [List.length_map, ltl.out]; omega
          have h63 : 0 + (W - 1) ≤ maxLen := by unfold maxLen; omega
          have hby : (0 + (W - 1)) * 1 ≤ 140737488355328 := by omega
          have h63b : 0 + (W - 1) + 1 ≤ maxLen := by unfold maxLen; omega
          have hbyb : (0 + (W - 1) + 1) * 1 ≤ 140737488355328 := by omega
          cases h
          · have e0 : stL pl (false :: tl) = tl ++ [false] := rfl
            rw [e0] at LS
            go_wp2_with (first
             | (at_builtin; refine wpList_append_own _ rfl _ _ 154 rfl wr.heap.size 4 i0 (.bool false) 1 1 Tryz.underlying154 hi hz0 hz1 hz2 rfl (by decide) _ _ _ rfl (row_zero wr wr.heap.size (Nat.le_refl _)) ⟨g1, 1, none⟩ (W - 1) (cap1 - 1) (tl.map Value.bool) rfl hl1 (tail_cells st7.out _) (bools_one tl) h63 hby (by simp) ?_; intro v1 wA hA gA _)
             | (at_builtin; refine wpList_append_own _ rfl _ _ 154 rfl wr.heap.size 4 i0 (.bool false) 1 1 Tryz.underlying154 hi hz0 hz1 hz2 rfl (by decide) _ _ _ rfl (World.ownsRow.alloc hA _) ⟨wA.heap.size, 0, none⟩ 1 1 [.bool false] rfl rfl (cell_one_new _ _ _) (by simp [Value.oneCell']) h63b hbyb (by have := gA.size; simp at *; omega) ?_; intro v2 wB hBo gB _; obtain ⟨g2, cap2, rfl, stB⟩ := step_row hW.1 st7.out hA gA hBo gB; replace stB : Hid _ := stB))
            go_wp2
            go_loop [12] (fun i => i = .int .i64 0) (fun _ => 0)
            case atStart => rfl
            case round =>
             subst hrel
             go_wp2
             exact ⟨⟨j + 1, g2, cap2, tl ++ [false], by omega, rfl, by simp, stB, LS⟩, by simp [intOf]; omega⟩
          · have ll : (tl ++ [false]).length = W := by have := ltl.out; simp; omega
            have e0 : stL pl (true :: tl) = partL W (tl ++ [false]) pl := by
             rw [← ll, partL_all (by rw [ll]; exact lp.out)]; rfl
            rw [e0] at LS
            go_wp2_with (first
             | (at_builtin; refine wpList_append_own _ rfl _ _ 154 rfl wr.heap.size 4 i0 (.bool false) 1 1 Tryz.underlying154 hi hz0 hz1 hz2 rfl (by decide) _ _ _ rfl (row_zero wr wr.heap.size (Nat.le_refl _)) ⟨g1, 1, none⟩ (W - 1) (cap1 - 1) (tl.map Value.bool) rfl hl1 (tail_cells st7.out _) (bools_one tl) h63 hby (by simp) ?_; intro v1 wA hA gA _)
             | (at_builtin; refine wpList_append_own _ rfl _ _ 154 rfl wr.heap.size 4 i0 (.bool false) 1 1 Tryz.underlying154 hi hz0 hz1 hz2 rfl (by decide) _ _ _ rfl (World.ownsRow.alloc hA _) ⟨wA.heap.size, 0, none⟩ 1 1 [.bool false] rfl rfl (cell_one_new _ _ _) (by simp [Value.oneCell']) h63b hbyb (by have := gA.size; simp at *; omega) ?_; intro v2 wB hBo gB _; obtain ⟨g2, cap2, rfl, stB⟩ := step_row hW.1 st7.out hA gA hBo gB; replace stB : Hid _ := stB))
            clear st7 q0 hl1 h63 hby h63b hbyb hA gA hBo gB e0
            go_wp2
            generalize tl ++ [false] = tz at *
            go_loopw [12] (fun i wq => ∃ n : Nat, n ≤ W ∧ i = .int .i64 (n : Int) ∧ Hid (SumSt w wq (kcs W p f true z) g2 cap2 gp capp W (partL n tz pl) pl)) (fun i _ => W - (intOf i).toNat)
            case atStart => exact ⟨0, by omega, rfl, by unfold Hid; rw [partL_zero]; exact stB.out⟩
            case round =>
             obtain ⟨n, hn, rfl, st8⟩ := hrel
             clear stB
             by_cases hnW : (n : Int) < (W : Int)
             · have jr : n < tz.length := by omega
               have jc : n < pl.length := by rw [lp.out]; omega
               have jp : n < (partL n tz pl).length := by rw [partL_len (by omega) (by omega)]; omega
               obtain ⟨q0, q1⟩ := st8.out.r.cell n jp
               rw [partL_get (by omega) jr] at q0
               have q2 := (st8.out.p.cell n jc).1
               have nx := partL_next jc jr
               have S9 : Hid (SumSt w (wr.setCell ⟨g2, n, none⟩ (.bool (tz[n] ^^ pl[n]))) (kcs W p f true z) g2 cap2 gp capp W (partL (n + 1) tz pl) pl) := by
                unfold Hid; rw [← nx]; exact st8.out.set n _
               clear nx jp st8
               generalize tz[n] = a1 at *
               generalize pl[n] = a2 at *
               cases a1 <;> cases a2
               all_goals
                go_wp2_with fail
                go_region
                go_wp2
               all_goals exact ⟨⟨n + 1, by omega, by simp, S9.out.drew⟩, by simp [intOf]; omega⟩
             · obtain rfl : n = W := by omega
               go_wp2
               exact ⟨⟨j + 1, g2, cap2, _, by omega, rfl, by simp, st8, LS⟩, by simp [intOf]; omega⟩
        · obtain rfl : j = 8 := by omega
          have hT := LS.done
          subst hT
          go_wp2
          exact ⟨⟨k + 1, g1, cap1, _, by omega, rfl, by simp, st7, LB⟩, by simp [intOf]; omega⟩
  · obtain rfl : k = bs.length := by omega
    have hT := LB.done
    subst hT
    have kt := st.out.kind.1
    have kz := st.out.kind.2
    have lr : rl.length = W := st.out.r.1
    have R0 : Hid (Row wr w.heap.size (.slice (some ⟨g, 0, none⟩) W cap) rl) := st.out.r.row (Nat.le_of_lt st.out.gl)
    go_wp2_with fail
    refine (turned_any rl _ w.heap.size wr R0.out (by omega)).mono ?_
    rintro e w4 ⟨y2, rfl, hy2, hb4⟩
    have Y : Hid (Row w4 wr.heap.size y2 rl.reverse) := hy2
    replace st : Hid (SumSt w w4 (kcs W p f true z) g cap gp capp W rl pl) := st.out.below hb4
    clear kt kz hy2 hb4 R0
    have kz := st.out.kind.2
    have B4 : Hid (Below w.heap.size w w4) := st.out.b
    have hfin : Hid (numL rl.reverse ^^^ z = S) := hS2
    have fn : Hid (∀ n, Calls Tryz.prog 92 #[y2] (w4.drewN n) fun e w' => e = .returned (.int .u32 ((numL rl.reverse : Nat) : Int)) ∧ w' = w4.drewN n) := fun n => number_any rl.reverse y2 wr.heap.size (w4.drewN n) (Y.out.below (below_drN (Below.refl _ _) n)) (by rw [List.length_reverse]; omega)
    have nb : numL rl.reverse < 4294967296 := num32 (by rw [List.length_reverse]; omega)
    clear st hS2 lr lp Y
    generalize numL rl.reverse = M at *
    go_wp2_with fail
    go_quiet (first | (go_at_call 92; refine Calls.quiet_of_same (fn.out _)))
    clear fn
    go_wp2
    go_ret
    exact ⟨ret_x nb hz hfin.out, below_drN B4.out _⟩
theorem rsum_false (W p f : Nat) (z : Nat) (bs : List Nat) (gb ob capb : Nat) (w : World) (hW : 8 ≤ (W : Int) ∧ (W : Int) ≤ 32) (hz : z < 4294967296) (cf : BitsC f W) (cp : BitsC p W) (hbs : AllBytes bs) (hlen : (bs.length : Int) ≤ 9223372036854775807)
 (hb : BytesIn w gb ob bs) (hgb : gb < w.heap.size) (S : Nat) (hS : Hid (sumL W p f false z bs = S)) :
 Calls Tryz.prog 60 #[kv (W : Int) p f false z, .slice (some ⟨gb, ob, none⟩) bs.length capb] w fun e w' => e = .returned (.int .u32 (S : Int)) ∧ Below w.heap.size w w' := by
 obtain ⟨i0, hi, hz0, hz1, hz2⟩ := info_parts info_bool
 go_enter Tryz.func60, Tryz.ntmps60
 go_wp2_with fail
 refine (cf _).mono ?_
 rintro e w1 ⟨x, rfl, hx, hb1⟩
 have X : Hid (Row w1 (w.alloc (.cells (kcs W p f false z) 110)).heap.size x (bitsL f W) ∧ Below (w.alloc (.cells (kcs W p f false z) 110)).heap.size (w.alloc (.cells (kcs W p f false z) 110)) w1) := ⟨hx, hb1⟩
 have k0 : w1.cell? ⟨w.heap.size, 0, none⟩ = some (.int .i64 (W : Int)) := (hb1.cell (p := ⟨w.heap.size, 0, none⟩) (by simp)).trans (by simp)
 have k1 : w1.cell? ⟨w.heap.size, 1, none⟩ = some (.int .u32 (p : Int)) := (hb1.cell (p := ⟨w.heap.size, 1, none⟩) (by simp)).trans (by simp)
 clear hx hb1 cf
 go_wp2_with fail
 refine (cp _).mono ?_
 rintro e w2 ⟨y, rfl, hy, hb2⟩
 obtain ⟨g0, cap0, gp, capp, rfl, rfl, st0⟩ := sum_start (w := w) (by omega) (bitsL_len W f) (bitsL_len W p) X.out.1 X.out.2 hy hb2
 replace st0 : Hid (SumSt w w2 (kcs W p f false z) g0 cap0 gp capp W (bitsL f W) (bitsL p W)) := st0
 have lp : Hid ((bitsL p W).length = W) := bitsL_len W p
 have lf : Hid ((bitsL f W).length = W) := bitsL_len W f
 have L0 : LeftB (bitsL p W) (bitsL f W) false bs 0 (foldB (bitsL p W) (bitsL f W) (bs.map (bcL false))) := rfl
 have hS2 : Hid (numL (revL false (foldB (bitsL p W) (bitsL f W) (bs.map (bcL false)))) ^^^ z = S) := hS
 clear hy hb2 X k0 k1 cp hS
 generalize foldB (bitsL p W) (bitsL f W) (bs.map (bcL false)) = T at *
 generalize bitsL p W = pl at *
 generalize bitsL f W = fl at *
 go_wp2
 go_loopw [5, 7] (fun r i wr => ∃ k g cap : Nat, ∃ rl : List Bool, k ≤ bs.length ∧ r = .slice (some ⟨g, 0, none⟩) W cap ∧ i = .int .i64 (k : Int) ∧ Hid (SumSt w wr (kcs W p f false z) g cap gp capp W rl pl) ∧ LeftB pl rl false bs k T) (fun _ i _ => bs.length - (intOf i).toNat)
 case atStart => exact ⟨0, g0, cap0, fl, by omega, rfl, rfl, st0, L0⟩
 case round =>
  obtain ⟨k, g, cap, rl, hk, rfl, rfl, st, LB⟩ := hrel
  clear st0 L0 lf
  by_cases hlt : k < bs.length
  · have hki : (k : Int) < (bs.length : Int) := by omega
    have hbk := hb.at hgb st.out.b k hlt
    have hc256 : (0 : Int) ≤ (bs[k] : Int) ∧ (bs[k] : Int) < 256 := by
     have := hbs bs[k] (List.getElem_mem hlt)
     exact ⟨by omega, by omega⟩
    have cb : BitsC bs[k] 8 := bitsC (by omega) (by omega)
    replace LB := LB.next hlt
    generalize bs[k] = c at *
    have gwr : Hid (g < wr.heap.size ∧ w.heap.size < g) := ⟨st.out.r.lt, st.out.gl⟩
    go_wp2_with fail
    refine (cb _).mono ?_
    rintro e w3 ⟨y, rfl, hy, hb3⟩
    obtain ⟨gc, capc, ey, gcb, rc⟩ := RowW.of hy (by rw [bitsL_len]; omega)
    rw [bitsL_len] at ey rc
    subst ey
    replace st : Hid (SumSt w w3 (kcs W p f false z) g cap gp capp W rl pl) := st.out.below hb3
    have kt := st.out.kind.1
    have sz3 : Hid (wr.heap.size ≤ w3.heap.size) := hb3.size
    replace rc : Hid (RowW w3 gc capc 8 (bcL false c)) := rc
    have gne : Hid (gc ≠ g ∧ w.heap.size < gc) := by
     have h1 := gwr.out
     have h2 := sz3.out
     exact ⟨by omega, by omega⟩
    clear hy hb3 gcb cb hbk sz3 gwr
    generalize gc = gd at *
    generalize capc = capd at *
    generalize w3 = w9 at *
    have lc : (bcL false c).length = 8 := bcL_len _ _
    have lr : rl.length = W := st.out.r.1
    clear hc256
    generalize bcL false c = cl at *
    go_wp2
    go_loopw [9] (fun i wq => ∃ j : Nat, j ≤ 8 ∧ i = .int .i64 (j : Int) ∧ Hid (SumSt w wq (kcs W p f false z) g cap gp capp W (partL j rl cl) pl) ∧ Hid (RowW wq gd capd 8 cl)) (fun i _ => 8 - (intOf i).toNat)
    case atStart => exact ⟨0, by omega, rfl, by unfold Hid; rw [partL_zero]; exact st.out, rc⟩
    case round =>
     obtain ⟨j, hj, rfl, st5, rc5⟩ := hrel
     clear st rc
     by_cases hj8 : (j : Int) < 8
     · have jr : j < rl.length := by omega
       have jc : j < cl.length := by omega
       have jp : j < (partL j rl cl).length := by rw [partL_len (by omega) (by omega)]; omega
       obtain ⟨q0, q1⟩ := st5.out.r.cell j jp
       rw [partL_get (by omega) jr] at q0
       have q2 := (rc5.out.cell j jc).1
       have nx := partL_next jc jr
       have hjW : (j : Int) < (W : Int) := by omega
       have S6 : Hid (SumSt w (wr.setCell ⟨g, j, none⟩ (.bool (rl[j] ^^ cl[j]))) (kcs W p f false z) g cap gp capp W (partL (j + 1) rl cl) pl) := by
        unfold Hid; rw [← nx]; exact st5.out.set j _
       have R6 : Hid (RowW (wr.setCell ⟨g, j, none⟩ (.bool (rl[j] ^^ cl[j]))) gd capd 8 cl) := rc5.out.block (blk_far _ _ _ _ gne.out.1)
       clear nx jp st5 rc5
       generalize rl[j] = a1 at *
       generalize cl[j] = a2 at *
       cases a1 <;> cases a2
       all_goals
        go_wp2_with fail
        go_region
        go_wp2
       all_goals exact ⟨⟨j + 1, by omega, by simp, S6.out.drew, R6.out.drew⟩, by simp [intOf]; omega⟩
     · obtain rfl : j = 8 := by omega
       have st6 : Hid (SumSt w wr (kcs W p f false z) g cap gp capp W (mixL rl cl) pl) := by unfold Hid; rw [← partL_mix lc]; exact st5.out
       have LS0 : LeftS pl (mixL rl cl) 0 (byL pl rl cl) := rfl
       clear st5 rc5 lr lc gne hj
       generalize byL pl rl cl = T2 at *
       generalize mixL rl cl = ml at *
       go_wp2
       go_loopw [5, 10] (fun r i wq => ∃ j g cap : Nat, ∃ cur : List Bool, j ≤ 8 ∧ r = .slice (some ⟨g, 0, none⟩) W cap ∧ i = .int .i64 (j : Int) ∧ Hid (SumSt w wq (kcs W p f false z) g cap gp capp W cur pl) ∧ LeftS pl cur j T2) (fun _ i _ => 8 - (intOf i).toNat)
       case atStart => exact ⟨0, g, cap, ml, by omega, rfl, rfl, st6, LS0⟩
       case round =>
        obtain ⟨j, g1, cap1, cur, hj, rfl, rfl, st7, LS⟩ := hrel
        clear st6 LS0
        by_cases hj8 : (j : Int) < 8
        · have lcur : cur.length = W := st7.out.r.1
          have hcap : (W : Int) ≤ (cap1 : Int) := by have := st7.out.r.2.1; omega
          obtain ⟨h, tl, rfl⟩ : ∃ h tl, cur = h :: tl := by
           cases cur with
           | nil => rw [List.length_nil] at lcur; omega
           | cons h tl => exact ⟨h, tl, rfl⟩
          have q0 : wr.cell? ⟨g1, 0, none⟩ = some (.bool h) := (st7.out.r.cell 0 (by simp)).1
          have hsz : Hid (w.heap.size ≤ wr.heap.size) := st7.out.b.size
          have ltl : Hid (tl.length = W - 1) := by show _ = _; rw [List.length_cons] at lcur; omega
          replace LS := LS.next (by omega)
          clear lcur
          have hl1 : (tl.map Value.bool).length = (W - 1) * 1 := by rw [List.length_map, ltl.out]; omega
          have h63 : 0 + (W - 1) ≤ maxLen := by unfold maxLen; omega
          have hby : (0 + (W - 1)) * 1 ≤ 140737488355328 := by omega
          have h63b : 0 + (W - 1) + 1 ≤ maxLen := by unfold maxLen; omega
          have hbyb : (0 + (W - 1) + 1) * 1 ≤ 140737488355328 := by omega
          cases h
          · have e0 : stL pl (false :: tl) = tl ++ [false] := rfl
            rw [e0] at LS
            go_wp2_with (first
             | (at_builtin; refine wpList_append_own _ rfl _ _ 154 rfl wr.heap.size 4 i0 (.bool false) 1 1 Tryz.underlying154 hi hz0 hz1 hz2 rfl (by decide) _ _ _ rfl (row_zero wr wr.heap.size (Nat.le_refl _)) ⟨g1, 1, none⟩ (W - 1) (cap1 - 1) (tl.map Value.bool) rfl hl1 (tail_cells st7.out _) (bools_one tl) h63 hby (by simp) ?_; intro v1 wA hA gA _)
             | (at_builtin; refine wpList_append_own _ rfl _ _ 154 rfl wr.heap.size 4 i0 (.bool false) 1 1 Tryz.underlying154 hi hz0 hz1 hz2 rfl (by decide) _ _ _ rfl (World.ownsRow.alloc hA _) ⟨wA.heap.size, 0, none⟩ 1 1 [.bool false] rfl rfl (cell_one_new _ _ _) (by simp [Value.oneCell']) h63b hbyb (by have := gA.size; simp at *; omega) ?_; intro v2 wB hBo gB _; obtain ⟨g2, cap2, rfl, stB⟩ := step_row hW.1 st7.out hA gA hBo gB; replace stB : Hid _ := stB))
            go_wp2
            go_loop [12] (fun i => i = .int .i64 0) (fun _ => 0)
            case atStart => rfl
            case round =>
             subst hrel
             go_wp2
             exact ⟨⟨j + 1, g2, cap2, tl ++ [false], by omega, rfl, by simp, stB, LS⟩, by simp [intOf]; omega⟩
          · have ll : (tl ++ [false]).length = W := by have := ltl.out; simp; omega
            have e0 : stL pl (true :: tl) = partL W (tl ++ [false]) pl := by
             rw [← ll, partL_all (by rw [ll]; exact lp.out)]; rfl
            rw [e0] at LS
            go_wp2_with (first
             | (at_builtin; refine wpList_append_own _ rfl _ _ 154 rfl wr.heap.size 4 i0 (.bool false) 1 1 Tryz.underlying154 hi hz0 hz1 hz2 rfl (by decide) _ _ _ rfl (row_zero wr wr.heap.size (Nat.le_refl _)) ⟨g1, 1, none⟩ (W - 1) (cap1 - 1) (tl.map Value.bool) rfl hl1 (tail_cells st7.out _) (bools_one tl) h63 hby (by simp) ?_; intro v1 wA hA gA _)
             | (at_builtin; refine wpList_append_own _ rfl _ _ 154 rfl wr.heap.size 4 i0 (.bool false) 1 1 Tryz.underlying154 hi hz0 hz1 hz2 rfl (by decide) _ _ _ rfl (World.ownsRow.alloc hA _) ⟨wA.heap.size, 0, none⟩ 1 1 [.bool false] rfl rfl (cell_one_new _ _ _) (by simp [Value.oneCell']) h63b hbyb (by have := gA.size; simp at *; omega) ?_; intro v2 wB hBo gB _; obtain ⟨g2, cap2, rfl, stB⟩ := step_row hW.1 st7.out hA gA hBo gB; replace stB : Hid _ := stB))
            clear st7 q0 hl1 h63 hby h63b hbyb hA gA hBo gB e0
            go_wp2
            generalize tl ++ [false] = tz at *
            go_loopw [12] (fun i wq => ∃ n : Nat, n ≤ W ∧ i = .int .i64 (n : Int) ∧ Hid (SumSt w wq (kcs W p f false z) g2 cap2 gp capp W (partL n tz pl) pl)) (fun i _ => W - (intOf i).toNat)
            case atStart => exact ⟨0, by omega, rfl, by unfold Hid; rw [partL_zero]; exact stB.out⟩
            case round =>
             obtain ⟨n, hn, rfl, st8⟩ := hrel
             clear stB
             by_cases hnW : (n : Int) < (W : Int)
             · have jr : n < tz.length := by omega
               have jc : n < pl.length := by rw [lp.out]; omega
               have jp : n < (partL n tz pl).length := by rw [partL_len (by omega) (by omega)]; omega
               obtain ⟨q0, q1⟩ := st8.out.r.cell n jp
               rw [partL_get (by omega) jr] at q0
               have q2 := (st8.out.p.cell n jc).1
               have nx := partL_next jc jr
               have S9 : Hid (SumSt w (wr.setCell ⟨g2, n, none⟩ (.bool (tz[n] ^^ pl[n]))) (kcs W p f false z) g2 cap2 gp capp W (partL (n + 1) tz pl) pl) := by
                unfold Hid; rw [← nx]; exact st8.out.set n _
               clear nx jp st8
               generalize tz[n] = a1 at *
               generalize pl[n] = a2 at *
               cases a1 <;> cases a2
               all_goals
                go_wp2_with fail
                go_region
                go_wp2
               all_goals exact ⟨⟨n + 1, by omega, by simp, S9.out.drew⟩, by simp [intOf]; omega⟩
             · obtain rfl : n = W := by omega
               go_wp2
               exact ⟨⟨j + 1, g2, cap2, _, by omega, rfl, by simp, st8, LS⟩, by simp [intOf]; omega⟩
        · obtain rfl : j = 8 := by omega
          have hT := LS.done
          subst hT
          go_wp2
          exact ⟨⟨k + 1, g1, cap1, _, by omega, rfl, by simp, st7, LB⟩, by simp [intOf]; omega⟩
  · obtain rfl : k = bs.length := by omega
    have hT := LB.done
    subst hT
    have kt := st.out.kind.1
    have kz := st.out.kind.2
    have lr : rl.length = W := st.out.r.1
    have B4 : Hid (Below w.heap.size w wr) := st.out.b
    have hfin : Hid (numL rl ^^^ z = S) := hS2
    have R0 : Hid (Row wr w.heap.size (.slice (some ⟨g, 0, none⟩) W cap) rl) := st.out.r.row (Nat.le_of_lt st.out.gl)
    have fn : Hid (∀ n, Calls Tryz.prog 92 #[.slice (some ⟨g, 0, none⟩) W cap] (wr.drewN n) fun e w' => e = .returned (.int .u32 ((numL rl : Nat) : Int)) ∧ w' = wr.drewN n) := fun n => number_any rl _ w.heap.size (wr.drewN n) (R0.out.below (below_drN (Below.refl _ _) n)) (by omega)
    have nb : numL rl < 4294967296 := num32 (by omega)
    clear R0
    clear st hS2 lr lp
    generalize numL rl = M at *
    go_wp2_with fail
    go_quiet (first | (go_at_call 92; refine Calls.quiet_of_same (fn.out _)))
    clear fn
    go_wp2
    go_ret
    exact ⟨ret_x nb hz hfin.out, below_drN B4.out _⟩
theorem rsum0_true (W p f : Nat) (z : Nat) (w : World) (hW : 8 ≤ (W : Int) ∧ (W : Int) ≤ 32) (hz : z < 4294967296) (cf : BitsC f W) (cp : BitsC p W) (S : Nat) (hS : Hid (sumL W p f true z [] = S)) :
 Calls Tryz.prog 60 #[kv (W : Int) p f true z, .slice none 0 0] w fun e w' => e = .returned (.int .u32 (S : Int)) ∧ Below w.heap.size w w' := by
 obtain ⟨i0, hi, hz0, hz1, hz2⟩ := info_parts info_bool
 go_enter Tryz.func60, Tryz.ntmps60
 go_wp2_with fail
 refine (cf _).mono ?_
 rintro e w1 ⟨x, rfl, hx, hb1⟩
 have X : Hid (Row w1 (w.alloc (.cells (kcs W p f true z) 110)).heap.size x (bitsL f W) ∧ Below (w.alloc (.cells (kcs W p f true z) 110)).heap.size (w.alloc (.cells (kcs W p f true z) 110)) w1) := ⟨hx, hb1⟩
 have k0 : w1.cell? ⟨w.heap.size, 0, none⟩ = some (.int .i64 (W : Int)) := (hb1.cell (p := ⟨w.heap.size, 0, none⟩) (by simp)).trans (by simp)
 have k1 : w1.cell? ⟨w.heap.size, 1, none⟩ = some (.int .u32 (p : Int)) := (hb1.cell (p := ⟨w.heap.size, 1, none⟩) (by simp)).trans (by simp)
 clear hx hb1 cf
 go_wp2_with fail
 refine (cp _).mono ?_
 rintro e w2 ⟨y, rfl, hy, hb2⟩
 obtain ⟨g0, cap0, gp, capp, rfl, rfl, st0⟩ := sum_start (w := w) (by omega) (bitsL_len W f) (bitsL_len W p) X.out.1 X.out.2 hy hb2
 replace st0 : Hid (SumSt w w2 (kcs W p f true z) g0 cap0 gp capp W (bitsL f W) (bitsL p W)) := st0
 have lp : Hid ((bitsL p W).length = W) := bitsL_len W p
 have lf : Hid ((bitsL f W).length = W) := bitsL_len W f
 have hS2 : Hid (numL (revL true (bitsL f W)) ^^^ z = S) := hS
 clear hy hb2 X k0 k1 cp hS
 generalize bitsL p W = pl at *
 generalize bitsL f W = fl at *
 go_wp2
 go_loop [5, 7] (fun r i => r = .slice (some ⟨g0, 0, none⟩) W cap0 ∧ i = .int .i64 0) (fun _ _ => 0)
 case atStart => exact ⟨rfl, rfl⟩
 case round =>
  obtain ⟨rfl, rfl⟩ := hrel
  clear lf
  have st := st0
  clear st0
  generalize w2 = wr at *
  generalize g0 = g at *
  generalize cap0 = cap at *
  generalize fl = rl at *
  have kt := st.out.kind.1
  have kz := st.out.kind.2
  have lr : rl.length = W := st.out.r.1
  have R0 : Hid (Row wr w.heap.size (.slice (some ⟨g, 0, none⟩) W cap) rl) := st.out.r.row (Nat.le_of_lt st.out.gl)
  go_wp2_with fail
  refine (turned_any rl _ w.heap.size wr R0.out (by omega)).mono ?_
  rintro e w4 ⟨y2, rfl, hy2, hb4⟩
  have Y : Hid (Row w4 wr.heap.size y2 rl.reverse) := hy2
  replace st : Hid (SumSt w w4 (kcs W p f true z) g cap gp capp W rl pl) := st.out.below hb4
  clear kt kz hy2 hb4 R0
  have kz := st.out.kind.2
  have B4 : Hid (Below w.heap.size w w4) := st.out.b
  have hfin : Hid (numL rl.reverse ^^^ z = S) := hS2
  have fn : Hid (∀ n, Calls Tryz.prog 92 #[y2] (w4.drewN n) fun e w' => e = .returned (.int .u32 ((numL rl.reverse : Nat) : Int)) ∧ w' = w4.drewN n) := fun n => number_any rl.reverse y2 wr.heap.size (w4.drewN n) (Y.out.below (below_drN (Below.refl _ _) n)) (by rw [List.length_reverse]; omega)
  have nb : numL rl.reverse < 4294967296 := num32 (by rw [List.length_reverse]; omega)
  clear st hS2 lr lp Y
  generalize numL rl.reverse = M at *
  go_wp2_with fail
  go_quiet (first | (go_at_call 92; refine Calls.quiet_of_same (fn.out _)))
  clear fn
  go_wp2
  go_ret
  exact ⟨ret_x nb hz hfin.out, below_drN B4.out _⟩
theorem rsum0_false (W p f : Nat) (z : Nat) (w : World) (hW : 8 ≤ (W : Int) ∧ (W : Int) ≤ 32) (hz : z < 4294967296) (cf : BitsC f W) (cp : BitsC p W) (S : Nat) (hS : Hid (sumL W p f false z [] = S)) :
 Calls Tryz.prog 60 #[kv (W : Int) p f false z, .slice none 0 0] w fun e w' => e = .returned (.int .u32 (S : Int)) ∧ Below w.heap.size w w' := by
 obtain ⟨i0, hi, hz0, hz1, hz2⟩ := info_parts info_bool
 go_enter Tryz.func60, Tryz.ntmps60
 go_wp2_with fail
 refine (cf _).mono ?_
 rintro e w1 ⟨x, rfl, hx, hb1⟩
 have X : Hid (Row w1 (w.alloc (.cells (kcs W p f false z) 110)).heap.size x (bitsL f W) ∧ Below (w.alloc (.cells (kcs W p f false z) 110)).heap.size (w.alloc (.cells (kcs W p f false z) 110)) w1) := ⟨hx, hb1⟩
 have k0 : w1.cell? ⟨w.heap.size, 0, none⟩ = some (.int .i64 (W : Int)) := (hb1.cell (p := ⟨w.heap.size, 0, none⟩) (by simp)).trans (by simp)
 have k1 : w1.cell? ⟨w.heap.size, 1, none⟩ = some (.int .u32 (p : Int)) := (hb1.cell (p := ⟨w.heap.size, 1, none⟩) (by simp)).trans (by simp)
 clear hx hb1 cf
 go_wp2_with fail
 refine (cp _).mono ?_
 rintro e w2 ⟨y, rfl, hy, hb2⟩
 obtain ⟨g0, cap0, gp, capp, rfl, rfl, st0⟩ := sum_start (w := w) (by omega) (bitsL_len W f) (bitsL_len W p) X.out.1 X.out.2 hy hb2
 replace st0 : Hid (SumSt w w2 (kcs W p f false z) g0 cap0 gp capp W (bitsL f W) (bitsL p W)) := st0
 have lp : Hid ((bitsL p W).length = W) := bitsL_len W p
 have lf : Hid ((bitsL f W).length = W) := bitsL_len W f
 have hS2 : Hid (numL (revL false (bitsL f W)) ^^^ z = S) := hS
 clear hy hb2 X k0 k1 cp hS
 generalize bitsL p W = pl at *
 generalize bitsL f W = fl at *
 go_wp2
 go_loop [5, 7] (fun r i => r = .slice (some ⟨g0, 0, none⟩) W cap0 ∧ i = .int .i64 0) (fun _ _ => 0)
 case atStart => exact ⟨rfl, rfl⟩
 case round =>
  obtain ⟨rfl, rfl⟩ := hrel
  clear lf
  have st := st0
  clear st0
  generalize w2 = wr at *
  generalize g0 = g at *
  generalize cap0 = cap at *
  generalize fl = rl at *
  have kt := st.out.kind.1
  have kz := st.out.kind.2
  have lr : rl.length = W := st.out.r.1
  have B4 : Hid (Below w.heap.size w wr) := st.out.b
  have hfin : Hid (numL rl ^^^ z = S) := hS2
  have R0 : Hid (Row wr w.heap.size (.slice (some ⟨g, 0, none⟩) W cap) rl) := st.out.r.row (Nat.le_of_lt st.out.gl)
  have fn : Hid (∀ n, Calls Tryz.prog 92 #[.slice (some ⟨g, 0, none⟩) W cap] (wr.drewN n) fun e w' => e = .returned (.int .u32 ((numL rl : Nat) : Int)) ∧ w' = wr.drewN n) := fun n => number_any rl _ w.heap.size (wr.drewN n) (R0.out.below (below_drN (Below.refl _ _) n)) (by omega)
  have nb : numL rl < 4294967296 := num32 (by omega)
  clear R0
  clear st hS2 lr lp
  generalize numL rl = M at *
  go_wp2_with fail
  go_quiet (first | (go_at_call 92; refine Calls.quiet_of_same (fn.out _)))
  clear fn
  go_wp2
  go_ret
  exact ⟨ret_x nb hz hfin.out, below_drN B4.out _⟩
theorem rsum_any (W p f : Nat) (t : Bool) (z : Nat) (b : Value) (bs : List Nat) (w : World) (hW : W = 8 ∨ W = 16 ∨ W = 32) (hp : p < 4294967296) (hf : f < 4294967296) (hz : z < 4294967296) (hbs : AllBytes bs) (hlen : (bs.length : Int) ≤ 9223372036854775807) (h : BytesAt w b bs) :
 Calls Tryz.prog 60 #[kv (W : Int) p f t z, b] w fun e w' => e = .returned (.int .u32 ((sumL W p f t z bs : Nat) : Int)) ∧ Below w.heap.size w w' := by
 have cf : BitsC f W := bitsC hf (by omega)
 have cp : BitsC p W := bitsC hp (by omega)
 rcases h with ⟨rfl, rfl⟩ | ⟨g, o, cap, rfl, h1, h2⟩
 · cases t
   · exact rsum0_false W p f z w ⟨by omega, by omega⟩ hz cf cp _ rfl
   · exact rsum0_true W p f z w ⟨by omega, by omega⟩ hz cf cp _ rfl
 · cases t
   · exact rsum_false W p f z bs g o cap w ⟨by omega, by omega⟩ hz cf cp hbs hlen h1 h2 _ rfl
   · exact rsum_true W p f z bs g o cap w ⟨by omega, by omega⟩ hz cf cp hbs hlen h1 h2 _ rfl
def totN (bs : List Nat) : Nat := bs.foldl (fun a c => a + c) 0
def mixB (bs : List Nat) : Nat := bs.foldl (fun a c => a ^^^ c) 0
def secN (bs : List Nat) : Nat × Nat := bs.foldl (fun a c => (a.1 + c, a.2 + (a.1 + c))) (0, 0)
theorem totN_snoc (bs : List Nat) (c : Nat) : totN (bs ++ [c]) = totN bs + c := by simp [totN]
theorem mixB_snoc (bs : List Nat) (c : Nat) : mixB (bs ++ [c]) = mixB bs ^^^ c := by simp [mixB]
theorem secN_snoc (bs : List Nat) (c : Nat) : secN (bs ++ [c]) = ((secN bs).1 + c, (secN bs).2 + ((secN bs).1 + c)) := by simp [secN]
theorem secN_one (bs : List Nat) : (secN bs).1 = totN bs := by
 induction bs using snoc_ind with
 | h0 => rfl
 | h1 bs c ih => rw [secN_snoc, totN_snoc, ih]
theorem tot_le {bs : List Nat} (h : AllBytes bs) : totN bs ≤ 255 * bs.length := by
 induction bs using snoc_ind with
 | h0 => exact Nat.le_refl _
 | h1 bs c ih =>
  have h1 := ih (fun x hx => h x (by simp [hx]))
  have h2 := h c (by simp)
  rw [totN_snoc, List.length_append, List.length_singleton]
  omega
theorem sec_le {bs : List Nat} (h : AllBytes bs) : (secN bs).2 ≤ 255 * bs.length * bs.length := by
 induction bs using snoc_ind with
 | h0 => exact Nat.le_refl _
 | h1 bs c ih =>
  have hp : AllBytes bs := fun x hx => h x (by simp [hx])
  have h1 := ih hp
  have h2 := h c (by simp)
  have h3 := tot_le hp
  rw [secN_snoc, List.length_append, List.length_singleton]
  simp only
  rw [secN_one]
  generalize bs.length = n at *
  have e : 255 * (n + 1) * (n + 1) = 255 * n * n + 255 * n + 255 * n + 255 := by grind
  omega
theorem mix_lt {bs : List Nat} (h : AllBytes bs) : mixB bs < 256 := by
 induction bs using snoc_ind with
 | h0 => decide
 | h1 bs c ih =>
  rw [mixB_snoc]
  exact Nat.xor_lt_two_pow (n := 8) (ih (fun x hx => h x (by simp [hx]))) (h c (by simp))
theorem big_any (v n : Nat) (w : World) (hv : v < 4294967296) (hn : n ≤ 40) :
 Calls Tryz.prog 59 #[.int .u32 (v : Int), .int .i64 (n : Int)] w fun e w' => ∃ x, e = .returned x ∧ RowB w' w.heap.size x (bigL v n) ∧ Below w.heap.size w w' := by
 obtain ⟨i0, hi, hz0, hz1, hz2⟩ := info_parts info_u8
 have hni : (n : Int) ≤ 40 := by omega
 go_enter Tryz.func59, Tryz.ntmps59
 go_wp2
 go_loopw [0, 5, 6] (fun a o i wr => ∃ k m : Nat, k ≤ n ∧ i = .int .i64 (k : Int) ∧ a = .int .u32 (m : Int) ∧ Hid (m = v / 256 ^ k) ∧ Hid (RowB wr w.heap.size o (bigL v k)) ∧ Hid (Below w.heap.size w wr)) (fun _ _ i _ => n - (intOf i).toNat)
 case atStart => exact ⟨0, v, by omega, rfl, rfl, by show _ = _; simp, World.ownsRow_nil _ _ _ _, Below.refl _ _⟩
 case round =>
  obtain ⟨k, m, hk, rfl, rfl, hm, hrow, hB⟩ := hrel
  have hmb : (0 : Int) ≤ (m : Int) ∧ (m : Int) < 4294967296 := by
   have : v / 256 ^ k ≤ v := Nat.div_le_self _ _
   have := hm.out
   exact ⟨by omega, by omega⟩
  by_cases hlt : k < n
  · have hki : (k : Int) < (n : Int) := by omega
    obtain ⟨b, hb⟩ : ∃ b : Nat, b = m % 256 := ⟨_, rfl⟩
    have hbit : Hid (bigL v (k + 1) = b :: bigL v k) := by
     show _ = _
     rw [hb, hm.out]; exact bigL_cons k v
    have hdiv : Hid (m / 256 = v / 256 ^ (k + 1)) := by
     show _ = _
     rw [hm.out, Nat.div_div_eq_div_mul, Nat.pow_succ]
    have hb1 : (m : Int) % 256 = (b : Int) := by omega
    have hb2 : IntKind.u8.wrap (b : Int) = (b : Int) := by simp only [IntKind.wrap_u8']; omega
    rcases hrow.out.form with ⟨rfl, hz⟩ | ⟨g, cap, rfl, hc, hg, hgl⟩
    · have hr1 : Hid (RowB (wr.alloc (.cells #[.int .u8 (b : Int)] 5)) w.heap.size (.slice (some ⟨wr.heap.size, 0, none⟩) 1 1) (bigL v (k + 1))) := by
       unfold Hid RowB
       rw [hbit.out, hz]; exact rowB_one wr _ _ hB.out.size
      have hB1 : Hid (Below w.heap.size w (wr.alloc (.cells #[.int .u8 (b : Int)] 5))) := hB.out.alloc hB.out.size _
      clear hbit hm hb
      go_wp2
      exact ⟨⟨k + 1, m / 256, by omega, by simp, by simp, hdiv, hr1, hB1⟩, by simp [intOf]; omega⟩
    · have hkl : (bigL v k).length = k := bigL_len k v
      have hone : ∀ u ∈ u8v (bigL v k), u.oneCell' = true := bytes_one _
      have h63 : 1 + (bigL v k).length ≤ maxLen := by unfold maxLen; omega
      have hby : (1 + (bigL v k).length) * 1 ≤ 140737488355328 := by omega
      have hsz := hB.out.size
      clear hb
      go_wp2_with (at_builtin; refine wpList_append_own _ rfl _ _ 23 rfl w.heap.size 5 i0 (.int .u8 0) 1 1 Tryz.underlying23 hi hz0 hz1 hz2 rfl (by decide) _ _ _ rfl (rowB_one wr w.heap.size b hsz) ⟨g, 0, none⟩ (bigL v k).length cap (u8v (bigL v k)) rfl (by simp) ((World.ownsRow.alloc hrow.out _).cells rfl) hone h63 hby (by simp; omega) ?_; intro v' w1 hown' hgrow _)
      have hr1 : RowB w1 w.heap.size v' (bigL v (k + 1)) := by
       unfold RowB
       rw [hbit.out, List.length_cons, Nat.add_comm]
       exact hown'
      have hB1 : Below w.heap.size w w1 := by
       refine (hB.out.alloc hsz _).grown hgrow (by simp; omega) (fun j ej => ?_)
       exact (World.ownsRow.lt (rowB_one wr w.heap.size b hsz) j ej).1
      exact ⟨⟨k + 1, m / 256, by omega, by simp, by simp, hdiv, hr1, hB1⟩, by simp [intOf]; omega⟩
  · obtain rfl : k = n := by omega
    go_wp2
    go_ret
    exact ⟨_, rfl, hrow.out, hB.out⟩
def sumV (W : Int) (p f : Nat) (t : Bool) (z : Nat) (bs : List Nat) : Nat := if kindB W p f z = true then sumL W.toNat p f t z bs else 0
abbrev n8 : ByteArray := ⟨#[99, 114, 99, 56]⟩
abbrev n16 : ByteArray := ⟨#[99, 114, 99, 49, 54]⟩
theorem sumV_yes {W : Int} {p f : Nat} {t : Bool} {z : Nat} {bs : List Nat} (h : kindB W p f z = true) : sumV W p f t z bs = sumL W.toNat p f t z bs := by unfold sumV; rw [if_pos h]
theorem kind_width {W : Int} {p f z : Nat} (h : kindB W p f z = true) : W = 8 ∨ W = 16 ∨ W = 32 := by
 unfold kindB at h
 simp only [Bool.and_eq_true, decide_eq_true_eq] at h
 exact h.1
abbrev e0 : ByteArray := ⟨#[110, 111, 110, 101]⟩
abbrev e1 : ByteArray := ⟨#[115, 117, 109]⟩
abbrev e2 : ByteArray := ⟨#[108, 114, 99]⟩
abbrev e3 : ByteArray := ⟨#[120, 111, 114]⟩
abbrev e4 : ByteArray := ⟨#[102, 108, 101, 116, 99, 104, 101, 114]⟩
abbrev e5 : ByteArray := ⟨#[99, 114, 99, 56]⟩
abbrev e6 : ByteArray := ⟨#[99, 114, 99, 49, 54]⟩
abbrev e7 : ByteArray := ⟨#[99, 99, 105, 116, 116]⟩
abbrev e8 : ByteArray := ⟨#[99, 114, 99, 51, 50]⟩
def endK (k : Nat) (bs : List Nat) : List Nat :=
 match k with
 | 0 => []
 | 1 => [totN bs % 256]
 | 2 => [(256 - totN bs % 256) % 256]
 | 3 => [mixB bs]
 | 4 => [(secN bs).2 % 255, totN bs % 255]
 | 5 => bigL (sumV 8 7 0 false 0 bs) 1
 | 6 => bigL (sumV 16 32773 0 true 0 bs) 2
 | 7 => bigL (sumV 16 4129 65535 false 0 bs) 2
 | 8 => bigL (sumV 32 79764919 4294967295 true 4294967295 bs) 4
 | _ => []
def sizeK (k : Nat) : Nat :=
 match k with
 | 0 => 0
 | 1 => 1
 | 2 => 1
 | 3 => 1
 | 4 => 2
 | 5 => 1
 | 6 => 2
 | 7 => 2
 | 8 => 4
 | _ => 0
def whichN (s : ByteArray) : Nat := if s = e0 then 0 else if s = e1 then 1 else if s = e2 then 2 else if s = e3 then 3 else if s = e4 then 4 else if s = e5 then 5 else if s = e6 then 6 else if s = e7 then 7 else if s = e8 then 8 else 9
def nameN (k : Nat) : ByteArray :=
 match k with
 | 0 => e0
 | 1 => e1
 | 2 => e2
 | 3 => e3
 | 4 => e4
 | 5 => e5
 | 6 => e6
 | 7 => e7
 | 8 => e8
 | _ => ⟨#[]⟩
theorem end_len {k : Nat} (h : k < 9) (bs : List Nat) : (endK k bs).length = sizeK k := by
 match k, h with
 | 0, _ => rfl
 | 1, _ => rfl
 | 2, _ => rfl
 | 3, _ => rfl
 | 4, _ => rfl
 | 5, _ => exact bigL_len _ _
 | 6, _ => exact bigL_len _ _
 | 7, _ => exact bigL_len _ _
 | 8, _ => exact bigL_len _ _
theorem not_e0 {s : ByteArray} (h : ¬ s = e0) : (s.toList == [110, 111, 110, 101]) = false := by have := txt_no h; rwa [show e0.toList = [110, 111, 110, 101] by rw [ByteArray.toList_eq]] at this
theorem not_e1 {s : ByteArray} (h : ¬ s = e1) : (s.toList == [115, 117, 109]) = false := by have := txt_no h; rwa [show e1.toList = [115, 117, 109] by rw [ByteArray.toList_eq]] at this
theorem not_e2 {s : ByteArray} (h : ¬ s = e2) : (s.toList == [108, 114, 99]) = false := by have := txt_no h; rwa [show e2.toList = [108, 114, 99] by rw [ByteArray.toList_eq]] at this
theorem not_e3 {s : ByteArray} (h : ¬ s = e3) : (s.toList == [120, 111, 114]) = false := by have := txt_no h; rwa [show e3.toList = [120, 111, 114] by rw [ByteArray.toList_eq]] at this
theorem not_e4 {s : ByteArray} (h : ¬ s = e4) : (s.toList == [102, 108, 101, 116, 99, 104, 101, 114]) = false := by have := txt_no h; rwa [show e4.toList = [102, 108, 101, 116, 99, 104, 101, 114] by rw [ByteArray.toList_eq]] at this
theorem not_e5 {s : ByteArray} (h : ¬ s = e5) : (s.toList == [99, 114, 99, 56]) = false := by have := txt_no h; rwa [show e5.toList = [99, 114, 99, 56] by rw [ByteArray.toList_eq]] at this
theorem not_e6 {s : ByteArray} (h : ¬ s = e6) : (s.toList == [99, 114, 99, 49, 54]) = false := by have := txt_no h; rwa [show e6.toList = [99, 114, 99, 49, 54] by rw [ByteArray.toList_eq]] at this
theorem not_e7 {s : ByteArray} (h : ¬ s = e7) : (s.toList == [99, 99, 105, 116, 116]) = false := by have := txt_no h; rwa [show e7.toList = [99, 99, 105, 116, 116] by rw [ByteArray.toList_eq]] at this
theorem not_e8 {s : ByteArray} (h : ¬ s = e8) : (s.toList == [99, 114, 99, 51, 50]) = false := by have := txt_no h; rwa [show e8.toList = [99, 114, 99, 51, 50] by rw [ByteArray.toList_eq]] at this
theorem which_name {k : Nat} (h : k < 9) : whichN (nameN k) = k := by
 match k, h with
 | 0, _ => exact of_decide_eq_true (by kernel_rfl)
 | 1, _ => exact of_decide_eq_true (by kernel_rfl)
 | 2, _ => exact of_decide_eq_true (by kernel_rfl)
 | 3, _ => exact of_decide_eq_true (by kernel_rfl)
 | 4, _ => exact of_decide_eq_true (by kernel_rfl)
 | 5, _ => exact of_decide_eq_true (by kernel_rfl)
 | 6, _ => exact of_decide_eq_true (by kernel_rfl)
 | 7, _ => exact of_decide_eq_true (by kernel_rfl)
 | 8, _ => exact of_decide_eq_true (by kernel_rfl)
theorem which_cases (s : ByteArray) : (∃ k, k < 9 ∧ s = nameN k ∧ whichN s = k) ∨ (whichN s = 9 ∧ ¬ s = e0 ∧ ¬ s = e1 ∧ ¬ s = e2 ∧ ¬ s = e3 ∧ ¬ s = e4 ∧ ¬ s = e5 ∧ ¬ s = e6 ∧ ¬ s = e7 ∧ ¬ s = e8) := by
 by_cases h0 : s = e0
 · exact .inl ⟨0, by omega, h0, by rw [h0]; exact which_name (k := 0) (by omega)⟩
 by_cases h1 : s = e1
 · exact .inl ⟨1, by omega, h1, by rw [h1]; exact which_name (k := 1) (by omega)⟩
 by_cases h2 : s = e2
 · exact .inl ⟨2, by omega, h2, by rw [h2]; exact which_name (k := 2) (by omega)⟩
 by_cases h3 : s = e3
 · exact .inl ⟨3, by omega, h3, by rw [h3]; exact which_name (k := 3) (by omega)⟩
 by_cases h4 : s = e4
 · exact .inl ⟨4, by omega, h4, by rw [h4]; exact which_name (k := 4) (by omega)⟩
 by_cases h5 : s = e5
 · exact .inl ⟨5, by omega, h5, by rw [h5]; exact which_name (k := 5) (by omega)⟩
 by_cases h6 : s = e6
 · exact .inl ⟨6, by omega, h6, by rw [h6]; exact which_name (k := 6) (by omega)⟩
 by_cases h7 : s = e7
 · exact .inl ⟨7, by omega, h7, by rw [h7]; exact which_name (k := 7) (by omega)⟩
 by_cases h8 : s = e8
 · exact .inl ⟨8, by omega, h8, by rw [h8]; exact which_name (k := 8) (by omega)⟩
 refine .inr ⟨?_, h0, h1, h2, h3, h4, h5, h6, h7, h8⟩
 unfold whichN
 rw [if_neg h0, if_neg h1, if_neg h2, if_neg h3, if_neg h4, if_neg h5, if_neg h6, if_neg h7, if_neg h8]
theorem i64_xor_small {a b : Nat} (ha : a < 256) (hb : b < 256) : bits .xor .i64 (a : Int) (b : Int) = ((a ^^^ b : Nat) : Int) := by
 have hx : a ^^^ b < 2 ^ 8 := Nat.xor_lt_two_pow (by omega) (by omega)
 show IntKind.i64.wrap ((BitVec.ofInt 64 (a : Int) ^^^ BitVec.ofInt 64 (b : Int)).toNat : Int) = _
 rw [BitVec.toNat_xor, ofInt_u64 a (by omega), ofInt_u64 b (by omega), IntKind.wrap_i64]
 omega
def orE (b : Bool) (n : Int) : Int := if b = true then 0 else n
def firstE : List Int → Int
 | [] => 0
 | e :: es => if e = 0 then firstE es else e
def gdK (f : Fd) : Bool := nameB f.nm && rgtB (kindI (txt f.kd)) f.wd
def gdP (sz : Int) (f : Fd) : Bool := decide (0 ≤ f.pl) && (decide (f.pl < sz) && decide (f.wd ≤ sz - f.pl))
def gdR (f : Fd) : Bool := rightB f.sn f.sd && rightB f.on f.od
def gdU (f : Fd) : Bool := isU (txt f.un)
def fldE (sz : Int) (f : Fd) : Int := firstE [orE (gdK f) 6, orE (gdP sz f) 11, orE (gdR f) 1, orE (gdU f) 4]
def fldsE (sz : Int) : List Wd → List Fd → Int
 | _, [] => 0
 | seen, f :: r => if firstE [fldE sz f, orE (!decide (f.nm ∈ seen)) 8] = 0 then fldsE sz (seen ++ [f.nm]) r else firstE [fldE sz f, orE (!decide (f.nm ∈ seen)) 8]
def inB (lo hi n : Int) : Bool := decide (lo ≤ n) && decide (n ≤ hi)
def xorI (a b : Int) : Int := bits .xor .i64 a b
def gd1 (d : Dv) : Bool := inB 0 255 d.st && (inB 0 255 d.es && inB 0 255 d.mx)
def gd2 (d : Dv) : Bool := inB 1 32 d.sz
def gd3 (d : Dv) : Bool := inB 1 1000 d.po && (inB 1 1000 d.ti && inB 1 1000 d.ag)
def gd4 (d : Dv) : Bool := inB 0 10 d.re
def gd5 (n : Nat) : Bool := inB 1 16 (n : Int)
def gd6 (n : Nat) : Bool := inB 0 8 (n : Int)
def gdN (d : Dv) : Bool := gd1 d && (gd2 d && (gd3 d && (gd4 d && (gd5 d.rq.length && gd6 d.fs.length))))
def gdC (d : Dv) : Bool := !(decide (d.st = d.es) || (decide (d.st = xorI d.st d.mx) || decide (d.st = xorI d.es d.mx)))
def gdT (d : Dv) : Bool := decide (d.ti < d.po) && decide (d.po ≤ d.ag)
def isSum (s : ByteArray) : Bool := decide (whichN s < 9)
def ckE (d : Dv) : Int := firstE [orE (nameB d.nm && gdN d) 6, orE (isSum (txt d.sm)) 4, orE (gdC d) 10, orE (gdT d) 11, fldsE d.sz [] d.fs]
theorem orE_t (n : Int) : orE true n = 0 := rfl
theorem orE_f (n : Int) : orE false n = n := rfl
theorem first_0 (es : List Int) : firstE (0 :: es) = firstE es := by rw [firstE, if_pos rfl]
theorem first_no {e : Int} (h : ¬ e = 0) (es : List Int) : firstE (e :: es) = e := by rw [firstE, if_neg h]
theorem first_or (b : Bool) {n : Int} (h : ¬ n = 0) (es : List Int) : firstE (orE b n :: es) = if b = true then firstE es else n := by
 cases b
 · rw [orE_f, first_no h]; rfl
 · rw [orE_t, first_0]; rfl
theorem first_one (e : Int) : firstE [e] = e := by
 by_cases h : e = 0
 · rw [h]; rfl
 · rw [first_no h]
theorem fldE_form (sz : Int) (f : Fd) : fldE sz f = if gdK f = true then (if gdP sz f = true then (if gdR f = true then (if gdU f = true then 0 else 4) else 1) else 11) else 6 := by
 unfold fldE
 rw [first_or _ (by omega), first_or _ (by omega), first_or _ (by omega), first_one]
 rfl
theorem fldE_cases (sz : Int) (f : Fd) : fldE sz f = 0 ∨ fldE sz f = 6 ∨ fldE sz f = 11 ∨ fldE sz f = 1 ∨ fldE sz f = 4 := by
 rw [fldE_form]
 split <;> (try split) <;> (try split) <;> (try split) <;> simp
theorem two_form (e : Int) (b : Bool) : firstE [e, orE b 8] = if e = 0 then (if b = true then 0 else 8) else e := by
 rw [firstE, first_one]; rfl
theorem ckE_form (d : Dv) : ckE d = if nameB d.nm = true ∧ gdN d = true then (if isSum (txt d.sm) = true then (if gdC d = true then (if gdT d = true then fldsE d.sz [] d.fs else 11) else 10) else 4) else 6 := by
 unfold ckE
 rw [first_or _ (by omega), first_or _ (by omega), first_or _ (by omega), first_or _ (by omega), first_one]
 simp only [Bool.and_eq_true]
theorem ckE_zero {d : Dv} : ckE d = 0 ↔ (nameB d.nm = true ∧ gdN d = true) ∧ isSum (txt d.sm) = true ∧ gdC d = true ∧ gdT d = true ∧ fldsE d.sz [] d.fs = 0 := by
 rw [ckE_form]
 constructor
 · intro h
   split at h
   · split at h
     · split at h
       · split at h
         · exact ⟨by assumption, by assumption, by assumption, by assumption, h⟩
         · cases h
       · cases h
     · cases h
   · cases h
 · rintro ⟨h1, h2, h3, h4, h5⟩
   rw [if_pos h1, if_pos h2, if_pos h3, if_pos h4, h5]
theorem flds_cons (sz : Int) (seen : List Wd) (f : Fd) (r : List Fd) : fldsE sz seen (f :: r) = if fldE sz f = 0 then (if f.nm ∈ seen then 8 else fldsE sz (seen ++ [f.nm]) r) else fldE sz f := by
 rw [fldsE, two_form]
 by_cases h : fldE sz f = 0
 · rw [if_pos h, if_pos h]
   by_cases k : f.nm ∈ seen
   · rw [decide_eq_true k, if_pos k]; rfl
   · rw [decide_eq_false k, if_neg k]; rfl
 · rw [if_neg h, if_neg h, if_neg h]
theorem flds_zero (sz : Int) : ∀ (fs : List Fd) (seen : List Wd), fldsE sz seen fs = 0 ↔ (∀ f ∈ fs, fldE sz f = 0 ∧ f.nm ∉ seen) ∧ (fs.map (·.nm)).Nodup
 | [], seen => by simp [fldsE]
 | f :: r, seen => by
  rw [flds_cons]
  by_cases h : fldE sz f = 0
  · rw [if_pos h]
    by_cases k : f.nm ∈ seen
    · rw [if_pos k]
      constructor
      · intro c; cases c
      · intro c; exact absurd k ((c.1 f (List.mem_cons_self ..)).2)
    · rw [if_neg k, flds_zero sz r]
      simp only [List.mem_append, List.mem_singleton, not_or, List.forall_mem_cons, List.map_cons, List.nodup_cons, List.mem_map, not_exists, not_and]
      constructor
      · rintro ⟨h1, h2⟩
        exact ⟨⟨⟨h, k⟩, fun g hg => ⟨(h1 g hg).1, (h1 g hg).2.1⟩⟩, fun g hg e => (h1 g hg).2.2 e, h2⟩
      · rintro ⟨⟨_, h1⟩, h2, h3⟩
        exact ⟨fun g hg => ⟨(h1 g hg).1, (h1 g hg).2, fun e => h2 g hg e⟩, h3⟩
  · rw [if_neg h]
    constructor
    · intro c; exact absurd c h
    · intro c; exact absurd (c.1 f (List.mem_cons_self ..)).1 h
theorem flds_cases (sz : Int) : ∀ (fs : List Fd) (seen : List Wd), fldsE sz seen fs = 0 ∨ fldsE sz seen fs = 8 ∨ fldsE sz seen fs = 6 ∨ fldsE sz seen fs = 11 ∨ fldsE sz seen fs = 1 ∨ fldsE sz seen fs = 4
 | [], seen => .inl rfl
 | f :: r, seen => by
  rw [flds_cons]
  split
  · split
    · simp
    · exact flds_cases sz r _
  · rcases fldE_cases sz f with h | h | h | h | h <;> rw [h] <;> simp
theorem in_le {lo hi n : Int} (h : inB lo hi n = true) : lo ≤ n ∧ n ≤ hi := by
 unfold inB at h; simpa using h
theorem xorI_byte (a b : Nat) (ha : a < 256) (hb : b < 256) : xorI (a : Int) (b : Int) = ((a ^^^ b : Nat) : Int) := by
 have hx : a ^^^ b < 2 ^ 8 := Nat.xor_lt_two_pow (by omega) (by omega)
 have h1 : (BitVec.ofInt 64 (a : Int)).toNat = a := by
  rw [BitVec.ofInt_natCast, BitVec.toNat_ofNat]; exact Nat.mod_eq_of_lt (by omega)
 have h2 : (BitVec.ofInt 64 (b : Int)).toNat = b := by
  rw [BitVec.ofInt_natCast, BitVec.toNat_ofNat]; exact Nat.mod_eq_of_lt (by omega)
 show IntKind.i64.wrap ((BitVec.ofInt 64 (a : Int) ^^^ BitVec.ofInt 64 (b : Int)).toNat : Int) = _
 rw [BitVec.toNat_xor, h1, h2, IntKind.wrap_i64]
 omega
theorem xor_self_iff (a b : Nat) : a = a ^^^ b ↔ b = 0 := by
 constructor
 · intro h
   have k : a ^^^ a = a ^^^ (a ^^^ b) := congrArg (a ^^^ ·) h
   rw [Nat.xor_self, ← Nat.xor_assoc, Nat.xor_self, Nat.zero_xor] at k
   exact k.symm
 · intro h; rw [h, Nat.xor_zero]
theorem gdC_doc {d : Dv} (h : gdN d = true) : gdC d = !(decide (d.st = d.es) || (decide (d.mx = 0) || decide (xorI d.es d.mx = d.st))) := by
 unfold gdN gd1 at h
 simp only [Bool.and_eq_true] at h
 obtain ⟨⟨a1, a2, a3⟩, _⟩ := h
 have a1 := in_le a1
 have a3 := in_le a3
 obtain ⟨s, hs⟩ : ∃ s : Nat, d.st = s := ⟨d.st.toNat, by omega⟩
 obtain ⟨m, hm⟩ : ∃ m : Nat, d.mx = m := ⟨d.mx.toNat, by omega⟩
 unfold gdC
 congr 1
 congr 1
 have e1 : decide (d.st = xorI d.st d.mx) = decide (d.mx = 0) := by
  rw [hs, hm, xorI_byte s m (by omega) (by omega), decide_eq_decide]
  have := xor_self_iff s m
  omega
 rw [e1]
 congr 1
 rw [decide_eq_decide]
 exact eq_comm
end Go.Proofs.YthabffjgdhfbmaaGreatDoor
