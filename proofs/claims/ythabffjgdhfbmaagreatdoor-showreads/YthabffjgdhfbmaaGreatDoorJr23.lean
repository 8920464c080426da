/-
  Texts that belong together, one behind the other: DsLineDev, DsLineSta, DsLineEsc. Conditions: as each says.
-/
import Derived.Lib.QuietBelowIn
import Derived.RangeFuncCalls
import Derived.Sort.BigQuietIn
import Derived.Test.YthabffjgdhfbmaaGreatDoorProg
import Derived.Test.YthabffjgdhfbmaaGreatDoorJr1
import Derived.Test.YthabffjgdhfbmaaGreatDoorJr2
import Derived.Test.YthabffjgdhfbmaaGreatDoorJr3
import Derived.Test.YthabffjgdhfbmaaGreatDoorJr4
import Derived.Test.YthabffjgdhfbmaaGreatDoorJr5
import Derived.Test.YthabffjgdhfbmaaGreatDoorJr6
import Derived.Test.YthabffjgdhfbmaaGreatDoorJr7
import Derived.Test.YthabffjgdhfbmaaGreatDoorJr8
import Derived.Test.YthabffjgdhfbmaaGreatDoorJr10
set_option maxRecDepth 100000
set_option maxHeartbeats 32000000
set_option linter.unusedVariables false
namespace Go.Proofs.YthabffjgdhfbmaaGreatDoor
open Go.RowKit
theorem line_dev (a : List Wd) (d : Dv) (pf : Option Addr) (nf cf : Nat) (pq : Option Addr) (mq cq : Nat) (g o cap : Nat) (w : World) (hi : StrsIn w g o (kDev :: a)) (hgw : g < w.heap.size) (hl : (a.length : Int) ≤ 5000) (hz : ∀ z ∈ a, (z.length : Int) ≤ 5000) (ps : Option Addr) (cs : Nat) (seen : List Wd) (hs : StrsAt w (.slice ps seen.length cs) seen) (hsl : (seen.length : Int) ≤ 5000) (hfl : FldsAt w (.slice pf nf cf) d.fs) (hrq : BytesAt w (.slice pq mq cq) d.rq) :
 Calls Tryz.prog 33 #[dvV d (.slice pf nf cf) (.slice pq mq cq), .slice (some ⟨g, o, none⟩) (a.length + 1) cap, .slice ps seen.length cs] w (LineQ w d (.slice pf nf cf) (.slice pq mq cq) seen (kDev :: a)) := by
 have m0 := lineM_first w d (.slice pf nf cf) (.slice pq mq cq)
 have n0 : ((a.length : Int) + 1 == 0) = false := beq_eq_false_iff_ne.2 (by omega)
 have FQ0 : Hid (FldsAt w (.slice pf nf cf) d.fs ∧ BytesAt w (.slice pq mq cq) d.rq) := ⟨hfl, hrq⟩
 have wi : Hid (StrsIn w g o (kDev :: a)) := hi
 replace hs : Hid (StrsAt w (.slice ps seen.length cs) seen) := hs
 replace hz : Hid (∀ z ∈ a, (z.length : Int) ≤ 5000) := hz
 obtain ⟨sl, hsl2⟩ : ∃ sl, seen.length = sl := ⟨_, rfl⟩
 rw [hsl2] at hs hsl ⊢
 replace hsl2 : Hid (seen.length = sl) := hsl2
 clear hfl hrq hi
 go_enter Tryz.func33, Tryz.ntmps33
 go_upto_region 5 with fail
 change Code.wp Tryz.prog _ _ _ (LineW w d (.slice pf nf cf) (.slice pq mq cq))
 have LM0 : Hid (LineM w (LineW w d (.slice pf nf cf) (.slice pq mq cq)) d (.slice pf nf cf) (.slice pq mq cq)) := m0.1
 have lc0 : Hid (∀ (i : Nat) (h : i < 11), (LineW w d (.slice pf nf cf) (.slice pq mq cq)).cell? ⟨w.heap.size + 1 + 1, i, none⟩ = some (.string (txt (allK[i]'h)))) := fun i h => (rd_cell m0.2 i).1.trans (allC_at i h)
 have hc0 : (LineW w d (.slice pf nf cf) (.slice pq mq cq)).cell? ⟨g, o, none⟩ = some (.string ⟨#[100, 101, 118, 105, 99, 101]⟩) := kp m0.1.b (wi.out 0 (by simp))
 clear m0
 generalize LineW w d (.slice pf nf cf) (.slice pq mq cq) = x0 at *
 go_wp2
 go_loopw [8, 10] (fun vk vi wr => ∃ n k : Nat, (k : Int) ≤ 11 ∧ wr = x0.drewN n ∧ vi = .int .i64 (k : Int) ∧ vk = .bool (decide (kDev ∈ allK.take k))) (fun vk vi wr => (11 - intOf vi).toNat)
 case atStart => exact ⟨0, 0, by omega, rfl, rfl, by simp⟩
 case round =>
  obtain ⟨n, k, hk11, rfl, rfl, rfl⟩ := hrel
  by_cases hlt : k < 11
  · have hki : (k : Int) < 11 := by omega
    have st := allK_step kDev k hlt
    have l1 := lc0.out k hlt
    have wk : IntKind.i64.wrap ((k : Int) + 1) = (k : Int) + 1 := by simp only [IntKind.wrap_i64]; omega
    have cmp : (txt (allK[k]'hlt) == ⟨#[100, 101, 118, 105, 99, 101]⟩) = decide (allK[k]'hlt = kDev) := txt_beq _ kDev
    generalize allK[k]'hlt = ak at *
    clear lc0 LM0
    cases hd : decide (kDev ∈ allK.take k)
    · rw [hd, Bool.false_or] at st
      have c2 : ((txt ak).toList == [100, 101, 118, 105, 99, 101]) = decide (ak = kDev) := by
       rw [Bool.eq_iff_iff, decide_eq_true_iff, beq_iff_eq, ByteArray.toList_eq]
       exact ⟨fun h => h, fun h => by rw [h]; rfl⟩
      generalize decide (ak = kDev) = R at *
      go_wp2_with fail
      go_quiet (fail)
      go_wp2
      exact ⟨⟨n + nq, k + 1, by omega, rfl, by simp, by rw [st]⟩, by simp [intOf]; omega⟩
    · rw [hd, Bool.true_or] at st
      go_wp2_with fail
      go_quiet (fail)
      go_wp2
      exact ⟨⟨n + nq, k + 1, by omega, rfl, by simp, by rw [st]⟩, by simp [intOf]; omega⟩
  · obtain rfl : k = 11 := by omega
    rw [allK_mem, show knownB kDev = true from rfl]
    clear lc0
    go_wp2
    go_loopw [11] (fun vi wr => ∃ n k : Nat, (k : Int) ≤ (sl : Int) ∧ wr = x0.drewN n ∧ vi = .int .i64 (k : Int) ∧ Hid (∀ j (h : j < seen.length), j < k → ¬ seen[j] = kDev)) (fun vi wr => ((sl : Int) - intOf vi).toNat)
    case atStart => exact ⟨n, 0, by omega, rfl, rfl, fun j _ h => (by cases h)⟩
    case round =>
     obtain ⟨n, k, hk, rfl, rfl, no⟩ := hrel
     by_cases hlt : k < sl
     · have hki : (k : Int) < (sl : Int) := by omega
       have hks : k < seen.length := by have := hsl2.out; omega
       rcases hs.out with ⟨_, hnil⟩ | ⟨gs, os, cs', e1, hin, hgs⟩
       · rw [hnil] at hks; cases hks
       injection e1 with e1 e2 e3
       subst e1
       subst e3
       clear e2
       have l1 := kp LM0.out.b (hin k hks)
       have wk : IntKind.i64.wrap ((k : Int) + 1) = (k : Int) + 1 := by simp only [IntKind.wrap_i64]; omega
       obtain ⟨ak, hak⟩ : ∃ ak, seen[k] = ak := ⟨_, rfl⟩
       rw [hak] at l1
       have cmp : (txt ak == ⟨#[100, 101, 118, 105, 99, 101]⟩) = decide (ak = kDev) := txt_beq _ kDev
       have c2 : ((txt ak).toList == [100, 101, 118, 105, 99, 101]) = decide (ak = kDev) := by
        rw [Bool.eq_iff_iff, decide_eq_true_iff, beq_iff_eq, ByteArray.toList_eq]
        exact ⟨fun h => h, fun h => by rw [h]; rfl⟩
       cases hd : decide (ak = kDev)
       · rw [hd] at cmp c2
         have no2 : Hid (∀ j (h : j < seen.length), j < k + 1 → ¬ seen[j] = kDev) := fun j h hj => by
          by_cases hjk : j = k
          · subst hjk; rw [hak]; simpa using hd
          · exact no.out j h (by omega)
         clear hin hak no hd LM0
         go_wp2_with fail
         go_quiet (fail)
         go_wp2
         exact ⟨⟨n + nq, k + 1, by omega, rfl, by simp, no2⟩, by simp [intOf]; omega⟩
       · rw [hd] at cmp c2
         have e8 : Hid (stepM d seen (kDev :: a) = .error 8) := by
          have hm : kDev ∈ seen := by
           have : ak = kDev := by simpa using hd
           rw [← this, ← hak]; exact List.getElem_mem hks
          unfold Hid stepM
          simp only [show knownB kDev = true from rfl]
          rw [if_neg (by decide), if_pos ⟨by decide, hm⟩]
         clear hin hak no hd
         go_wp2_with fail
         go_quiet (fail)
         go_upto_region 15 with fail
         have LM : Hid (LineM w ((x0.drewN n).drewN nq) d (.slice pf nf cf) (.slice pq mq cq)) := LM0.out.below (below_drewN (below_drewN (Below.refl _ _) _) _)
         generalize (x0.drewN n).drewN nq = y at *
         obtain ⟨dc0, df0⟩ := LM.out.cells.1 0 _ rfl
         obtain ⟨dc1, df1⟩ := LM.out.cells.1 1 _ rfl
         obtain ⟨dc2, df2⟩ := LM.out.cells.1 2 _ rfl
         obtain ⟨dc3, df3⟩ := LM.out.cells.1 3 _ rfl
         obtain ⟨dc4, df4⟩ := LM.out.cells.1 4 _ rfl
         obtain ⟨dc5, df5⟩ := LM.out.cells.1 5 _ rfl
         obtain ⟨dc6, df6⟩ := LM.out.cells.1 6 _ rfl
         obtain ⟨dc7, df7⟩ := LM.out.cells.1 7 _ rfl
         obtain ⟨dc8, df8⟩ := LM.out.cells.1 8 _ rfl
         obtain ⟨dc9, df9⟩ := LM.out.cells.1 9 _ rfl
         obtain ⟨dc10, df10⟩ := LM.out.cells.1 10 _ rfl
         obtain ⟨dc11, df11⟩ := LM.out.cells.1 11 _ rfl
         obtain ⟨zc0, zf0⟩ := LM.out.cells.2 0 _ rfl
         obtain ⟨zc1, zf1⟩ := LM.out.cells.2 1 _ rfl
         obtain ⟨zc2, zf2⟩ := LM.out.cells.2 2 _ rfl
         obtain ⟨zc3, zf3⟩ := LM.out.cells.2 3 _ rfl
         obtain ⟨zc4, zf4⟩ := LM.out.cells.2 4 _ rfl
         obtain ⟨zc5, zf5⟩ := LM.out.cells.2 5 _ rfl
         obtain ⟨zc6, zf6⟩ := LM.out.cells.2 6 _ rfl
         obtain ⟨zc7, zf7⟩ := LM.out.cells.2 7 _ rfl
         obtain ⟨zc8, zf8⟩ := LM.out.cells.2 8 _ rfl
         obtain ⟨zc9, zf9⟩ := LM.out.cells.2 9 _ rfl
         obtain ⟨zc10, zf10⟩ := LM.out.cells.2 10 _ rfl
         obtain ⟨zc11, zf11⟩ := LM.out.cells.2 11 _ rfl
         clear LM0
         go_wp2
         change bodyPost _ _ _ _ _ (putD y (w.heap.size + 1) d (.slice pf nf cf) (.slice pq mq cq))
         have pa := putD_at (y := y) LM.out.rc d (.slice pf nf cf) (.slice pq mq cq)
         have pb := putD_below LM.out.b (show w.heap.size ≤ w.heap.size + 1 by omega) d (.slice pf nf cf) (.slice pq mq cq)
         generalize putD y (w.heap.size + 1) d (.slice pf nf cf) (.slice pq mq cq) = yy at *
         refine bodyPost_ret (res_dev2 Tryz.results33 rfl rfl pa) rfl ?_
         exact ⟨d, pf, nf, cf, pq, mq, cq, by rw [e8.out]; rfl, pb, fun d' hd => by rw [e8.out] at hd; cases hd⟩
     · obtain rfl : k = sl := by omega
       have hns : ¬ kDev ∈ seen := fun hm => by
        obtain ⟨j, hj, hj2⟩ := List.mem_iff_getElem.1 hm
        exact no.out j hj (by have := hsl2.out; omega) hj2
       have st : Hid (stepM d seen (kDev :: a) = match updM kDev a with | none => .error 6 | some u => .ok (u d)) := step_nf rfl (by decide) hns
       have LM : Hid (LineM w (x0.drewN n) d (.slice pf nf cf) (.slice pq mq cq)) := LM0.out.below (below_drewN (Below.refl _ _) _)
       have hcy : (x0.drewN n).cell? ⟨g, o, none⟩ = some (.string ⟨#[100, 101, 118, 105, 99, 101]⟩) := hc0
       generalize x0.drewN n = y at *
       obtain ⟨dc0, df0⟩ := LM.out.cells.1 0 _ rfl
       obtain ⟨dc1, df1⟩ := LM.out.cells.1 1 _ rfl
       obtain ⟨dc2, df2⟩ := LM.out.cells.1 2 _ rfl
       obtain ⟨dc3, df3⟩ := LM.out.cells.1 3 _ rfl
       obtain ⟨dc4, df4⟩ := LM.out.cells.1 4 _ rfl
       obtain ⟨dc5, df5⟩ := LM.out.cells.1 5 _ rfl
       obtain ⟨dc6, df6⟩ := LM.out.cells.1 6 _ rfl
       obtain ⟨dc7, df7⟩ := LM.out.cells.1 7 _ rfl
       obtain ⟨dc8, df8⟩ := LM.out.cells.1 8 _ rfl
       obtain ⟨dc9, df9⟩ := LM.out.cells.1 9 _ rfl
       obtain ⟨dc10, df10⟩ := LM.out.cells.1 10 _ rfl
       obtain ⟨dc11, df11⟩ := LM.out.cells.1 11 _ rfl
       obtain ⟨zc0, zf0⟩ := LM.out.cells.2 0 _ rfl
       obtain ⟨zc1, zf1⟩ := LM.out.cells.2 1 _ rfl
       obtain ⟨zc2, zf2⟩ := LM.out.cells.2 2 _ rfl
       obtain ⟨zc3, zf3⟩ := LM.out.cells.2 3 _ rfl
       obtain ⟨zc4, zf4⟩ := LM.out.cells.2 4 _ rfl
       obtain ⟨zc5, zf5⟩ := LM.out.cells.2 5 _ rfl
       obtain ⟨zc6, zf6⟩ := LM.out.cells.2 6 _ rfl
       obtain ⟨zc7, zf7⟩ := LM.out.cells.2 7 _ rfl
       obtain ⟨zc8, zf8⟩ := LM.out.cells.2 8 _ rfl
       obtain ⟨zc9, zf9⟩ := LM.out.cells.2 9 _ rfl
       obtain ⟨zc10, zf10⟩ := LM.out.cells.2 10 _ rfl
       obtain ⟨zc11, zf11⟩ := LM.out.cells.2 11 _ rfl
       clear LM0 no hns hc0
       by_cases h1 : a.length = 1
       · obtain ⟨z, rfl⟩ := len_one h1
         have hc1 : y.cell? ⟨g, o + 1, none⟩ = some (.string (txt z)) := kp LM.out.b (wi.out 1 (by simp))
         have fn : Hid (∀ w, Calls Tryz.prog 25 #[.string (txt z)] w fun e w' => e = .returned (.bool (nameB z)) ∧ w' = w) := fun w => rname_any (txt z) w
         have hm : updM kDev [z] = if nameB z = true then some (fun d => { d with nm := z }) else none := rfl
         rw [hm] at st
         cases hN : nameB z
         · rw [hN] at fn st
           replace st : Hid (stepM d seen [kDev, z] = .error 6) := st
           go_wp2_with fail
           refine (fn.out _).mono ?_
           rintro e yA ⟨rfl, rfl⟩
           clear fn
           go_wp2
           change bodyPost _ _ _ _ _ (putD yA (w.heap.size + 1) d (.slice pf nf cf) (.slice pq mq cq))
           have pa := putD_at (y := yA) LM.out.rc d (.slice pf nf cf) (.slice pq mq cq)
           have pb := putD_below LM.out.b (show w.heap.size ≤ w.heap.size + 1 by omega) d (.slice pf nf cf) (.slice pq mq cq)
           generalize putD yA (w.heap.size + 1) d (.slice pf nf cf) (.slice pq mq cq) = yy at *
           refine bodyPost_ret (res_dev2 Tryz.results33 rfl rfl pa) rfl ?_
           exact ⟨d, pf, nf, cf, pq, mq, cq, by rw [st.out]; rfl, pb, fun d' hd => by rw [st.out] at hd; cases hd⟩
         · rw [hN] at fn st
           replace st : Hid (stepM d seen [kDev, z] = .ok { d with nm := z }) := st
           go_wp2_with fail
           refine (fn.out _).mono ?_
           rintro e yA ⟨rfl, rfl⟩
           clear fn
           go_wp2
           have LR : (yA.setCell ⟨w.heap.size, 0, none⟩ (.string (txt z))).heap[w.heap.size + 1]? = some (.cells dz 25 (0, 0)) := (Below.heap_setCell _ _ _ _ (show w.heap.size + 1 ≠ w.heap.size by omega)).trans LM.out.rc
           have LB : Below w.heap.size w (yA.setCell ⟨w.heap.size, 0, none⟩ (.string (txt z))) := LM.out.b.setCell (p := ⟨w.heap.size, 0, none⟩) (Nat.le_refl _) _
           generalize (yA.setCell ⟨w.heap.size, 0, none⟩ (.string (txt z))) = y2 at *
           change bodyPost _ _ _ _ _ (put12 y2 (w.heap.size + 1) (.string (txt z)) (.int .i64 d.st) (.int .i64 d.es) (.int .i64 d.mx) (.int .i64 d.sz) (.string (txt d.sm)) (.slice pf nf cf) (.slice pq mq cq) (.int .i64 d.po) (.int .i64 d.ti) (.int .i64 d.re) (.int .i64 d.ag))
           have pa := put12_at (y := y2) LR (.string (txt z)) (.int .i64 d.st) (.int .i64 d.es) (.int .i64 d.mx) (.int .i64 d.sz) (.string (txt d.sm)) (.slice pf nf cf) (.slice pq mq cq) (.int .i64 d.po) (.int .i64 d.ti) (.int .i64 d.re) (.int .i64 d.ag)
           have pb := put12_below LB (show w.heap.size ≤ w.heap.size + 1 by omega) (.string (txt z)) (.int .i64 d.st) (.int .i64 d.es) (.int .i64 d.mx) (.int .i64 d.sz) (.string (txt d.sm)) (.slice pf nf cf) (.slice pq mq cq) (.int .i64 d.po) (.int .i64 d.ti) (.int .i64 d.re) (.int .i64 d.ag)
           have FQ2 := fq_put FQ0.out LB (show w.heap.size ≤ w.heap.size + 1 by omega) (.string (txt z)) (.int .i64 d.st) (.int .i64 d.es) (.int .i64 d.mx) (.int .i64 d.sz) (.string (txt d.sm)) (.slice pf nf cf) (.slice pq mq cq) (.int .i64 d.po) (.int .i64 d.ti) (.int .i64 d.re) (.int .i64 d.ag)
           generalize put12 y2 (w.heap.size + 1) (.string (txt z)) (.int .i64 d.st) (.int .i64 d.es) (.int .i64 d.mx) (.int .i64 d.sz) (.string (txt d.sm)) (.slice pf nf cf) (.slice pq mq cq) (.int .i64 d.po) (.int .i64 d.ti) (.int .i64 d.re) (.int .i64 d.ag) = yy at *
           refine bodyPost_ret (res_dev2 Tryz.results33 rfl rfl pa) rfl ?_
           refine ⟨{ d with nm := z }, pf, nf, cf, pq, mq, cq, by rw [st.out]; rfl, pb, fun d' hd => ?_⟩
           rw [st.out] at hd
           cases hd
           exact ⟨rfl, FQ2.1, FQ2.2, .inl rfl, .inl rfl⟩
       · have n2 : ((a.length : Int) + 1 != 2) = true := bne_iff_ne.2 (by omega)
         have hm : updM kDev a = none := mName_len h1 _
         rw [hm] at st
         replace st : Hid (stepM d seen (kDev :: a) = .error 6) := st
         go_wp2
         change bodyPost _ _ _ _ _ (putD y (w.heap.size + 1) d (.slice pf nf cf) (.slice pq mq cq))
         have pa := putD_at (y := y) LM.out.rc d (.slice pf nf cf) (.slice pq mq cq)
         have pb := putD_below LM.out.b (show w.heap.size ≤ w.heap.size + 1 by omega) d (.slice pf nf cf) (.slice pq mq cq)
         generalize putD y (w.heap.size + 1) d (.slice pf nf cf) (.slice pq mq cq) = yy at *
         refine bodyPost_ret (res_dev2 Tryz.results33 rfl rfl pa) rfl ?_
         exact ⟨d, pf, nf, cf, pq, mq, cq, by rw [st.out]; rfl, pb, fun d' hd => by rw [st.out] at hd; cases hd⟩
theorem line_sta (a : List Wd) (d : Dv) (pf : Option Addr) (nf cf : Nat) (pq : Option Addr) (mq cq : Nat) (g o cap : Nat) (w : World) (hi : StrsIn w g o (kSta :: a)) (hgw : g < w.heap.size) (hl : (a.length : Int) ≤ 5000) (hz : ∀ z ∈ a, (z.length : Int) ≤ 5000) (ps : Option Addr) (cs : Nat) (seen : List Wd) (hs : StrsAt w (.slice ps seen.length cs) seen) (hsl : (seen.length : Int) ≤ 5000) (hfl : FldsAt w (.slice pf nf cf) d.fs) (hrq : BytesAt w (.slice pq mq cq) d.rq) :
 Calls Tryz.prog 33 #[dvV d (.slice pf nf cf) (.slice pq mq cq), .slice (some ⟨g, o, none⟩) (a.length + 1) cap, .slice ps seen.length cs] w (LineQ w d (.slice pf nf cf) (.slice pq mq cq) seen (kSta :: a)) := by
 have m0 := lineM_first w d (.slice pf nf cf) (.slice pq mq cq)
 have n0 : ((a.length : Int) + 1 == 0) = false := beq_eq_false_iff_ne.2 (by omega)
 have FQ0 : Hid (FldsAt w (.slice pf nf cf) d.fs ∧ BytesAt w (.slice pq mq cq) d.rq) := ⟨hfl, hrq⟩
 have wi : Hid (StrsIn w g o (kSta :: a)) := hi
 replace hs : Hid (StrsAt w (.slice ps seen.length cs) seen) := hs
 replace hz : Hid (∀ z ∈ a, (z.length : Int) ≤ 5000) := hz
 obtain ⟨sl, hsl2⟩ : ∃ sl, seen.length = sl := ⟨_, rfl⟩
 rw [hsl2] at hs hsl ⊢
 replace hsl2 : Hid (seen.length = sl) := hsl2
 clear hfl hrq hi
 go_enter Tryz.func33, Tryz.ntmps33
 go_upto_region 5 with fail
 change Code.wp Tryz.prog _ _ _ (LineW w d (.slice pf nf cf) (.slice pq mq cq))
 have LM0 : Hid (LineM w (LineW w d (.slice pf nf cf) (.slice pq mq cq)) d (.slice pf nf cf) (.slice pq mq cq)) := m0.1
 have lc0 : Hid (∀ (i : Nat) (h : i < 11), (LineW w d (.slice pf nf cf) (.slice pq mq cq)).cell? ⟨w.heap.size + 1 + 1, i, none⟩ = some (.string (txt (allK[i]'h)))) := fun i h => (rd_cell m0.2 i).1.trans (allC_at i h)
 have hc0 : (LineW w d (.slice pf nf cf) (.slice pq mq cq)).cell? ⟨g, o, none⟩ = some (.string ⟨#[115, 116, 97, 114, 116]⟩) := kp m0.1.b (wi.out 0 (by simp))
 clear m0
 generalize LineW w d (.slice pf nf cf) (.slice pq mq cq) = x0 at *
 go_wp2
 go_loopw [8, 10] (fun vk vi wr => ∃ n k : Nat, (k : Int) ≤ 11 ∧ wr = x0.drewN n ∧ vi = .int .i64 (k : Int) ∧ vk = .bool (decide (kSta ∈ allK.take k))) (fun vk vi wr => (11 - intOf vi).toNat)
 case atStart => exact ⟨0, 0, by omega, rfl, rfl, by simp⟩
 case round =>
  obtain ⟨n, k, hk11, rfl, rfl, rfl⟩ := hrel
  by_cases hlt : k < 11
  · have hki : (k : Int) < 11 := by omega
    have st := allK_step kSta k hlt
    have l1 := lc0.out k hlt
    have wk : IntKind.i64.wrap ((k : Int) + 1) = (k : Int) + 1 := by simp only [IntKind.wrap_i64]; omega
    have cmp : (txt (allK[k]'hlt) == ⟨#[115, 116, 97, 114, 116]⟩) = decide (allK[k]'hlt = kSta) := txt_beq _ kSta
    generalize allK[k]'hlt = ak at *
    clear lc0 LM0
    cases hd : decide (kSta ∈ allK.take k)
    · rw [hd, Bool.false_or] at st
      have c2 : ((txt ak).toList == [115, 116, 97, 114, 116]) = decide (ak = kSta) := by
       rw [Bool.eq_iff_iff, decide_eq_true_iff, beq_iff_eq, ByteArray.toList_eq]
       exact ⟨fun h => h, fun h => by rw [h]; rfl⟩
      generalize decide (ak = kSta) = R at *
      go_wp2_with fail
      go_quiet (fail)
      go_wp2
      exact ⟨⟨n + nq, k + 1, by omega, rfl, by simp, by rw [st]⟩, by simp [intOf]; omega⟩
    · rw [hd, Bool.true_or] at st
      go_wp2_with fail
      go_quiet (fail)
      go_wp2
      exact ⟨⟨n + nq, k + 1, by omega, rfl, by simp, by rw [st]⟩, by simp [intOf]; omega⟩
  · obtain rfl : k = 11 := by omega
    rw [allK_mem, show knownB kSta = true from rfl]
    clear lc0
    go_wp2
    go_loopw [11] (fun vi wr => ∃ n k : Nat, (k : Int) ≤ (sl : Int) ∧ wr = x0.drewN n ∧ vi = .int .i64 (k : Int) ∧ Hid (∀ j (h : j < seen.length), j < k → ¬ seen[j] = kSta)) (fun vi wr => ((sl : Int) - intOf vi).toNat)
    case atStart => exact ⟨n, 0, by omega, rfl, rfl, fun j _ h => (by cases h)⟩
    case round =>
     obtain ⟨n, k, hk, rfl, rfl, no⟩ := hrel
     by_cases hlt : k < sl
     · have hki : (k : Int) < (sl : Int) := by omega
       have hks : k < seen.length := by have := hsl2.out; omega
       rcases hs.out with ⟨_, hnil⟩ | ⟨gs, os, cs', e1, hin, hgs⟩
       · rw [hnil] at hks; cases hks
       injection e1 with e1 e2 e3
       subst e1
       subst e3
       clear e2
       have l1 := kp LM0.out.b (hin k hks)
       have wk : IntKind.i64.wrap ((k : Int) + 1) = (k : Int) + 1 := by simp only [IntKind.wrap_i64]; omega
       obtain ⟨ak, hak⟩ : ∃ ak, seen[k] = ak := ⟨_, rfl⟩
       rw [hak] at l1
       have cmp : (txt ak == ⟨#[115, 116, 97, 114, 116]⟩) = decide (ak = kSta) := txt_beq _ kSta
       have c2 : ((txt ak).toList == [115, 116, 97, 114, 116]) = decide (ak = kSta) := by
        rw [Bool.eq_iff_iff, decide_eq_true_iff, beq_iff_eq, ByteArray.toList_eq]
        exact ⟨fun h => h, fun h => by rw [h]; rfl⟩
       cases hd : decide (ak = kSta)
       · rw [hd] at cmp c2
         have no2 : Hid (∀ j (h : j < seen.length), j < k + 1 → ¬ seen[j] = kSta) := fun j h hj => by
          by_cases hjk : j = k
          · subst hjk; rw [hak]; simpa using hd
          · exact no.out j h (by omega)
         clear hin hak no hd LM0
         go_wp2_with fail
         go_quiet (fail)
         go_wp2
         exact ⟨⟨n + nq, k + 1, by omega, rfl, by simp, no2⟩, by simp [intOf]; omega⟩
       · rw [hd] at cmp c2
         have e8 : Hid (stepM d seen (kSta :: a) = .error 8) := by
          have hm : kSta ∈ seen := by
           have : ak = kSta := by simpa using hd
           rw [← this, ← hak]; exact List.getElem_mem hks
          unfold Hid stepM
          simp only [show knownB kSta = true from rfl]
          rw [if_neg (by decide), if_pos ⟨by decide, hm⟩]
         clear hin hak no hd
         go_wp2_with fail
         go_quiet (fail)
         go_upto_region 15 with fail
         have LM : Hid (LineM w ((x0.drewN n).drewN nq) d (.slice pf nf cf) (.slice pq mq cq)) := LM0.out.below (below_drewN (below_drewN (Below.refl _ _) _) _)
         generalize (x0.drewN n).drewN nq = y at *
         obtain ⟨dc0, df0⟩ := LM.out.cells.1 0 _ rfl
         obtain ⟨dc1, df1⟩ := LM.out.cells.1 1 _ rfl
         obtain ⟨dc2, df2⟩ := LM.out.cells.1 2 _ rfl
         obtain ⟨dc3, df3⟩ := LM.out.cells.1 3 _ rfl
         obtain ⟨dc4, df4⟩ := LM.out.cells.1 4 _ rfl
         obtain ⟨dc5, df5⟩ := LM.out.cells.1 5 _ rfl
         obtain ⟨dc6, df6⟩ := LM.out.cells.1 6 _ rfl
         obtain ⟨dc7, df7⟩ := LM.out.cells.1 7 _ rfl
         obtain ⟨dc8, df8⟩ := LM.out.cells.1 8 _ rfl
         obtain ⟨dc9, df9⟩ := LM.out.cells.1 9 _ rfl
         obtain ⟨dc10, df10⟩ := LM.out.cells.1 10 _ rfl
         obtain ⟨dc11, df11⟩ := LM.out.cells.1 11 _ rfl
         obtain ⟨zc0, zf0⟩ := LM.out.cells.2 0 _ rfl
         obtain ⟨zc1, zf1⟩ := LM.out.cells.2 1 _ rfl
         obtain ⟨zc2, zf2⟩ := LM.out.cells.2 2 _ rfl
         obtain ⟨zc3, zf3⟩ := LM.out.cells.2 3 _ rfl
         obtain ⟨zc4, zf4⟩ := LM.out.cells.2 4 _ rfl
         obtain ⟨zc5, zf5⟩ := LM.out.cells.2 5 _ rfl
         obtain ⟨zc6, zf6⟩ := LM.out.cells.2 6 _ rfl
         obtain ⟨zc7, zf7⟩ := LM.out.cells.2 7 _ rfl
         obtain ⟨zc8, zf8⟩ := LM.out.cells.2 8 _ rfl
         obtain ⟨zc9, zf9⟩ := LM.out.cells.2 9 _ rfl
         obtain ⟨zc10, zf10⟩ := LM.out.cells.2 10 _ rfl
         obtain ⟨zc11, zf11⟩ := LM.out.cells.2 11 _ rfl
         clear LM0
         go_wp2
         change bodyPost _ _ _ _ _ (putD y (w.heap.size + 1) d (.slice pf nf cf) (.slice pq mq cq))
         have pa := putD_at (y := y) LM.out.rc d (.slice pf nf cf) (.slice pq mq cq)
         have pb := putD_below LM.out.b (show w.heap.size ≤ w.heap.size + 1 by omega) d (.slice pf nf cf) (.slice pq mq cq)
         generalize putD y (w.heap.size + 1) d (.slice pf nf cf) (.slice pq mq cq) = yy at *
         refine bodyPost_ret (res_dev2 Tryz.results33 rfl rfl pa) rfl ?_
         exact ⟨d, pf, nf, cf, pq, mq, cq, by rw [e8.out]; rfl, pb, fun d' hd => by rw [e8.out] at hd; cases hd⟩
     · obtain rfl : k = sl := by omega
       have hns : ¬ kSta ∈ seen := fun hm => by
        obtain ⟨j, hj, hj2⟩ := List.mem_iff_getElem.1 hm
        exact no.out j hj (by have := hsl2.out; omega) hj2
       have st : Hid (stepM d seen (kSta :: a) = match updM kSta a with | none => .error 6 | some u => .ok (u d)) := step_nf rfl (by decide) hns
       have LM : Hid (LineM w (x0.drewN n) d (.slice pf nf cf) (.slice pq mq cq)) := LM0.out.below (below_drewN (Below.refl _ _) _)
       have hcy : (x0.drewN n).cell? ⟨g, o, none⟩ = some (.string ⟨#[115, 116, 97, 114, 116]⟩) := hc0
       generalize x0.drewN n = y at *
       clear LM0 no hns hc0
       by_cases h1 : a.length = 1
       · obtain ⟨z, rfl⟩ := len_one h1
         have hc1 : y.cell? ⟨g, o + 1, none⟩ = some (.string (txt z)) := kp LM.out.b (wi.out 1 (by simp))
         have fo : Hid (∀ w, Calls Tryz.prog 67 #[.string (txt z)] w fun e w' => e = .returned (.int .i64 (octI z)) ∧ Below w.heap.size w w') := fun w => roct_any (txt z) w (by rw [txt_size]; have := hz.out z (by simp); omega)
         have hm : updM kSta [z] = Option.map (fun (b : Nat) (d : Dv) => { d with st := (b : Int) }) (octO z) := rfl
         rw [hm] at st
         cases hO : octO z with
         | none =>
          have eO : octI z = -1 := by unfold octI; rw [hO]
          rw [eO] at fo
          rw [hO] at st
          replace st : Hid (stepM d seen [kSta, z] = .error 6) := st
          go_wp2_with fail
          refine (fo.out _).mono ?_
          clear fo
          rintro e yA ⟨rfl, hb⟩
          replace LM : Hid (LineM w yA d (.slice pf nf cf) (.slice pq mq cq)) := LM.out.below hb
          replace hcy : yA.cell? ⟨g, o, none⟩ = some (.string ⟨#[115, 116, 97, 114, 116]⟩) := kp hb hcy
          replace hc1 : yA.cell? ⟨g, o + 1, none⟩ = some (.string (txt z)) := kp hb hc1
          clear hb
          obtain ⟨dc0, df0⟩ := LM.out.cells.1 0 _ rfl
          obtain ⟨dc1, df1⟩ := LM.out.cells.1 1 _ rfl
          obtain ⟨dc2, df2⟩ := LM.out.cells.1 2 _ rfl
          obtain ⟨dc3, df3⟩ := LM.out.cells.1 3 _ rfl
          obtain ⟨dc4, df4⟩ := LM.out.cells.1 4 _ rfl
          obtain ⟨dc5, df5⟩ := LM.out.cells.1 5 _ rfl
          obtain ⟨dc6, df6⟩ := LM.out.cells.1 6 _ rfl
          obtain ⟨dc7, df7⟩ := LM.out.cells.1 7 _ rfl
          obtain ⟨dc8, df8⟩ := LM.out.cells.1 8 _ rfl
          obtain ⟨dc9, df9⟩ := LM.out.cells.1 9 _ rfl
          obtain ⟨dc10, df10⟩ := LM.out.cells.1 10 _ rfl
          obtain ⟨dc11, df11⟩ := LM.out.cells.1 11 _ rfl
          obtain ⟨zc0, zf0⟩ := LM.out.cells.2 0 _ rfl
          obtain ⟨zc1, zf1⟩ := LM.out.cells.2 1 _ rfl
          obtain ⟨zc2, zf2⟩ := LM.out.cells.2 2 _ rfl
          obtain ⟨zc3, zf3⟩ := LM.out.cells.2 3 _ rfl
          obtain ⟨zc4, zf4⟩ := LM.out.cells.2 4 _ rfl
          obtain ⟨zc5, zf5⟩ := LM.out.cells.2 5 _ rfl
          obtain ⟨zc6, zf6⟩ := LM.out.cells.2 6 _ rfl
          obtain ⟨zc7, zf7⟩ := LM.out.cells.2 7 _ rfl
          obtain ⟨zc8, zf8⟩ := LM.out.cells.2 8 _ rfl
          obtain ⟨zc9, zf9⟩ := LM.out.cells.2 9 _ rfl
          obtain ⟨zc10, zf10⟩ := LM.out.cells.2 10 _ rfl
          obtain ⟨zc11, zf11⟩ := LM.out.cells.2 11 _ rfl
          replace LM : Hid (LineM w (yA.setCell ⟨w.heap.size, 1, none⟩ (.int .i64 (-1))) { d with st := -1 } (.slice pf nf cf) (.slice pq mq cq)) := LM.out.set 1 (.int .i64 (-1)) rfl
          go_wp2
          change bodyPost _ _ _ _ _ (LineZ w (yA.setCell ⟨w.heap.size, 1, none⟩ (.int .i64 (-1))) { d with st := -1 } (.slice pf nf cf) (.slice pq mq cq))
          refine bodyPost_ret (res_dev2 Tryz.results33 rfl rfl LM.out.res) rfl ?_
          exact LM.out.quit st.out _ rfl
         | some b =>
          have eO : octI z = (b : Int) := by unfold octI; rw [hO]
          have nb : decide ((b : Int) < 0) = false := decide_eq_false (by omega)
          rw [eO] at fo
          rw [hO] at st
          replace st : Hid (stepM d seen [kSta, z] = .ok { d with st := (b : Int) }) := st
          go_wp2_with fail
          refine (fo.out _).mono ?_
          clear fo
          rintro e yA ⟨rfl, hb⟩
          replace LM : Hid (LineM w yA d (.slice pf nf cf) (.slice pq mq cq)) := LM.out.below hb
          replace hcy : yA.cell? ⟨g, o, none⟩ = some (.string ⟨#[115, 116, 97, 114, 116]⟩) := kp hb hcy
          replace hc1 : yA.cell? ⟨g, o + 1, none⟩ = some (.string (txt z)) := kp hb hc1
          clear hb
          obtain ⟨dc0, df0⟩ := LM.out.cells.1 0 _ rfl
          obtain ⟨dc1, df1⟩ := LM.out.cells.1 1 _ rfl
          obtain ⟨dc2, df2⟩ := LM.out.cells.1 2 _ rfl
          obtain ⟨dc3, df3⟩ := LM.out.cells.1 3 _ rfl
          obtain ⟨dc4, df4⟩ := LM.out.cells.1 4 _ rfl
          obtain ⟨dc5, df5⟩ := LM.out.cells.1 5 _ rfl
          obtain ⟨dc6, df6⟩ := LM.out.cells.1 6 _ rfl
          obtain ⟨dc7, df7⟩ := LM.out.cells.1 7 _ rfl
          obtain ⟨dc8, df8⟩ := LM.out.cells.1 8 _ rfl
          obtain ⟨dc9, df9⟩ := LM.out.cells.1 9 _ rfl
          obtain ⟨dc10, df10⟩ := LM.out.cells.1 10 _ rfl
          obtain ⟨dc11, df11⟩ := LM.out.cells.1 11 _ rfl
          obtain ⟨zc0, zf0⟩ := LM.out.cells.2 0 _ rfl
          obtain ⟨zc1, zf1⟩ := LM.out.cells.2 1 _ rfl
          obtain ⟨zc2, zf2⟩ := LM.out.cells.2 2 _ rfl
          obtain ⟨zc3, zf3⟩ := LM.out.cells.2 3 _ rfl
          obtain ⟨zc4, zf4⟩ := LM.out.cells.2 4 _ rfl
          obtain ⟨zc5, zf5⟩ := LM.out.cells.2 5 _ rfl
          obtain ⟨zc6, zf6⟩ := LM.out.cells.2 6 _ rfl
          obtain ⟨zc7, zf7⟩ := LM.out.cells.2 7 _ rfl
          obtain ⟨zc8, zf8⟩ := LM.out.cells.2 8 _ rfl
          obtain ⟨zc9, zf9⟩ := LM.out.cells.2 9 _ rfl
          obtain ⟨zc10, zf10⟩ := LM.out.cells.2 10 _ rfl
          obtain ⟨zc11, zf11⟩ := LM.out.cells.2 11 _ rfl
          replace LM : Hid (LineM w (yA.setCell ⟨w.heap.size, 1, none⟩ (.int .i64 (b : Int))) { d with st := (b : Int) } (.slice pf nf cf) (.slice pq mq cq)) := LM.out.set 1 (.int .i64 (b : Int)) rfl
          go_wp2
          change bodyPost _ _ _ _ _ (LineZ w (yA.setCell ⟨w.heap.size, 1, none⟩ (.int .i64 (b : Int))) { d with st := (b : Int) } (.slice pf nf cf) (.slice pq mq cq))
          refine bodyPost_ret (res_dev2 Tryz.results33 rfl rfl LM.out.res) rfl ?_
          exact LM.out.done st.out (LM.out.old FQ0.out).1 (LM.out.old FQ0.out).2 (.inl rfl) (.inl rfl)
       · have n2 : ((a.length : Int) + 1 != 2) = true := bne_iff_ne.2 (by omega)
         have hm : updM kSta a = none := mSta_len h1
         rw [hm] at st
         replace st : Hid (stepM d seen (kSta :: a) = .error 6) := st
         obtain ⟨dc0, df0⟩ := LM.out.cells.1 0 _ rfl
         obtain ⟨dc1, df1⟩ := LM.out.cells.1 1 _ rfl
         obtain ⟨dc2, df2⟩ := LM.out.cells.1 2 _ rfl
         obtain ⟨dc3, df3⟩ := LM.out.cells.1 3 _ rfl
         obtain ⟨dc4, df4⟩ := LM.out.cells.1 4 _ rfl
         obtain ⟨dc5, df5⟩ := LM.out.cells.1 5 _ rfl
         obtain ⟨dc6, df6⟩ := LM.out.cells.1 6 _ rfl
         obtain ⟨dc7, df7⟩ := LM.out.cells.1 7 _ rfl
         obtain ⟨dc8, df8⟩ := LM.out.cells.1 8 _ rfl
         obtain ⟨dc9, df9⟩ := LM.out.cells.1 9 _ rfl
         obtain ⟨dc10, df10⟩ := LM.out.cells.1 10 _ rfl
         obtain ⟨dc11, df11⟩ := LM.out.cells.1 11 _ rfl
         obtain ⟨zc0, zf0⟩ := LM.out.cells.2 0 _ rfl
         obtain ⟨zc1, zf1⟩ := LM.out.cells.2 1 _ rfl
         obtain ⟨zc2, zf2⟩ := LM.out.cells.2 2 _ rfl
         obtain ⟨zc3, zf3⟩ := LM.out.cells.2 3 _ rfl
         obtain ⟨zc4, zf4⟩ := LM.out.cells.2 4 _ rfl
         obtain ⟨zc5, zf5⟩ := LM.out.cells.2 5 _ rfl
         obtain ⟨zc6, zf6⟩ := LM.out.cells.2 6 _ rfl
         obtain ⟨zc7, zf7⟩ := LM.out.cells.2 7 _ rfl
         obtain ⟨zc8, zf8⟩ := LM.out.cells.2 8 _ rfl
         obtain ⟨zc9, zf9⟩ := LM.out.cells.2 9 _ rfl
         obtain ⟨zc10, zf10⟩ := LM.out.cells.2 10 _ rfl
         obtain ⟨zc11, zf11⟩ := LM.out.cells.2 11 _ rfl
         go_wp2
         change bodyPost _ _ _ _ _ (LineZ w y d (.slice pf nf cf) (.slice pq mq cq))
         refine bodyPost_ret (res_dev2 Tryz.results33 rfl rfl LM.out.res) rfl ?_
         exact LM.out.quit st.out _ rfl
theorem line_esc (a : List Wd) (d : Dv) (pf : Option Addr) (nf cf : Nat) (pq : Option Addr) (mq cq : Nat) (g o cap : Nat) (w : World) (hi : StrsIn w g o (kEsc :: a)) (hgw : g < w.heap.size) (hl : (a.length : Int) ≤ 5000) (hz : ∀ z ∈ a, (z.length : Int) ≤ 5000) (ps : Option Addr) (cs : Nat) (seen : List Wd) (hs : StrsAt w (.slice ps seen.length cs) seen) (hsl : (seen.length : Int) ≤ 5000) (hfl : FldsAt w (.slice pf nf cf) d.fs) (hrq : BytesAt w (.slice pq mq cq) d.rq) :
 Calls Tryz.prog 33 #[dvV d (.slice pf nf cf) (.slice pq mq cq), .slice (some ⟨g, o, none⟩) (a.length + 1) cap, .slice ps seen.length cs] w (LineQ w d (.slice pf nf cf) (.slice pq mq cq) seen (kEsc :: a)) := by
 have m0 := lineM_first w d (.slice pf nf cf) (.slice pq mq cq)
 have n0 : ((a.length : Int) + 1 == 0) = false := beq_eq_false_iff_ne.2 (by omega)
 have FQ0 : Hid (FldsAt w (.slice pf nf cf) d.fs ∧ BytesAt w (.slice pq mq cq) d.rq) := ⟨hfl, hrq⟩
 have wi : Hid (StrsIn w g o (kEsc :: a)) := hi
 replace hs : Hid (StrsAt w (.slice ps seen.length cs) seen) := hs
 replace hz : Hid (∀ z ∈ a, (z.length : Int) ≤ 5000) := hz
 obtain ⟨sl, hsl2⟩ : ∃ sl, seen.length = sl := ⟨_, rfl⟩
 rw [hsl2] at hs hsl ⊢
 replace hsl2 : Hid (seen.length = sl) := hsl2
 clear hfl hrq hi
 go_enter Tryz.func33, Tryz.ntmps33
 go_upto_region 5 with fail
 change Code.wp Tryz.prog _ _ _ (LineW w d (.slice pf nf cf) (.slice pq mq cq))
 have LM0 : Hid (LineM w (LineW w d (.slice pf nf cf) (.slice pq mq cq)) d (.slice pf nf cf) (.slice pq mq cq)) := m0.1
 have lc0 : Hid (∀ (i : Nat) (h : i < 11), (LineW w d (.slice pf nf cf) (.slice pq mq cq)).cell? ⟨w.heap.size + 1 + 1, i, none⟩ = some (.string (txt (allK[i]'h)))) := fun i h => (rd_cell m0.2 i).1.trans (allC_at i h)
 have hc0 : (LineW w d (.slice pf nf cf) (.slice pq mq cq)).cell? ⟨g, o, none⟩ = some (.string ⟨#[101, 115, 99, 97, 112, 101]⟩) := kp m0.1.b (wi.out 0 (by simp))
 clear m0
 generalize LineW w d (.slice pf nf cf) (.slice pq mq cq) = x0 at *
 go_wp2
 go_loopw [8, 10] (fun vk vi wr => ∃ n k : Nat, (k : Int) ≤ 11 ∧ wr = x0.drewN n ∧ vi = .int .i64 (k : Int) ∧ vk = .bool (decide (kEsc ∈ allK.take k))) (fun vk vi wr => (11 - intOf vi).toNat)
 case atStart => exact ⟨0, 0, by omega, rfl, rfl, by simp⟩
 case round =>
  obtain ⟨n, k, hk11, rfl, rfl, rfl⟩ := hrel
  by_cases hlt : k < 11
  · have hki : (k : Int) < 11 := by omega
    have st := allK_step kEsc k hlt
    have l1 := lc0.out k hlt
    have wk : IntKind.i64.wrap ((k : Int) + 1) = (k : Int) + 1 := by simp only [IntKind.wrap_i64]; omega
    have cmp : (txt (allK[k]'hlt) == ⟨#[101, 115, 99, 97, 112, 101]⟩) = decide (allK[k]'hlt = kEsc) := txt_beq _ kEsc
    generalize allK[k]'hlt = ak at *
    clear lc0 LM0
    cases hd : decide (kEsc ∈ allK.take k)
    · rw [hd, Bool.false_or] at st
      have c2 : ((txt ak).toList == [101, 115, 99, 97, 112, 101]) = decide (ak = kEsc) := by
       rw [Bool.eq_iff_iff, decide_eq_true_iff, beq_iff_eq, ByteArray.toList_eq]
       exact ⟨fun h => h, fun h => by rw [h]; rfl⟩
      generalize decide (ak = kEsc) = R at *
      go_wp2_with fail
      go_quiet (fail)
      go_wp2
      exact ⟨⟨n + nq, k + 1, by omega, rfl, by simp, by rw [st]⟩, by simp [intOf]; omega⟩
    · rw [hd, Bool.true_or] at st
      go_wp2_with fail
      go_quiet (fail)
      go_wp2
      exact ⟨⟨n + nq, k + 1, by omega, rfl, by simp, by rw [st]⟩, by simp [intOf]; omega⟩
  · obtain rfl : k = 11 := by omega
    rw [allK_mem, show knownB kEsc = true from rfl]
    clear lc0
    go_wp2
    go_loopw [11] (fun vi wr => ∃ n k : Nat, (k : Int) ≤ (sl : Int) ∧ wr = x0.drewN n ∧ vi = .int .i64 (k : Int) ∧ Hid (∀ j (h : j < seen.length), j < k → ¬ seen[j] = kEsc)) (fun vi wr => ((sl : Int) - intOf vi).toNat)
    case atStart => exact ⟨n, 0, by omega, rfl, rfl, fun j _ h => (by cases h)⟩
    case round =>
     obtain ⟨n, k, hk, rfl, rfl, no⟩ := hrel
     by_cases hlt : k < sl
     · have hki : (k : Int) < (sl : Int) := by omega
       have hks : k < seen.length := by have := hsl2.out; omega
       rcases hs.out with ⟨_, hnil⟩ | ⟨gs, os, cs', e1, hin, hgs⟩
       · rw [hnil] at hks; cases hks
       injection e1 with e1 e2 e3
       subst e1
       subst e3
       clear e2
       have l1 := kp LM0.out.b (hin k hks)
       have wk : IntKind.i64.wrap ((k : Int) + 1) = (k : Int) + 1 := by simp only [IntKind.wrap_i64]; omega
       obtain ⟨ak, hak⟩ : ∃ ak, seen[k] = ak := ⟨_, rfl⟩
       rw [hak] at l1
       have cmp : (txt ak == ⟨#[101, 115, 99, 97, 112, 101]⟩) = decide (ak = kEsc) := txt_beq _ kEsc
       have c2 : ((txt ak).toList == [101, 115, 99, 97, 112, 101]) = decide (ak = kEsc) := by
        rw [Bool.eq_iff_iff, decide_eq_true_iff, beq_iff_eq, ByteArray.toList_eq]
        exact ⟨fun h => h, fun h => by rw [h]; rfl⟩
       cases hd : decide (ak = kEsc)
       · rw [hd] at cmp c2
         have no2 : Hid (∀ j (h : j < seen.length), j < k + 1 → ¬ seen[j] = kEsc) := fun j h hj => by
          by_cases hjk : j = k
          · subst hjk; rw [hak]; simpa using hd
          · exact no.out j h (by omega)
         clear hin hak no hd LM0
         go_wp2_with fail
         go_quiet (fail)
         go_wp2
         exact ⟨⟨n + nq, k + 1, by omega, rfl, by simp, no2⟩, by simp [intOf]; omega⟩
       · rw [hd] at cmp c2
         have e8 : Hid (stepM d seen (kEsc :: a) = .error 8) := by
          have hm : kEsc ∈ seen := by
           have : ak = kEsc := by simpa using hd
           rw [← this, ← hak]; exact List.getElem_mem hks
          unfold Hid stepM
          simp only [show knownB kEsc = true from rfl]
          rw [if_neg (by decide), if_pos ⟨by decide, hm⟩]
         clear hin hak no hd
         go_wp2_with fail
         go_quiet (fail)
         go_upto_region 15 with fail
         have LM : Hid (LineM w ((x0.drewN n).drewN nq) d (.slice pf nf cf) (.slice pq mq cq)) := LM0.out.below (below_drewN (below_drewN (Below.refl _ _) _) _)
         generalize (x0.drewN n).drewN nq = y at *
         obtain ⟨dc0, df0⟩ := LM.out.cells.1 0 _ rfl
         obtain ⟨dc1, df1⟩ := LM.out.cells.1 1 _ rfl
         obtain ⟨dc2, df2⟩ := LM.out.cells.1 2 _ rfl
         obtain ⟨dc3, df3⟩ := LM.out.cells.1 3 _ rfl
         obtain ⟨dc4, df4⟩ := LM.out.cells.1 4 _ rfl
         obtain ⟨dc5, df5⟩ := LM.out.cells.1 5 _ rfl
         obtain ⟨dc6, df6⟩ := LM.out.cells.1 6 _ rfl
         obtain ⟨dc7, df7⟩ := LM.out.cells.1 7 _ rfl
         obtain ⟨dc8, df8⟩ := LM.out.cells.1 8 _ rfl
         obtain ⟨dc9, df9⟩ := LM.out.cells.1 9 _ rfl
         obtain ⟨dc10, df10⟩ := LM.out.cells.1 10 _ rfl
         obtain ⟨dc11, df11⟩ := LM.out.cells.1 11 _ rfl
         obtain ⟨zc0, zf0⟩ := LM.out.cells.2 0 _ rfl
         obtain ⟨zc1, zf1⟩ := LM.out.cells.2 1 _ rfl
         obtain ⟨zc2, zf2⟩ := LM.out.cells.2 2 _ rfl
         obtain ⟨zc3, zf3⟩ := LM.out.cells.2 3 _ rfl
         obtain ⟨zc4, zf4⟩ := LM.out.cells.2 4 _ rfl
         obtain ⟨zc5, zf5⟩ := LM.out.cells.2 5 _ rfl
         obtain ⟨zc6, zf6⟩ := LM.out.cells.2 6 _ rfl
         obtain ⟨zc7, zf7⟩ := LM.out.cells.2 7 _ rfl
         obtain ⟨zc8, zf8⟩ := LM.out.cells.2 8 _ rfl
         obtain ⟨zc9, zf9⟩ := LM.out.cells.2 9 _ rfl
         obtain ⟨zc10, zf10⟩ := LM.out.cells.2 10 _ rfl
         obtain ⟨zc11, zf11⟩ := LM.out.cells.2 11 _ rfl
         clear LM0
         go_wp2
         change bodyPost _ _ _ _ _ (putD y (w.heap.size + 1) d (.slice pf nf cf) (.slice pq mq cq))
         have pa := putD_at (y := y) LM.out.rc d (.slice pf nf cf) (.slice pq mq cq)
         have pb := putD_below LM.out.b (show w.heap.size ≤ w.heap.size + 1 by omega) d (.slice pf nf cf) (.slice pq mq cq)
         generalize putD y (w.heap.size + 1) d (.slice pf nf cf) (.slice pq mq cq) = yy at *
         refine bodyPost_ret (res_dev2 Tryz.results33 rfl rfl pa) rfl ?_
         exact ⟨d, pf, nf, cf, pq, mq, cq, by rw [e8.out]; rfl, pb, fun d' hd => by rw [e8.out] at hd; cases hd⟩
     · obtain rfl : k = sl := by omega
       have hns : ¬ kEsc ∈ seen := fun hm => by
        obtain ⟨j, hj, hj2⟩ := List.mem_iff_getElem.1 hm
        exact no.out j hj (by have := hsl2.out; omega) hj2
       have st : Hid (stepM d seen (kEsc :: a) = match updM kEsc a with | none => .error 6 | some u => .ok (u d)) := step_nf rfl (by decide) hns
       have LM : Hid (LineM w (x0.drewN n) d (.slice pf nf cf) (.slice pq mq cq)) := LM0.out.below (below_drewN (Below.refl _ _) _)
       have hcy : (x0.drewN n).cell? ⟨g, o, none⟩ = some (.string ⟨#[101, 115, 99, 97, 112, 101]⟩) := hc0
       generalize x0.drewN n = y at *
       clear LM0 no hns hc0
       by_cases h1 : a.length = 2
       · obtain ⟨z, t, rfl⟩ := len_two h1
         have hc1 : y.cell? ⟨g, o + 1, none⟩ = some (.string (txt z)) := kp LM.out.b (wi.out 1 (by simp))
         have hc2 : y.cell? ⟨g, o + 2, none⟩ = some (.string (txt t)) := kp LM.out.b (wi.out 2 (by simp))
         have fo1 : Hid (∀ w, Calls Tryz.prog 67 #[.string (txt z)] w fun e w' => e = .returned (.int .i64 (octI z)) ∧ Below w.heap.size w w') := fun w => roct_any (txt z) w (by rw [txt_size]; have := hz.out z (by simp); omega)
         have fo2 : Hid (∀ w, Calls Tryz.prog 67 #[.string (txt t)] w fun e w' => e = .returned (.int .i64 (octI t)) ∧ Below w.heap.size w w') := fun w => roct_any (txt t) w (by rw [txt_size]; have := hz.out t (by simp); omega)
         have hm : updM kEsc [z, t] = (octO z).bind fun (b : Nat) => Option.map (fun (c : Nat) (d : Dv) => { d with es := (b : Int), mx := (c : Int) }) (octO t) := rfl
         rw [hm] at st
         cases hO : octO z with
         | none =>
          have eO : octI z = -1 := by unfold octI; rw [hO]
          rw [eO] at fo1
          rw [hO] at st
          replace st : Hid (stepM d seen [kEsc, z, t] = .error 6) := st
          go_wp2_with fail
          refine (fo1.out _).mono ?_
          clear fo1 fo2
          rintro e yA ⟨rfl, hb⟩
          replace LM : Hid (LineM w yA d (.slice pf nf cf) (.slice pq mq cq)) := LM.out.below hb
          replace hcy : yA.cell? ⟨g, o, none⟩ = some (.string ⟨#[101, 115, 99, 97, 112, 101]⟩) := kp hb hcy
          replace hc1 : yA.cell? ⟨g, o + 1, none⟩ = some (.string (txt z)) := kp hb hc1
          replace hc2 : yA.cell? ⟨g, o + 2, none⟩ = some (.string (txt t)) := kp hb hc2
          clear hb
          obtain ⟨dc0, df0⟩ := LM.out.cells.1 0 _ rfl
          obtain ⟨dc1, df1⟩ := LM.out.cells.1 1 _ rfl
          obtain ⟨dc2, df2⟩ := LM.out.cells.1 2 _ rfl
          obtain ⟨dc3, df3⟩ := LM.out.cells.1 3 _ rfl
          obtain ⟨dc4, df4⟩ := LM.out.cells.1 4 _ rfl
          obtain ⟨dc5, df5⟩ := LM.out.cells.1 5 _ rfl
          obtain ⟨dc6, df6⟩ := LM.out.cells.1 6 _ rfl
          obtain ⟨dc7, df7⟩ := LM.out.cells.1 7 _ rfl
          obtain ⟨dc8, df8⟩ := LM.out.cells.1 8 _ rfl
          obtain ⟨dc9, df9⟩ := LM.out.cells.1 9 _ rfl
          obtain ⟨dc10, df10⟩ := LM.out.cells.1 10 _ rfl
          obtain ⟨dc11, df11⟩ := LM.out.cells.1 11 _ rfl
          obtain ⟨zc0, zf0⟩ := LM.out.cells.2 0 _ rfl
          obtain ⟨zc1, zf1⟩ := LM.out.cells.2 1 _ rfl
          obtain ⟨zc2, zf2⟩ := LM.out.cells.2 2 _ rfl
          obtain ⟨zc3, zf3⟩ := LM.out.cells.2 3 _ rfl
          obtain ⟨zc4, zf4⟩ := LM.out.cells.2 4 _ rfl
          obtain ⟨zc5, zf5⟩ := LM.out.cells.2 5 _ rfl
          obtain ⟨zc6, zf6⟩ := LM.out.cells.2 6 _ rfl
          obtain ⟨zc7, zf7⟩ := LM.out.cells.2 7 _ rfl
          obtain ⟨zc8, zf8⟩ := LM.out.cells.2 8 _ rfl
          obtain ⟨zc9, zf9⟩ := LM.out.cells.2 9 _ rfl
          obtain ⟨zc10, zf10⟩ := LM.out.cells.2 10 _ rfl
          obtain ⟨zc11, zf11⟩ := LM.out.cells.2 11 _ rfl
          go_wp2
          change bodyPost _ _ _ _ _ (LineZ w yA d (.slice pf nf cf) (.slice pq mq cq))
          refine bodyPost_ret (res_dev2 Tryz.results33 rfl rfl LM.out.res) rfl ?_
          exact LM.out.quit st.out _ rfl
         | some b =>
          have eO : octI z = (b : Int) := by unfold octI; rw [hO]
          have nb : decide ((b : Int) < 0) = false := decide_eq_false (by omega)
          rw [eO] at fo1
          rw [hO] at st
          go_wp2_with fail
          refine (fo1.out _).mono ?_
          rintro e yA ⟨rfl, hb⟩
          replace LM : Hid (LineM w yA d (.slice pf nf cf) (.slice pq mq cq)) := LM.out.below hb
          replace hcy : yA.cell? ⟨g, o, none⟩ = some (.string ⟨#[101, 115, 99, 97, 112, 101]⟩) := kp hb hcy
          replace hc1 : yA.cell? ⟨g, o + 1, none⟩ = some (.string (txt z)) := kp hb hc1
          replace hc2 : yA.cell? ⟨g, o + 2, none⟩ = some (.string (txt t)) := kp hb hc2
          clear hb
          cases hP : octO t with
          | none =>
           have eP : octI t = -1 := by unfold octI; rw [hP]
           rw [eP] at fo2
           rw [hP] at st
           replace st : Hid (stepM d seen [kEsc, z, t] = .error 6) := st
           go_wp2_with fail
           refine (fo2.out _).mono ?_
           clear fo1 fo2
           rintro e yB ⟨rfl, hb⟩
           replace LM : Hid (LineM w yB d (.slice pf nf cf) (.slice pq mq cq)) := LM.out.below hb
           replace hcy : yB.cell? ⟨g, o, none⟩ = some (.string ⟨#[101, 115, 99, 97, 112, 101]⟩) := kp hb hcy
           replace hc1 : yB.cell? ⟨g, o + 1, none⟩ = some (.string (txt z)) := kp hb hc1
           replace hc2 : yB.cell? ⟨g, o + 2, none⟩ = some (.string (txt t)) := kp hb hc2
           clear hb
           obtain ⟨dc0, df0⟩ := LM.out.cells.1 0 _ rfl
           obtain ⟨dc1, df1⟩ := LM.out.cells.1 1 _ rfl
           obtain ⟨dc2, df2⟩ := LM.out.cells.1 2 _ rfl
           obtain ⟨dc3, df3⟩ := LM.out.cells.1 3 _ rfl
           obtain ⟨dc4, df4⟩ := LM.out.cells.1 4 _ rfl
           obtain ⟨dc5, df5⟩ := LM.out.cells.1 5 _ rfl
           obtain ⟨dc6, df6⟩ := LM.out.cells.1 6 _ rfl
           obtain ⟨dc7, df7⟩ := LM.out.cells.1 7 _ rfl
           obtain ⟨dc8, df8⟩ := LM.out.cells.1 8 _ rfl
           obtain ⟨dc9, df9⟩ := LM.out.cells.1 9 _ rfl
           obtain ⟨dc10, df10⟩ := LM.out.cells.1 10 _ rfl
           obtain ⟨dc11, df11⟩ := LM.out.cells.1 11 _ rfl
           obtain ⟨zc0, zf0⟩ := LM.out.cells.2 0 _ rfl
           obtain ⟨zc1, zf1⟩ := LM.out.cells.2 1 _ rfl
           obtain ⟨zc2, zf2⟩ := LM.out.cells.2 2 _ rfl
           obtain ⟨zc3, zf3⟩ := LM.out.cells.2 3 _ rfl
           obtain ⟨zc4, zf4⟩ := LM.out.cells.2 4 _ rfl
           obtain ⟨zc5, zf5⟩ := LM.out.cells.2 5 _ rfl
           obtain ⟨zc6, zf6⟩ := LM.out.cells.2 6 _ rfl
           obtain ⟨zc7, zf7⟩ := LM.out.cells.2 7 _ rfl
           obtain ⟨zc8, zf8⟩ := LM.out.cells.2 8 _ rfl
           obtain ⟨zc9, zf9⟩ := LM.out.cells.2 9 _ rfl
           obtain ⟨zc10, zf10⟩ := LM.out.cells.2 10 _ rfl
           obtain ⟨zc11, zf11⟩ := LM.out.cells.2 11 _ rfl
           go_wp2
           change bodyPost _ _ _ _ _ (LineZ w yB d (.slice pf nf cf) (.slice pq mq cq))
           refine bodyPost_ret (res_dev2 Tryz.results33 rfl rfl LM.out.res) rfl ?_
           exact LM.out.quit st.out _ rfl
          | some c =>
           have eP : octI t = (c : Int) := by unfold octI; rw [hP]
           have nc : decide ((c : Int) < 0) = false := decide_eq_false (by omega)
           rw [eP] at fo2
           rw [hP] at st
           replace st : Hid (stepM d seen [kEsc, z, t] = .ok { d with es := (b : Int), mx := (c : Int) }) := st
           go_wp2_with fail
           refine (fo2.out _).mono ?_
           rintro e yB ⟨rfl, hb⟩
           replace LM : Hid (LineM w yB d (.slice pf nf cf) (.slice pq mq cq)) := LM.out.below hb
           replace hcy : yB.cell? ⟨g, o, none⟩ = some (.string ⟨#[101, 115, 99, 97, 112, 101]⟩) := kp hb hcy
           replace hc1 : yB.cell? ⟨g, o + 1, none⟩ = some (.string (txt z)) := kp hb hc1
           replace hc2 : yB.cell? ⟨g, o + 2, none⟩ = some (.string (txt t)) := kp hb hc2
           clear hb
           go_wp2_with fail
           refine (fo1.out _).mono ?_
           rintro e yC ⟨rfl, hb⟩
           replace LM : Hid (LineM w yC d (.slice pf nf cf) (.slice pq mq cq)) := LM.out.below hb
           replace hcy : yC.cell? ⟨g, o, none⟩ = some (.string ⟨#[101, 115, 99, 97, 112, 101]⟩) := kp hb hcy
           replace hc1 : yC.cell? ⟨g, o + 1, none⟩ = some (.string (txt z)) := kp hb hc1
           replace hc2 : yC.cell? ⟨g, o + 2, none⟩ = some (.string (txt t)) := kp hb hc2
           clear hb
           obtain ⟨dc0, df0⟩ := LM.out.cells.1 0 _ rfl
           obtain ⟨dc1, df1⟩ := LM.out.cells.1 1 _ rfl
           obtain ⟨dc2, df2⟩ := LM.out.cells.1 2 _ rfl
           obtain ⟨dc3, df3⟩ := LM.out.cells.1 3 _ rfl
           obtain ⟨dc4, df4⟩ := LM.out.cells.1 4 _ rfl
           obtain ⟨dc5, df5⟩ := LM.out.cells.1 5 _ rfl
           obtain ⟨dc6, df6⟩ := LM.out.cells.1 6 _ rfl
           obtain ⟨dc7, df7⟩ := LM.out.cells.1 7 _ rfl
           obtain ⟨dc8, df8⟩ := LM.out.cells.1 8 _ rfl
           obtain ⟨dc9, df9⟩ := LM.out.cells.1 9 _ rfl
           obtain ⟨dc10, df10⟩ := LM.out.cells.1 10 _ rfl
           obtain ⟨dc11, df11⟩ := LM.out.cells.1 11 _ rfl
           obtain ⟨zc0, zf0⟩ := LM.out.cells.2 0 _ rfl
           obtain ⟨zc1, zf1⟩ := LM.out.cells.2 1 _ rfl
           obtain ⟨zc2, zf2⟩ := LM.out.cells.2 2 _ rfl
           obtain ⟨zc3, zf3⟩ := LM.out.cells.2 3 _ rfl
           obtain ⟨zc4, zf4⟩ := LM.out.cells.2 4 _ rfl
           obtain ⟨zc5, zf5⟩ := LM.out.cells.2 5 _ rfl
           obtain ⟨zc6, zf6⟩ := LM.out.cells.2 6 _ rfl
           obtain ⟨zc7, zf7⟩ := LM.out.cells.2 7 _ rfl
           obtain ⟨zc8, zf8⟩ := LM.out.cells.2 8 _ rfl
           obtain ⟨zc9, zf9⟩ := LM.out.cells.2 9 _ rfl
           obtain ⟨zc10, zf10⟩ := LM.out.cells.2 10 _ rfl
           obtain ⟨zc11, zf11⟩ := LM.out.cells.2 11 _ rfl
           go_wp2_with fail
           replace LM : Hid (LineM w (yC.setCell ⟨w.heap.size, 2, none⟩ (.int .i64 (b : Int))) { d with es := (b : Int) } (.slice pf nf cf) (.slice pq mq cq)) := LM.out.set 2 (.int .i64 (b : Int)) rfl
           have hne : g ≠ w.heap.size := by omega
           replace hcy : (yC.setCell ⟨w.heap.size, 2, none⟩ (.int .i64 (b : Int))).cell? ⟨g, o, none⟩ = some (.string ⟨#[101, 115, 99, 97, 112, 101]⟩) := (World.cell?_of_block (a := ⟨g, o, none⟩) (Below.heap_setCell _ _ _ _ hne)).trans hcy
           replace hc1 : (yC.setCell ⟨w.heap.size, 2, none⟩ (.int .i64 (b : Int))).cell? ⟨g, o + 1, none⟩ = some (.string (txt z)) := (World.cell?_of_block (a := ⟨g, o + 1, none⟩) (Below.heap_setCell _ _ _ _ hne)).trans hc1
           replace hc2 : (yC.setCell ⟨w.heap.size, 2, none⟩ (.int .i64 (b : Int))).cell? ⟨g, o + 2, none⟩ = some (.string (txt t)) := (World.cell?_of_block (a := ⟨g, o + 2, none⟩) (Below.heap_setCell _ _ _ _ hne)).trans hc2
           clear dc0 dc1 dc2 dc3 dc4 dc5 dc6 dc7 dc8 dc9 dc10 dc11 df0 df1 df2 df3 df4 df5 df6 df7 df8 df9 df10 df11 zc0 zc1 zc2 zc3 zc4 zc5 zc6 zc7 zc8 zc9 zc10 zc11 zf0 zf1 zf2 zf3 zf4 zf5 zf6 zf7 zf8 zf9 zf10 zf11
           generalize yC.setCell ⟨w.heap.size, 2, none⟩ (.int .i64 (b : Int)) = yD at *
           refine (fo2.out _).mono ?_
           rintro e yE ⟨rfl, hb⟩
           replace LM : Hid (LineM w yE { d with es := (b : Int) } (.slice pf nf cf) (.slice pq mq cq)) := LM.out.below hb
           replace hcy : yE.cell? ⟨g, o, none⟩ = some (.string ⟨#[101, 115, 99, 97, 112, 101]⟩) := kp hb hcy
           replace hc1 : yE.cell? ⟨g, o + 1, none⟩ = some (.string (txt z)) := kp hb hc1
           replace hc2 : yE.cell? ⟨g, o + 2, none⟩ = some (.string (txt t)) := kp hb hc2
           clear hb
           obtain ⟨dc0, df0⟩ := LM.out.cells.1 0 _ rfl
           obtain ⟨dc1, df1⟩ := LM.out.cells.1 1 _ rfl
           obtain ⟨dc2, df2⟩ := LM.out.cells.1 2 _ rfl
           obtain ⟨dc3, df3⟩ := LM.out.cells.1 3 _ rfl
           obtain ⟨dc4, df4⟩ := LM.out.cells.1 4 _ rfl
           obtain ⟨dc5, df5⟩ := LM.out.cells.1 5 _ rfl
           obtain ⟨dc6, df6⟩ := LM.out.cells.1 6 _ rfl
           obtain ⟨dc7, df7⟩ := LM.out.cells.1 7 _ rfl
           obtain ⟨dc8, df8⟩ := LM.out.cells.1 8 _ rfl
           obtain ⟨dc9, df9⟩ := LM.out.cells.1 9 _ rfl
           obtain ⟨dc10, df10⟩ := LM.out.cells.1 10 _ rfl
           obtain ⟨dc11, df11⟩ := LM.out.cells.1 11 _ rfl
           obtain ⟨zc0, zf0⟩ := LM.out.cells.2 0 _ rfl
           obtain ⟨zc1, zf1⟩ := LM.out.cells.2 1 _ rfl
           obtain ⟨zc2, zf2⟩ := LM.out.cells.2 2 _ rfl
           obtain ⟨zc3, zf3⟩ := LM.out.cells.2 3 _ rfl
           obtain ⟨zc4, zf4⟩ := LM.out.cells.2 4 _ rfl
           obtain ⟨zc5, zf5⟩ := LM.out.cells.2 5 _ rfl
           obtain ⟨zc6, zf6⟩ := LM.out.cells.2 6 _ rfl
           obtain ⟨zc7, zf7⟩ := LM.out.cells.2 7 _ rfl
           obtain ⟨zc8, zf8⟩ := LM.out.cells.2 8 _ rfl
           obtain ⟨zc9, zf9⟩ := LM.out.cells.2 9 _ rfl
           obtain ⟨zc10, zf10⟩ := LM.out.cells.2 10 _ rfl
           obtain ⟨zc11, zf11⟩ := LM.out.cells.2 11 _ rfl
           replace LM : Hid (LineM w (yE.setCell ⟨w.heap.size, 3, none⟩ (.int .i64 (c : Int))) { d with es := (b : Int), mx := (c : Int) } (.slice pf nf cf) (.slice pq mq cq)) := LM.out.set 3 (.int .i64 (c : Int)) rfl
           go_wp2
           change bodyPost _ _ _ _ _ (LineZ w (yE.setCell ⟨w.heap.size, 3, none⟩ (.int .i64 (c : Int))) { d with es := (b : Int), mx := (c : Int) } (.slice pf nf cf) (.slice pq mq cq))
           refine bodyPost_ret (res_dev2 Tryz.results33 rfl rfl LM.out.res) rfl ?_
           exact LM.out.done st.out (LM.out.old FQ0.out).1 (LM.out.old FQ0.out).2 (.inl rfl) (.inl rfl)
       · have n2 : ((a.length : Int) + 1 != 3) = true := bne_iff_ne.2 (by omega)
         have hm : updM kEsc a = none := mEsc_len h1
         rw [hm] at st
         replace st : Hid (stepM d seen (kEsc :: a) = .error 6) := st
         obtain ⟨dc0, df0⟩ := LM.out.cells.1 0 _ rfl
         obtain ⟨dc1, df1⟩ := LM.out.cells.1 1 _ rfl
         obtain ⟨dc2, df2⟩ := LM.out.cells.1 2 _ rfl
         obtain ⟨dc3, df3⟩ := LM.out.cells.1 3 _ rfl
         obtain ⟨dc4, df4⟩ := LM.out.cells.1 4 _ rfl
         obtain ⟨dc5, df5⟩ := LM.out.cells.1 5 _ rfl
         obtain ⟨dc6, df6⟩ := LM.out.cells.1 6 _ rfl
         obtain ⟨dc7, df7⟩ := LM.out.cells.1 7 _ rfl
         obtain ⟨dc8, df8⟩ := LM.out.cells.1 8 _ rfl
         obtain ⟨dc9, df9⟩ := LM.out.cells.1 9 _ rfl
         obtain ⟨dc10, df10⟩ := LM.out.cells.1 10 _ rfl
         obtain ⟨dc11, df11⟩ := LM.out.cells.1 11 _ rfl
         obtain ⟨zc0, zf0⟩ := LM.out.cells.2 0 _ rfl
         obtain ⟨zc1, zf1⟩ := LM.out.cells.2 1 _ rfl
         obtain ⟨zc2, zf2⟩ := LM.out.cells.2 2 _ rfl
         obtain ⟨zc3, zf3⟩ := LM.out.cells.2 3 _ rfl
         obtain ⟨zc4, zf4⟩ := LM.out.cells.2 4 _ rfl
         obtain ⟨zc5, zf5⟩ := LM.out.cells.2 5 _ rfl
         obtain ⟨zc6, zf6⟩ := LM.out.cells.2 6 _ rfl
         obtain ⟨zc7, zf7⟩ := LM.out.cells.2 7 _ rfl
         obtain ⟨zc8, zf8⟩ := LM.out.cells.2 8 _ rfl
         obtain ⟨zc9, zf9⟩ := LM.out.cells.2 9 _ rfl
         obtain ⟨zc10, zf10⟩ := LM.out.cells.2 10 _ rfl
         obtain ⟨zc11, zf11⟩ := LM.out.cells.2 11 _ rfl
         go_wp2
         change bodyPost _ _ _ _ _ (LineZ w y d (.slice pf nf cf) (.slice pq mq cq))
         refine bodyPost_ret (res_dev2 Tryz.results33 rfl rfl LM.out.res) rfl ?_
         exact LM.out.quit st.out _ rfl
end Go.Proofs.YthabffjgdhfbmaaGreatDoor
