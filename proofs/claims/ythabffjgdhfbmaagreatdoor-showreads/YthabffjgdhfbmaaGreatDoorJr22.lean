/-
  Texts that belong together, one behind the other: SnRc, SnLr, ShRds0, ShRdsE, ShRdsR, ShRdsC, ShRdsD, ShRds, DsLineU. Conditions: as each says.
-/
import Derived.ChangeOld
import Derived.Deep.AppendLies
import Derived.Deep.CutRange
import Derived.Deep.RegionHeld3
import Derived.Deep.SlicePairs
import Derived.Deep.Strs
import Derived.Laws.BitsAllLaws
import Derived.Laws.OwnMore
import Derived.Laws.Shifts
import Derived.Lib.QuietBelowIn
import Derived.OpenShut
import Derived.ProofKit
import Derived.RangeFuncCalls
import Derived.ShutString
import Derived.Sort.BigQuietIn
import Derived.Test.YthabffjgdhfbmaaGreatDoorProg
import Derived.Test.YthabffjgdhfbmaaGreatDoorJr1
import Derived.Test.YthabffjgdhfbmaaGreatDoorJr2
import Derived.Test.YthabffjgdhfbmaaGreatDoorJr3
import Derived.Test.YthabffjgdhfbmaaGreatDoorJr4
import Derived.Test.YthabffjgdhfbmaaGreatDoorJr5
import Derived.Test.YthabffjgdhfbmaaGreatDoorJr6
import Derived.Test.YthabffjgdhfbmaaGreatDoorJr7
import Derived.Test.YthabffjgdhfbmaaGreatDoorJr8
import Derived.Test.YthabffjgdhfbmaaGreatDoorJr9
import Derived.Test.YthabffjgdhfbmaaGreatDoorJr10
import Derived.Test.YthabffjgdhfbmaaGreatDoorJr11
import Derived.Test.YthabffjgdhfbmaaGreatDoorJr12
import Derived.Test.YthabffjgdhfbmaaGreatDoorJr13
import Derived.Test.YthabffjgdhfbmaaGreatDoorJr14
import Derived.Test.YthabffjgdhfbmaaGreatDoorJr15
import Derived.Test.YthabffjgdhfbmaaGreatDoorJr16
import Derived.Test.YthabffjgdhfbmaaGreatDoorJr17
import Derived.Test.YthabffjgdhfbmaaGreatDoorJr18
import Derived.Test.YthabffjgdhfbmaaGreatDoorJr19
import Derived.Test.YthabffjgdhfbmaaGreatDoorJr20
import Derived.Test.YthabffjgdhfbmaaGreatDoorJr21
set_option maxRecDepth 100000
set_option maxHeartbeats 32000000
set_option linter.unusedVariables false
namespace Go.Proofs.YthabffjgdhfbmaaGreatDoor
open Go.RowKit
structure RcI (w wr : World) (d : Dv) (fv qv : Value) : Prop where
 d : DevB wr w.heap.size d fv qv
 b : Below w.heap.size w wr
theorem RcI.below {w x y : World} {d : Dv} {fv qv : Value} (h : RcI w x d fv qv) (k : Below x.heap.size x y) : RcI w y d fv qv := ⟨h.d.below k, h.b.trans (k.mono h.b.size)⟩
theorem rof_any (s : ByteArray) (w : World) : Calls Tryz.prog 26 #[.string s, .slice none 0 0] w fun e w' => ∃ p n c, e = .returned (.tuple #[.slice p n c, .bool (isSum s)]) ∧ (isSum s = true → n = sizeK (whichN s)) ∧ Below w.heap.size w w' := by
 have hv : BytesAt w (.slice none 0 0) [] := .inl ⟨rfl, rfl⟩
 rcases which_cases s with ⟨k, hk, e, hw⟩ | ⟨hw, hn⟩
 · rw [sum_yes hk hw, hw]
   rw [e]
   refine (rof_yes hk (.slice none 0 0) [] w hv (by simp) (fun c hc => by cases hc)).mono ?_
   rintro e y ⟨x, rfl, hx, hb⟩
   have hl := end_len hk []
   rcases hx with ⟨rfl, h0⟩ | ⟨g, o, cap, rfl, _⟩
   · exact ⟨_, _, _, rfl, fun _ => by rw [← hl, h0]; rfl, hb⟩
   · exact ⟨_, _, _, rfl, fun _ => hl, hb⟩
 · rw [sum_not hw]
   refine (rof_no s (.slice none 0 0) [] w hv (by simp) (fun c hc => by cases hc) hn).mono ?_
   rintro e y ⟨rfl, hb⟩
   exact ⟨_, _, _, rfl, fun h => (by cases h), hb⟩
def NoneIn (nm : Wd) (l : List Wd) : Prop := nm ∉ l
theorem none_next {nm : Wd} {fs : List Fd} {k : Nat} (hk : k < fs.length) (h : NoneIn nm ((fs.take k).map (·.nm))) (hn : ¬ fs[k].nm = nm) : NoneIn nm ((fs.take (k + 1)).map (·.nm)) := by
 unfold NoneIn at *
 rw [← List.take_append_getElem hk, List.map_append, List.mem_append]
 rintro (c | c)
 · exact h c
 · exact hn (by rw [List.map_cons, List.map_nil, List.mem_singleton] at c; exact c.symm)
theorem some_in {nm : Wd} {fs : List Fd} {k i : Nat} (hk : k < i) (hi : i ≤ fs.length) (hn : (fs[k]'(by omega)).nm = nm) : nm ∈ (fs.take i).map (·.nm) := by
 rw [← hn]
 refine List.mem_map_of_mem ?_
 have hk' : k < (fs.take i).length := by rw [List.length_take]; omega
 have e : (fs.take i)[k] = fs[k]'(by omega) := List.getElem_take
 rw [← e]
 exact List.getElem_mem hk'
theorem rck_c (d : Dv) (pf pq : Option Addr) (nf cf nq cq : Nat) (w : World) (hf : d.fs.length = nf) (hq : d.rq.length = nq) (hfv : FldsV w (.slice pf nf cf) d.fs) (hi : DvI d) (hn : nameB d.nm = true) (hN : gdN d = true) : Calls Tryz.prog 12 #[dvV d (.slice pf nf cf) (.slice pq nq cq)] w (QA w (ckE d)) := by
 have nc : Hid (∀ x, Calls Tryz.prog 25 #[.string (txt d.nm)] x fun e w' => e = .returned (.bool (nameB d.nm)) ∧ Below x.heap.size x w') := fun x => same_b (rname_any (txt d.nm) x)
 have D0 : Hid (DevB (w.alloc (.cells #[.string (txt d.nm), .int .i64 d.st, .int .i64 d.es, .int .i64 d.mx, .int .i64 d.sz, .string (txt d.sm), .slice pf nf cf, .slice pq nq cq, .int .i64 d.po, .int .i64 d.ti, .int .i64 d.re, .int .i64 d.ag] 25)) w.heap.size d (.slice pf nf cf) (.slice pq nq cq)) := DevB.new hfv _
 have B0 : Hid (Below w.heap.size w (w.alloc (.cells #[.string (txt d.nm), .int .i64 d.st, .int .i64 d.es, .int .i64 d.mx, .int .i64 d.sz, .string (txt d.sm), .slice pf nf cf, .slice pq nq cq, .int .i64 d.po, .int .i64 d.ti, .int .i64 d.re, .int .i64 d.ag] 25))) := (Below.refl _ _).alloc (Nat.le_refl _) _
 rw [hn] at nc
 have oc : Hid (∀ x, Calls Tryz.prog 26 #[.string (txt d.sm), .slice none 0 0] x fun e w' => ∃ p n c, e = .returned (.tuple #[.slice p n c, .bool (isSum (txt d.sm))]) ∧ (isSum (txt d.sm) = true → n = sizeK (whichN (txt d.sm))) ∧ Below x.heap.size x w') := fun x => rof_any (txt d.sm) x
 obtain ⟨T, hT⟩ : ∃ T, ckE d = T := ⟨_, rfl⟩
 rw [hT]
 replace hT : Hid (ckE d = T) := hT
 obtain ⟨⟨i1, i2⟩, ⟨i3, i4⟩, ⟨i5, i6⟩, ⟨i7, i8⟩, ⟨i9, i10⟩, ⟨i11, i12⟩, ⟨i13, i14⟩, ⟨i15, i16⟩, ⟨i17, i18⟩, i19, i20⟩ := gdN_iff.1 hN
 rw [hq] at i17 i18
 rw [hf] at i19 i20
 replace hn : Hid (nameB d.nm = true) := hn
 replace hN : Hid (gdN d = true) := hN
 replace hi : Hid (DvI d) := hi
 replace hf : Hid (d.fs.length = nf) := hf
 clear hq hfv
 obtain ⟨S, hS⟩ : ∃ S, isSum (txt d.sm) = S := ⟨_, rfl⟩
 rw [hS] at oc
 replace hS : Hid (isSum (txt d.sm) = S) := hS
 go_enter Tryz.func12, Tryz.ntmps12
 go_wp2_with fail
 refine (nc.out _).mono ?_
 rintro e y1 ⟨rfl, hb⟩
 have D1 : Hid (DevB y1 w.heap.size d (.slice pf nf cf) (.slice pq nq cq)) := D0.out.below hb
 have B1 : Hid (Below w.heap.size w y1) := B0.out.trans (hb.mono B0.out.size)
 clear hb D0 B0 nc
 obtain ⟨_, z1, z2, z3, z4, z5, z6, z7, z8, z9, z10, z11⟩ := D1.out.cells
 go_wp2_with fail
 refine (oc.out _).mono ?_
 rintro e y2 ⟨pO, nO, cO, rfl, _, hb⟩
 have I2 : Hid (RcI w y2 d (.slice pf nf cf) (.slice pq nq cq)) := ⟨D1.out.below hb, B1.out.trans (hb.mono B1.out.size)⟩
 clear hb D1 B1 oc z1 z2 z3 z4 z5 z6 z7 z8 z9 z10 z11
 cases S
 · have fin : Hid (4 = T) := ck_4 hT.out hn.out hN.out hS.out
   clear hT hn hN hS hi hf
   go_wp2
   go_ret
   exact ⟨ret_int fin.out, I2.out.b⟩
 obtain ⟨_, z1, z2, z3, z4, _, z6, _, z8, z9, _, z11⟩ := I2.out.d.cells
 have hC := gdC_doc hN.out
 by_cases c1 : d.st = d.es
 · have fin : Hid (10 = T) := ck_10 hT.out hn.out hN.out hS.out (by rw [hC, decide_eq_true c1]; rfl)
   have b1 : (d.st == d.es) = true := beq_iff_eq.2 c1
   clear hT hn hN hS hi hf hC c1
   go_wp2
   go_ret
   exact ⟨ret_int fin.out, I2.out.b⟩
 have b1 : (d.st == d.es) = false := beq_eq_false_iff_ne.2 c1
 by_cases c2 : d.mx = 0
 · have fin : Hid (10 = T) := ck_10 hT.out hn.out hN.out hS.out (by rw [hC, decide_eq_true c2]; simp)
   have b2 : (d.mx == 0) = true := beq_iff_eq.2 c2
   clear hT hn hN hS hi hf hC c1 c2
   go_wp2
   go_ret
   exact ⟨ret_int fin.out, I2.out.b⟩
 have b2 : (d.mx == 0) = false := beq_eq_false_iff_ne.2 c2
 by_cases c3 : bits .xor .i64 d.es d.mx = d.st
 · have fin : Hid (10 = T) := ck_10 hT.out hn.out hN.out hS.out (by rw [hC, decide_eq_true (show xorI d.es d.mx = d.st from c3)]; simp)
   have b3 : (bits .xor .i64 d.es d.mx == d.st) = true := beq_iff_eq.2 c3
   clear hT hn hN hS hi hf hC c1 c2 c3
   go_wp2
   go_ret
   exact ⟨ret_int fin.out, I2.out.b⟩
 have b3 : (bits .xor .i64 d.es d.mx == d.st) = false := beq_eq_false_iff_ne.2 c3
 have hC' : Hid (gdC d = true) := by
  unfold Hid
  rw [hC, decide_eq_false c1, decide_eq_false c2, decide_eq_false (show ¬ xorI d.es d.mx = d.st from c3)]; rfl
 clear hC c1 c2 c3
 by_cases c4 : d.po ≤ d.ti
 · have fin : Hid (11 = T) := ck_11 hT.out hn.out hN.out hS.out hC'.out (by unfold gdT; rw [decide_eq_false (by omega)]; rfl)
   clear hT hn hN hS hi hf hC'
   go_wp2
   go_ret
   exact ⟨ret_int fin.out, I2.out.b⟩
 by_cases c5 : d.ag < d.po
 · have fin : Hid (11 = T) := ck_11 hT.out hn.out hN.out hS.out hC'.out (by unfold gdT; rw [decide_eq_false (by omega : ¬ d.po ≤ d.ag)]; simp)
   clear hT hn hN hS hi hf hC'
   go_wp2
   go_ret
   exact ⟨ret_int fin.out, I2.out.b⟩
 have I0 : Hid (FsI d.sz ((d.fs.take 0).map (·.nm)) (d.fs.drop 0) T) := ck_fs hT.out hn.out hN.out hS.out hC'.out (by unfold gdT; rw [decide_eq_true (by omega : d.ti < d.po), decide_eq_true (by omega : d.po ≤ d.ag)]; rfl)
 have hs1 : Hid (I64 d.sz) := ⟨by omega, by omega⟩
 clear hT hn hN hS hC'
 go_wp2
 clear z1 z2 z3 z4 z6 z8 z9 z11 b1 b2 b3 c4 c5 i1 i2 i3 i4 i5 i6 i9 i10 i11 i12 i13 i14 i15 i16 i17 i18 i19
 go_loopw [5] (fun vi wr => ∃ i : Nat, (i : Int) ≤ (nf : Int) ∧ vi = .int .i64 (i : Int) ∧ Hid (FsI d.sz ((d.fs.take i).map (·.nm)) (d.fs.drop i) T) ∧ Hid (RcI w wr d (.slice pf nf cf) (.slice pq nq cq))) (fun vi _ => nf - (intOf vi).toNat)
 case atStart => exact ⟨0, by omega, rfl, I0, I2⟩
 case round =>
  obtain ⟨i, hii, rfl, lf, I⟩ := hrel
  clear I0 I2
  obtain ⟨_, _, _, _, z4, _, z6, _⟩ := I.out.d.cells
  by_cases hlt : (i : Int) < (nf : Int)
  · have hil : i < d.fs.length := by have := hf.out; omega
    have fl := I.out.d.fl
    rcases fl with ⟨_, _, _, e⟩ | ⟨g, o, cap', e, _, hin, hg⟩
    · rw [e] at hil; cases hil
    · injection e with e1 e2 e3
      subst e1
      have lq := lf.out
      rw [List.drop_eq_getElem_cons hil] at lq
      have tk : d.fs.take (i + 1) = d.fs.take i ++ [d.fs[i]] := by rw [List.take_append_getElem]
      obtain ⟨f, hfi⟩ : ∃ f, d.fs[i] = f := ⟨_, rfl⟩
      obtain ⟨c0, c1, c2, c3, c4, c5, c6, c7, c8⟩ := hin.cells hil hfi
      have fi := hi.out.fs f (by rw [← hfi]; exact List.getElem_mem hil)
      rw [hfi] at lq tk
      replace lq : Hid (FsI d.sz ((d.fs.take i).map (·.nm)) (f :: d.fs.drop (i + 1)) T) := lq
      replace tk : Hid (d.fs.take (i + 1) = d.fs.take i ++ [f]) := tk
      have rf : Hid (∀ dr os, Calls Tryz.prog 27 #[.int .i64 d.sz, fdV f] (Sort.grow (redrawn wr dr) os) fun e w' => e = .returned (.int .i64 (fldE d.sz f)) ∧ Below (Sort.grow (redrawn wr dr) os).heap.size (Sort.grow (redrawn wr dr) os) w') := fun dr os => rfield_any d.sz f _ fi hs1.out (by omega)
      have k4 := fun dr os => cell_regrown z4 dr os
      have k6 := fun dr os => cell_regrown z6 dr os
      have k0 := fun dr os => cell_regrown c0 dr os
      have k1 := fun dr os => cell_regrown c1 dr os
      have k2 := fun dr os => cell_regrown c2 dr os
      have k3 := fun dr os => cell_regrown c3 dr os
      have k5 := fun dr os => cell_regrown c4 dr os
      have k7 := fun dr os => cell_regrown c5 dr os
      have k8 := fun dr os => cell_regrown c6 dr os
      have k9 := fun dr os => cell_regrown c7 dr os
      have k10 := fun dr os => cell_regrown c8 dr os
      obtain ⟨E, hE⟩ : ∃ E, fldE d.sz f = E := ⟨_, rfl⟩
      rw [hE] at rf
      replace hE : Hid (fldE d.sz f = E) := hE
      have hfi' : Hid (∃ h : i < d.fs.length, d.fs[i] = f) := ⟨hil, hfi⟩
      clear lf hin hfi e2 e3 hil fi c0 c1 c2 c3 c4 c5 c6 c7 c8
      obtain ⟨fm, pl, kd, wd, sn, sd, on, od, un⟩ := f
      simp only at k0 k1 k2 k3 k5 k7 k8 k9 k10
      go_wp2_with fail
      refine wp_region_quiet_below (by kernel_rfl) (by kernel_rfl) ?_
      repeat (go_big_quiet_step (first
       | (go_at_call 27; with_reducible exact Calls.regrown_of (rf.out _ _))))
      refine wpQuiet_nil ?_
      intro _ hw'
      obtain ⟨⟨dq, osq⟩, hw''⟩ := hw'
      subst hw''
      replace I : Hid (RcI w (Sort.grow (redrawn wr dq) osq) d (.slice (some ⟨g, o, none⟩) nf cf) (.slice pq nq cq)) := I.out.below (below_regrown wr dq osq)
      clear k0 k1 k2 k3 k4 k5 k6 k7 k8 k9 k10 rf z4 z6 hg
      generalize Sort.grow (redrawn wr dq) osq = wq at *
      by_cases h0 : E = 0
      · subst h0
        have N0 : Hid (NoneIn fm ((d.fs.take 0).map (·.nm))) := by unfold Hid NoneIn; simp
        go_wp2_with fail
        go_loopw [7] (fun vk wk => ∃ k : Nat, (k : Int) ≤ (i : Int) ∧ vk = .int .i64 (k : Int) ∧ Hid (NoneIn fm ((d.fs.take k).map (·.nm))) ∧ Hid (RcI w wk d (.slice (some ⟨g, o, none⟩) nf cf) (.slice pq nq cq))) (fun vk _ => i - (intOf vk).toNat)
        case atStart => exact ⟨0, by omega, rfl, N0, I⟩
        case round =>
         obtain ⟨k, hk, rfl, ln, J⟩ := hrel
         clear N0 I
         by_cases hki : (k : Int) < (i : Int)
         · obtain ⟨_, _, _, _, _, _, y6, _⟩ := J.out.d.cells
           obtain ⟨hil, hfi⟩ := hfi'.out
           have hkl : k < d.fs.length := by omega
           rcases J.out.d.fl with ⟨_, _, _, e⟩ | ⟨g', o', cap', e, _, hin, _⟩
           · rw [e] at hkl; cases hkl
           · injection e with e1 e2 e3
             injection e1 with e1
             injection e1 with e1 e4 e5
             subst e1
             subst e4
             obtain ⟨d0, _⟩ := hin.cells hil hfi
             obtain ⟨x0, _⟩ := hin.cells hkl rfl
             simp only at d0
             have kA := fun dr os => cell_regrown y6 dr os
             have kB := fun dr os => cell_regrown d0 dr os
             have kC := fun dr os => cell_regrown x0 dr os
             have heq := txtw_eqL (d.fs[k]).nm fm
             have hyes : Hid (d.fs[k].nm = fm → 8 = T) := fun h => lq.out.twice hE.out (some_in (by omega) (by omega) h)
             have hno : Hid (¬ d.fs[k].nm = fm → NoneIn fm ((d.fs.take (k + 1)).map (·.nm))) := fun h => none_next hkl ln.out h
             have hki2 : (k : Int) < (nf : Int) := by omega
             clear hin e2 e3 ln
             cases hd : decide (d.fs[k].nm = fm)
             · rw [hd] at heq
               have nx := hno.out (of_decide_eq_false hd)
               replace nx : Hid (NoneIn fm ((d.fs.take (k + 1)).map (·.nm))) := nx
               clear hyes hno hd d0 x0 y6
               generalize txt d.fs[k].nm = S1 at *
               generalize txt fm = S2 at *
               go_wp2_with fail
               refine wp_region_quiet_below (by kernel_rfl) (by kernel_rfl) ?_
               repeat (go_big_quiet_step (fail))
               refine wpQuiet_nil ?_
               intro _ hw'
               obtain ⟨⟨dq, osq⟩, hw''⟩ := hw'
               subst hw''
               have J2 : Hid (RcI w (Sort.grow (redrawn wr dq) osq) d (.slice (some ⟨g, o, none⟩) nf cf) (.slice pq nq cq)) := J.out.below (below_regrown _ dq osq)
               clear kA kB kC J
               go_wp2
               exact ⟨⟨k + 1, by omega, by simp, nx, J2⟩, by simp [intOf]; omega⟩
             · rw [hd] at heq
               have fin : Hid (8 = T) := hyes.out (of_decide_eq_true hd)
               clear hyes hno hd d0 x0 y6
               generalize txt d.fs[k].nm = S1 at *
               generalize txt fm = S2 at *
               go_wp2_with fail
               refine wp_region_quiet_below (by kernel_rfl) (by kernel_rfl) ?_
               repeat (go_big_quiet_step (fail))
               refine wpQuiet_nil ?_
               intro _ hw'
               obtain ⟨⟨dq, osq⟩, hw''⟩ := hw'
               subst hw''
               have J2 : Hid (Below w.heap.size w (Sort.grow (redrawn wr dq) osq)) := J.out.b.trans ((below_regrown _ dq osq).mono J.out.b.size)
               clear kA kB kC J
               go_wp2
               go_ret
               exact ⟨ret_int fin.out, J2.out⟩
         · obtain rfl : k = i := by omega
           have nx : Hid (FsI d.sz ((d.fs.take (k + 1)).map (·.nm)) (d.fs.drop (k + 1)) T) := by
            have k1 := lq.out.go hE.out ln.out
            rw [tk.out, List.map_append]
            exact k1
           clear lq tk hE ln hfi'
           go_wp2
           exact ⟨⟨k + 1, by omega, by simp, nx, J⟩, by simp [intOf]; omega⟩
      · have hne : (E != 0) = true := by simpa using h0
        have fin : Hid (E = T) := by
         have k1 := lq.out.err (by rw [hE.out]; exact h0)
         rw [hE.out] at k1
         exact k1
        clear lq tk hE hfi'
        go_wp2
        go_ret
        exact ⟨ret_int fin.out, I.out.b⟩
  · obtain rfl : i = nf := by omega
    have fin : Hid (0 = T) := by
     have lq := lf.out
     rw [List.drop_of_length_le (by have := hf.out; omega)] at lq
     exact lq.fin
    clear lf
    go_wp2
    go_ret
    exact ⟨ret_int fin.out, I.out.b⟩
theorem rcheck_any (d : Dv) (pf pq : Option Addr) (cf cq : Nat) (w : World) (hi : DvI d) (hfv : FldsV w (.slice pf d.fs.length cf) d.fs) : Calls Tryz.prog 12 #[dvV d (.slice pf d.fs.length cf) (.slice pq d.rq.length cq)] w (QA w (ckE d)) := by
 by_cases hn : nameB d.nm = true
 · by_cases hN : gdN d = true
   · exact rck_c d pf pq _ cf _ cq w rfl rfl hfv hi hn hN
   · rw [← ck_6 (d := d) rfl (fun h => hN h.2)]
     have hx := fun h => hN (gdN_iff.2 h)
     by_cases h1 : d.st < 0 ∨ 255 < d.st ∨ d.es < 0 ∨ 255 < d.es ∨ d.mx < 0 ∨ 255 < d.mx ∨ d.sz < 1 ∨ 32 < d.sz ∨ 8 < (d.fs.length : Int) ∨ (d.rq.length : Int) < 1 ∨ 16 < (d.rq.length : Int)
     · exact rck_a d pf pq _ cf _ cq w rfl rfl hfv (.inr h1)
     · refine rck_b d pf pq _ cf _ cq w rfl rfl hfv hn (by omega) ?_
       clear hN
       by_cases h2 : d.po < 1 ∨ 1000 < d.po ∨ d.ti < 1 ∨ 1000 < d.ti ∨ d.ag < 1 ∨ 1000 < d.ag ∨ d.re < 0 ∨ 10 < d.re
       · exact h2
       · exact absurd (by omega) hx
 · rw [← ck_6 (d := d) rfl (fun h => hn h.1)]
   exact rck_a d pf pq _ cf _ cq w rfl rfl hfv (.inl hn)
def ShAwC (w : World) : Prop := ∀ x, Below w.heap.size w x → Calls Tryz.prog 8 #[] x fun e y => e = .returned (.bool true) ∧ Below x.heap.size x y
theorem shAwC {w : World} (T7 : Tab7 w) : ShAwC w := fun x hx => awake10 x (T7.below hx)
def ShRdC (w : World) (s : ByteArray) (T : Dv × Int × Nat) : Prop := ∀ x, Below w.heap.size w x → Calls Tryz.prog 13 #[.string s] x (ReadQ x T)
def ShRrC (s : ByteArray) (L E : Int) (rs : List Ln) : Prop := ∀ x, Calls Tryz.prog 16 #[.string s] x fun e y => ∃ v, e = .returned (.tuple #[v, .int .i64 L, .int .i64 E]) ∧ RowsAt y v rs ∧ Below x.heap.size x y
def ShRd2 (rs : List Ln) (T : Dv × Int × Nat) : Prop := ∀ x v, RowsAt x v rs → Calls Tryz.prog 17 #[v] x (ReadQ x T)
def QC (y : World) (args : Array Value) (T : Int) : Prop := Calls Tryz.prog 12 args y (QA y T)
theorem reads_E (w : World) (aw : Hid (ShAwC w)) (s : ByteArray) (q1 : decide (4100 < (s.size : Int)) = false) (rs : List Ln) (L E : Int) (EN : Nat) (hE : Hid (E = (EN : Int))) (pa : Hid (ShRdC w s (dv0, L, EN))) (rr : Hid (ShRrC s L E rs)) (h0 : ((E : Int) == 0) = false) :
 Calls Tryz.prog 4 #[.string s] w fun e y => e = .returned (.bool true) ∧ Below w.heap.size w y := by
 rw [hE.out] at h0 rr
 clear hE
 go_enter Tryz.func4, Tryz.ntmps4
 go_wp2_with fail
 refine (aw.out w (Below.refl _ _)).mono ?_
 rintro e y ⟨rfl, hb⟩
 replace hb : Hid (Below w.heap.size w y) := hb
 clear aw
 go_wp2_with fail
 refine (pa.out y hb.out).mono ?_
 rintro e z ⟨fv, qv, rfl, hf, hq, hb2, nf1, nq1⟩
 clear nf1 nq1
 simp only at hf hq
 obtain ⟨p1, n1, k1, rfl⟩ := hf.form
 obtain ⟨p2, n2, k2, rfl⟩ := hq.form'
 have hbz : Below w.heap.size w z := hb.out.trans (hb2.mono hb.out.size)
 have za : Below z.heap.size z (z.alloc (.cells (dvA dv0 (.slice p1 n1 k1) (.slice p2 n2 k2)) 33)) := (Below.refl _ _).alloc (Nat.le_refl _) _
 have B2 : Hid (Below w.heap.size w (z.alloc (.cells (dvA dv0 (.slice p1 n1 k1) (.slice p2 n2 k2)) 33))) := hbz.alloc hbz.size _
 have K2 : Hid ((z.alloc (.cells (dvA dv0 (.slice p1 n1 k1) (.slice p2 n2 k2)) 33)).heap[z.heap.size]? = some (.cells (dvA dv0 (.slice p1 n1 k1) (.slice p2 n2 k2)) 33 (0, 0))) := World.alloc_heap_new z _
 have F2 : Hid (FldsAt (z.alloc (.cells (dvA dv0 (.slice p1 n1 k1) (.slice p2 n2 k2)) 33)) (.slice p1 n1 k1) dv0.fs) := hf.below za
 have Q2 : Hid (BytesAt (z.alloc (.cells (dvA dv0 (.slice p1 n1 k1) (.slice p2 n2 k2)) 33)) (.slice p2 n2 k2) dv0.rq) := hq.below za
 clear hf hq hb2 hbz za hb pa
 go_upto_region 4 with fail
 change Code.wp Tryz.prog _ _ _ (z.alloc (.cells (dvA dv0 (.slice p1 n1 k1) (.slice p2 n2 k2)) 33))
 generalize z.alloc (.cells (dvA dv0 (.slice p1 n1 k1) (.slice p2 n2 k2)) 33) = y2 at *
 generalize z.heap.size = bD at *
 clear z
 go_wp2_with fail
 refine (rr.out y2).mono ?_
 rintro e y3 ⟨v, rfl, hv, hb3⟩
 have b34 : Below y3.heap.size y3 (y3.alloc (.cells dz 25)) := (Below.refl _ _).alloc (Nat.le_refl _) _
 have L4 : Hid (Below y2.heap.size y2 (y3.alloc (.cells dz 25))) := hb3.trans (b34.mono hb3.size)
 have X4 : Hid ((y3.alloc (.cells dz 25)).heap[y3.heap.size]? = some (.cells dz 25 (0, 0))) := World.alloc_heap_new y3 _
 have V4 : Hid (RowsAt (y3.alloc (.cells dz 25)) v rs) := hv.below b34
 have lt4 : Hid (y2.heap.size ≤ y3.heap.size) := hb3.size
 clear hv hb3 b34 rr
 go_upto_region 6 with fail
 change Code.wp Tryz.prog _ _ _ (y3.alloc (.cells dz 25))
 generalize y3.alloc (.cells dz 25) = y4 at *
 generalize y3.heap.size = bX at *
 clear y3
 clear V4
 have h9 : (((EN : Nat) : Int) != 0) = true := by rw [bne, h0]; rfl
 obtain ⟨c0, f0, c1, f1, c2, f2, c3, f3, c4, f4, c5, f5, c6, f6, c7, f7, c8, f8, c9, f9, c10, f10, c11, f11⟩ := rd12 X4.out
 have L7 : Hid (Below y2.heap.size y2 (put12 y4 bX (.string ⟨#[]⟩) (.int .i64 0) (.int .i64 0) (.int .i64 0) (.int .i64 0) (.string ⟨#[]⟩) (.slice none 0 0) (.slice none 0 0) (.int .i64 0) (.int .i64 0) (.int .i64 0) (.int .i64 0))) := put12_below L4.out lt4.out (.string ⟨#[]⟩) (.int .i64 0) (.int .i64 0) (.int .i64 0) (.int .i64 0) (.string ⟨#[]⟩) (.slice none 0 0) (.slice none 0 0) (.int .i64 0) (.int .i64 0) (.int .i64 0) (.int .i64 0)
 have X7 : Hid ((put12 y4 bX (.string ⟨#[]⟩) (.int .i64 0) (.int .i64 0) (.int .i64 0) (.int .i64 0) (.string ⟨#[]⟩) (.slice none 0 0) (.slice none 0 0) (.int .i64 0) (.int .i64 0) (.int .i64 0) (.int .i64 0)).heap[bX]? = some (.cells dz 25 (0, 0))) := put12_at (y := y4) X4.out (.string ⟨#[]⟩) (.int .i64 0) (.int .i64 0) (.int .i64 0) (.int .i64 0) (.string ⟨#[]⟩) (.slice none 0 0) (.slice none 0 0) (.int .i64 0) (.int .i64 0) (.int .i64 0) (.int .i64 0)
 go_upto_region 12 with fail
 change Code.wp Tryz.prog _ _ _ (put12 y4 bX (.string ⟨#[]⟩) (.int .i64 0) (.int .i64 0) (.int .i64 0) (.int .i64 0) (.string ⟨#[]⟩) (.slice none 0 0) (.slice none 0 0) (.int .i64 0) (.int .i64 0) (.int .i64 0) (.int .i64 0))
 generalize (put12 y4 bX (.string ⟨#[]⟩) (.int .i64 0) (.int .i64 0) (.int .i64 0) (.int .i64 0) (.string ⟨#[]⟩) (.slice none 0 0) (.slice none 0 0) (.int .i64 0) (.int .i64 0) (.int .i64 0) (.int .i64 0)) = y7 at *
 clear c0 c1 c2 c3 c4 c5 c6 c7 c8 c9 c10 c11 f0 f1 f2 f3 f4 f5 f6 f7 f8 f9 f10 f11
 have sm : Hid (Calls Tryz.prog 15 #[dvV dv0 (.slice p1 n1 k1) (.slice p2 n2 k2), dvV dv0 (.slice none 0 0) (.slice none 0 0)] y7 fun e u => e = .returned (.int .i64 1) ∧ Below y7.heap.size y7 u) := same_any dv0 _ _ _ _ y7 (F2.out.below L7.out) (Q2.out.below L7.out) (.inl ⟨rfl, rfl⟩) (.inl ⟨rfl, rfl⟩) (by decide)
 have KF := (L7.out.block _ (Array.getElem?_eq_some_iff.1 K2.out).1).trans K2.out
 have BY : Hid (Below w.heap.size w y7) := B2.out.trans (L7.out.mono B2.out.size)
 obtain ⟨l0, u0, l1, u1, l2, u2, l3, u3, l4, u4, l5, u5, l6, u6, l7, u7, l8, u8, l9, u9, l10, u10, l11, u11⟩ := rd12 KF
 obtain ⟨m0, v0, m1, v1, m2, v2, m3, v3, m4, v4, m5, v5, m6, v6, m7, v7, m8, v8, m9, v9, m10, v10, m11, v11⟩ := rd12 X7.out
 clear u0 u1 u2 u3 u4 u5 u6 u7 u8 u9 u10 u11 v0 v1 v2 v3 v4 v5 v6 v7 v8 v9 v10 v11 KF F2 Q2 K2 B2
 go_wp2_with fail
 refine sm.out.mono ?_
 rintro e u ⟨rfl, hu⟩
 have BF : Hid (Below w.heap.size w u) := BY.out.trans (hu.mono BY.out.size)
 clear sm hu l0 l1 l2 l3 l4 l5 l6 l7 l8 l9 l10 l11 m0 m1 m2 m3 m4 m5 m6 m7 m8 m9 m10 m11
 go_wp2
 go_ret
 exact ⟨rfl, BF.out⟩
theorem reads_R (w : World) (aw : Hid (ShAwC w)) (s : ByteArray) (q1 : decide (4100 < (s.size : Int)) = false) (rs : List Ln) (L M : Int) (EN : Nat) (pa : Hid (ShRdC w s (dv0, M, EN))) (rr : Hid (ShRrC s L 0 rs)) (rd : Hid (ShRd2 rs (dv0, M, EN))) (h0 : (((EN : Nat) : Int) == 0) = false) :
 Calls Tryz.prog 4 #[.string s] w fun e y => e = .returned (.bool true) ∧ Below w.heap.size w y := by
 go_enter Tryz.func4, Tryz.ntmps4
 go_wp2_with fail
 refine (aw.out w (Below.refl _ _)).mono ?_
 rintro e y ⟨rfl, hb⟩
 replace hb : Hid (Below w.heap.size w y) := hb
 clear aw
 go_wp2_with fail
 refine (pa.out y hb.out).mono ?_
 rintro e z ⟨fv, qv, rfl, hf, hq, hb2, nf1, nq1⟩
 clear nf1 nq1
 simp only at hf hq
 obtain ⟨p1, n1, k1, rfl⟩ := hf.form
 obtain ⟨p2, n2, k2, rfl⟩ := hq.form'
 have hbz : Below w.heap.size w z := hb.out.trans (hb2.mono hb.out.size)
 have za : Below z.heap.size z (z.alloc (.cells (dvA dv0 (.slice p1 n1 k1) (.slice p2 n2 k2)) 33)) := (Below.refl _ _).alloc (Nat.le_refl _) _
 have B2 : Hid (Below w.heap.size w (z.alloc (.cells (dvA dv0 (.slice p1 n1 k1) (.slice p2 n2 k2)) 33))) := hbz.alloc hbz.size _
 have K2 : Hid ((z.alloc (.cells (dvA dv0 (.slice p1 n1 k1) (.slice p2 n2 k2)) 33)).heap[z.heap.size]? = some (.cells (dvA dv0 (.slice p1 n1 k1) (.slice p2 n2 k2)) 33 (0, 0))) := World.alloc_heap_new z _
 have F2 : Hid (FldsAt (z.alloc (.cells (dvA dv0 (.slice p1 n1 k1) (.slice p2 n2 k2)) 33)) (.slice p1 n1 k1) dv0.fs) := hf.below za
 have Q2 : Hid (BytesAt (z.alloc (.cells (dvA dv0 (.slice p1 n1 k1) (.slice p2 n2 k2)) 33)) (.slice p2 n2 k2) dv0.rq) := hq.below za
 clear hf hq hb2 hbz za hb pa
 go_upto_region 4 with fail
 change Code.wp Tryz.prog _ _ _ (z.alloc (.cells (dvA dv0 (.slice p1 n1 k1) (.slice p2 n2 k2)) 33))
 generalize z.alloc (.cells (dvA dv0 (.slice p1 n1 k1) (.slice p2 n2 k2)) 33) = y2 at *
 generalize z.heap.size = bD at *
 clear z
 go_wp2_with fail
 refine (rr.out y2).mono ?_
 rintro e y3 ⟨v, rfl, hv, hb3⟩
 have b34 : Below y3.heap.size y3 (y3.alloc (.cells dz 25)) := (Below.refl _ _).alloc (Nat.le_refl _) _
 have L4 : Hid (Below y2.heap.size y2 (y3.alloc (.cells dz 25))) := hb3.trans (b34.mono hb3.size)
 have X4 : Hid ((y3.alloc (.cells dz 25)).heap[y3.heap.size]? = some (.cells dz 25 (0, 0))) := World.alloc_heap_new y3 _
 have V4 : Hid (RowsAt (y3.alloc (.cells dz 25)) v rs) := hv.below b34
 have lt4 : Hid (y2.heap.size ≤ y3.heap.size) := hb3.size
 clear hv hb3 b34 rr
 go_upto_region 6 with fail
 change Code.wp Tryz.prog _ _ _ (y3.alloc (.cells dz 25))
 generalize y3.alloc (.cells dz 25) = y4 at *
 generalize y3.heap.size = bX at *
 clear y3
 have rdv : Hid (Calls Tryz.prog 17 #[v] y4 (ReadQ y4 (dv0, M, EN))) := rd.out y4 v V4.out
 clear rd V4
 go_wp2_with fail
 refine rdv.out.mono ?_
 rintro e z ⟨fv, qv, rfl, hf, hq, hb, nf, nq⟩
 simp only at hf hq
 obtain ⟨p3, n3, k3, rfl⟩ := hf.form
 obtain ⟨p4, n4, k4, rfl⟩ := hq.form'
 have Xz := (hb.block _ (Array.getElem?_eq_some_iff.1 X4.out).1).trans X4.out
 have Lz : Below y2.heap.size y2 z := L4.out.trans (hb.mono L4.out.size)
 have xl : bX < y4.heap.size := (Array.getElem?_eq_some_iff.1 X4.out).1
 have off : ∀ k, k ≠ bX → (putD z bX dv0 (.slice p3 n3 k3) (.slice p4 n4 k4)).heap[k]? = z.heap[k]? := fun k hk => put12_off hk _ _ _ _ _ _ _ _ _ _ _ _
 have L5 : Hid (Below y2.heap.size y2 (putD z bX dv0 (.slice p3 n3 k3) (.slice p4 n4 k4))) := putD_below Lz lt4.out dv0 (.slice p3 n3 k3) (.slice p4 n4 k4)
 have F5 : Hid (FldsAt (putD z bX dv0 (.slice p3 n3 k3) (.slice p4 n4 k4)) (.slice p3 n3 k3) dv0.fs) := hf.on' fun g hg => off g (by have := nf g hg; omega)
 have Q5 : Hid (BytesAt (putD z bX dv0 (.slice p3 n3 k3) (.slice p4 n4 k4)) (.slice p4 n4 k4) dv0.rq) := hq.on' fun g hg => off g (by have := nq g hg; omega)
 have X5 : Hid ((putD z bX dv0 (.slice p3 n3 k3) (.slice p4 n4 k4)).heap[bX]? = some (.cells (dvA dv0 (.slice p3 n3 k3) (.slice p4 n4 k4)) 25 (0, 0))) := putD_at (y := z) Xz dv0 (.slice p3 n3 k3) (.slice p4 n4 k4)
 obtain ⟨c0, f0, c1, f1, c2, f2, c3, f3, c4, f4, c5, f5, c6, f6, c7, f7, c8, f8, c9, f9, c10, f10, c11, f11⟩ := rd12 Xz
 clear hf hq hb nf nq Xz Lz off xl rdv X4 L4
 go_upto_region 8 with fail
 change Code.wp Tryz.prog _ _ _ (putD z bX dv0 (.slice p3 n3 k3) (.slice p4 n4 k4))
 generalize (putD z bX dv0 (.slice p3 n3 k3) (.slice p4 n4 k4)) = y5 at *
 clear c0 c1 c2 c3 c4 c5 c6 c7 c8 c9 c10 c11 f0 f1 f2 f3 f4 f5 f6 f7 f8 f9 f10 f11 z
 clear F5 Q5
 have h9 : (((EN : Nat) : Int) != 0) = true := by rw [bne, h0]; rfl
 obtain ⟨c0, f0, c1, f1, c2, f2, c3, f3, c4, f4, c5, f5, c6, f6, c7, f7, c8, f8, c9, f9, c10, f10, c11, f11⟩ := rd12 X5.out
 have L7 : Hid (Below y2.heap.size y2 (put12 y5 bX (.string ⟨#[]⟩) (.int .i64 0) (.int .i64 0) (.int .i64 0) (.int .i64 0) (.string ⟨#[]⟩) (.slice none 0 0) (.slice none 0 0) (.int .i64 0) (.int .i64 0) (.int .i64 0) (.int .i64 0))) := put12_below L5.out lt4.out (.string ⟨#[]⟩) (.int .i64 0) (.int .i64 0) (.int .i64 0) (.int .i64 0) (.string ⟨#[]⟩) (.slice none 0 0) (.slice none 0 0) (.int .i64 0) (.int .i64 0) (.int .i64 0) (.int .i64 0)
 have X7 : Hid ((put12 y5 bX (.string ⟨#[]⟩) (.int .i64 0) (.int .i64 0) (.int .i64 0) (.int .i64 0) (.string ⟨#[]⟩) (.slice none 0 0) (.slice none 0 0) (.int .i64 0) (.int .i64 0) (.int .i64 0) (.int .i64 0)).heap[bX]? = some (.cells dz 25 (0, 0))) := put12_at (y := y5) X5.out (.string ⟨#[]⟩) (.int .i64 0) (.int .i64 0) (.int .i64 0) (.int .i64 0) (.string ⟨#[]⟩) (.slice none 0 0) (.slice none 0 0) (.int .i64 0) (.int .i64 0) (.int .i64 0) (.int .i64 0)
 go_upto_region 12 with fail
 change Code.wp Tryz.prog _ _ _ (put12 y5 bX (.string ⟨#[]⟩) (.int .i64 0) (.int .i64 0) (.int .i64 0) (.int .i64 0) (.string ⟨#[]⟩) (.slice none 0 0) (.slice none 0 0) (.int .i64 0) (.int .i64 0) (.int .i64 0) (.int .i64 0))
 generalize (put12 y5 bX (.string ⟨#[]⟩) (.int .i64 0) (.int .i64 0) (.int .i64 0) (.int .i64 0) (.string ⟨#[]⟩) (.slice none 0 0) (.slice none 0 0) (.int .i64 0) (.int .i64 0) (.int .i64 0) (.int .i64 0)) = y7 at *
 clear c0 c1 c2 c3 c4 c5 c6 c7 c8 c9 c10 c11 f0 f1 f2 f3 f4 f5 f6 f7 f8 f9 f10 f11
 have sm : Hid (Calls Tryz.prog 15 #[dvV dv0 (.slice p1 n1 k1) (.slice p2 n2 k2), dvV dv0 (.slice none 0 0) (.slice none 0 0)] y7 fun e u => e = .returned (.int .i64 1) ∧ Below y7.heap.size y7 u) := same_any dv0 _ _ _ _ y7 (F2.out.below L7.out) (Q2.out.below L7.out) (.inl ⟨rfl, rfl⟩) (.inl ⟨rfl, rfl⟩) (by decide)
 have KF := (L7.out.block _ (Array.getElem?_eq_some_iff.1 K2.out).1).trans K2.out
 have BY : Hid (Below w.heap.size w y7) := B2.out.trans (L7.out.mono B2.out.size)
 obtain ⟨l0, u0, l1, u1, l2, u2, l3, u3, l4, u4, l5, u5, l6, u6, l7, u7, l8, u8, l9, u9, l10, u10, l11, u11⟩ := rd12 KF
 obtain ⟨m0, v0, m1, v1, m2, v2, m3, v3, m4, v4, m5, v5, m6, v6, m7, v7, m8, v8, m9, v9, m10, v10, m11, v11⟩ := rd12 X7.out
 clear u0 u1 u2 u3 u4 u5 u6 u7 u8 u9 u10 u11 v0 v1 v2 v3 v4 v5 v6 v7 v8 v9 v10 v11 KF F2 Q2 K2 B2
 go_wp2_with fail
 refine sm.out.mono ?_
 rintro e u ⟨rfl, hu⟩
 have BF : Hid (Below w.heap.size w u) := BY.out.trans (hu.mono BY.out.size)
 clear sm hu l0 l1 l2 l3 l4 l5 l6 l7 l8 l9 l10 l11 m0 m1 m2 m3 m4 m5 m6 m7 m8 m9 m10 m11
 go_wp2
 go_ret
 exact ⟨rfl, BF.out⟩
theorem reads_C (w : World) (aw : Hid (ShAwC w)) (s : ByteArray) (q1 : decide (4100 < (s.size : Int)) = false) (rs : List Ln) (L M : Int) (d : Dv) (pa : Hid (ShRdC w s (dv0, M, (cN d)))) (rr : Hid (ShRrC s L 0 rs)) (rd : Hid (ShRd2 rs (d, M, 0))) (hi : Hid (DvI d)) (h0 : (((cN d : Nat) : Int) == 0) = false) :
 Calls Tryz.prog 4 #[.string s] w fun e y => e = .returned (.bool true) ∧ Below w.heap.size w y := by
 go_enter Tryz.func4, Tryz.ntmps4
 go_wp2_with fail
 refine (aw.out w (Below.refl _ _)).mono ?_
 rintro e y ⟨rfl, hb⟩
 replace hb : Hid (Below w.heap.size w y) := hb
 clear aw
 go_wp2_with fail
 refine (pa.out y hb.out).mono ?_
 rintro e z ⟨fv, qv, rfl, hf, hq, hb2, nf1, nq1⟩
 clear nf1 nq1
 simp only at hf hq
 obtain ⟨p1, n1, k1, rfl⟩ := hf.form
 obtain ⟨p2, n2, k2, rfl⟩ := hq.form'
 have hbz : Below w.heap.size w z := hb.out.trans (hb2.mono hb.out.size)
 have za : Below z.heap.size z (z.alloc (.cells (dvA dv0 (.slice p1 n1 k1) (.slice p2 n2 k2)) 33)) := (Below.refl _ _).alloc (Nat.le_refl _) _
 have B2 : Hid (Below w.heap.size w (z.alloc (.cells (dvA dv0 (.slice p1 n1 k1) (.slice p2 n2 k2)) 33))) := hbz.alloc hbz.size _
 have K2 : Hid ((z.alloc (.cells (dvA dv0 (.slice p1 n1 k1) (.slice p2 n2 k2)) 33)).heap[z.heap.size]? = some (.cells (dvA dv0 (.slice p1 n1 k1) (.slice p2 n2 k2)) 33 (0, 0))) := World.alloc_heap_new z _
 have F2 : Hid (FldsAt (z.alloc (.cells (dvA dv0 (.slice p1 n1 k1) (.slice p2 n2 k2)) 33)) (.slice p1 n1 k1) dv0.fs) := hf.below za
 have Q2 : Hid (BytesAt (z.alloc (.cells (dvA dv0 (.slice p1 n1 k1) (.slice p2 n2 k2)) 33)) (.slice p2 n2 k2) dv0.rq) := hq.below za
 clear hf hq hb2 hbz za hb pa
 go_upto_region 4 with fail
 change Code.wp Tryz.prog _ _ _ (z.alloc (.cells (dvA dv0 (.slice p1 n1 k1) (.slice p2 n2 k2)) 33))
 generalize z.alloc (.cells (dvA dv0 (.slice p1 n1 k1) (.slice p2 n2 k2)) 33) = y2 at *
 generalize z.heap.size = bD at *
 clear z
 go_wp2_with fail
 refine (rr.out y2).mono ?_
 rintro e y3 ⟨v, rfl, hv, hb3⟩
 have b34 : Below y3.heap.size y3 (y3.alloc (.cells dz 25)) := (Below.refl _ _).alloc (Nat.le_refl _) _
 have L4 : Hid (Below y2.heap.size y2 (y3.alloc (.cells dz 25))) := hb3.trans (b34.mono hb3.size)
 have X4 : Hid ((y3.alloc (.cells dz 25)).heap[y3.heap.size]? = some (.cells dz 25 (0, 0))) := World.alloc_heap_new y3 _
 have V4 : Hid (RowsAt (y3.alloc (.cells dz 25)) v rs) := hv.below b34
 have lt4 : Hid (y2.heap.size ≤ y3.heap.size) := hb3.size
 clear hv hb3 b34 rr
 go_upto_region 6 with fail
 change Code.wp Tryz.prog _ _ _ (y3.alloc (.cells dz 25))
 generalize y3.alloc (.cells dz 25) = y4 at *
 generalize y3.heap.size = bX at *
 clear y3
 have rdv : Hid (Calls Tryz.prog 17 #[v] y4 (ReadQ y4 (d, M, 0))) := rd.out y4 v V4.out
 clear rd V4
 go_wp2_with fail
 refine rdv.out.mono ?_
 rintro e z ⟨fv, qv, rfl, hf, hq, hb, nf, nq⟩
 simp only at hf hq
 obtain ⟨p3, n3, k3, rfl⟩ := hf.form
 obtain ⟨p4, n4, k4, rfl⟩ := hq.form'
 have Xz := (hb.block _ (Array.getElem?_eq_some_iff.1 X4.out).1).trans X4.out
 have Lz : Below y2.heap.size y2 z := L4.out.trans (hb.mono L4.out.size)
 have xl : bX < y4.heap.size := (Array.getElem?_eq_some_iff.1 X4.out).1
 have off : ∀ k, k ≠ bX → (putD z bX d (.slice p3 n3 k3) (.slice p4 n4 k4)).heap[k]? = z.heap[k]? := fun k hk => put12_off hk _ _ _ _ _ _ _ _ _ _ _ _
 have L5 : Hid (Below y2.heap.size y2 (putD z bX d (.slice p3 n3 k3) (.slice p4 n4 k4))) := putD_below Lz lt4.out d (.slice p3 n3 k3) (.slice p4 n4 k4)
 have F5 : Hid (FldsAt (putD z bX d (.slice p3 n3 k3) (.slice p4 n4 k4)) (.slice p3 n3 k3) d.fs) := hf.on' fun g hg => off g (by have := nf g hg; omega)
 have Q5 : Hid (BytesAt (putD z bX d (.slice p3 n3 k3) (.slice p4 n4 k4)) (.slice p4 n4 k4) d.rq) := hq.on' fun g hg => off g (by have := nq g hg; omega)
 have X5 : Hid ((putD z bX d (.slice p3 n3 k3) (.slice p4 n4 k4)).heap[bX]? = some (.cells (dvA d (.slice p3 n3 k3) (.slice p4 n4 k4)) 25 (0, 0))) := putD_at (y := z) Xz d (.slice p3 n3 k3) (.slice p4 n4 k4)
 obtain ⟨c0, f0, c1, f1, c2, f2, c3, f3, c4, f4, c5, f5, c6, f6, c7, f7, c8, f8, c9, f9, c10, f10, c11, f11⟩ := rd12 Xz
 clear hf hq hb nf nq Xz Lz off xl rdv X4 L4
 go_upto_region 8 with fail
 change Code.wp Tryz.prog _ _ _ (putD z bX d (.slice p3 n3 k3) (.slice p4 n4 k4))
 generalize (putD z bX d (.slice p3 n3 k3) (.slice p4 n4 k4)) = y5 at *
 clear c0 c1 c2 c3 c4 c5 c6 c7 c8 c9 c10 c11 f0 f1 f2 f3 f4 f5 f6 f7 f8 f9 f10 f11 z
 have rc : Hid (QC y5 #[dvV d (.slice p3 n3 k3) (.slice p4 n4 k4)] (ckE d)) := by
  obtain ⟨p3', c3', e3⟩ := F5.out.v.form
  injection e3 with e31 e32 e33
  subst e31 e32 e33
  obtain ⟨p4', c4', e4⟩ := bytes_form Q5.out
  injection e4 with e41 e42 e43
  subst e41 e42 e43
  exact rcheck_any d _ _ _ _ y5 hi.out F5.out.v
 obtain ⟨c0, f0, c1, f1, c2, f2, c3, f3, c4, f4, c5, f5, c6, f6, c7, f7, c8, f8, c9, f9, c10, f10, c11, f11⟩ := rd12 X5.out
 rw [← ck_nat] at rc
 replace rc : Hid (Calls Tryz.prog 12 #[dvV d (.slice p3 n3 k3) (.slice p4 n4 k4)] y5 (QA y5 ((cN d : Nat) : Int))) := rc
 generalize cN d = EN at *
 clear f0 f1 f2 f3 f4 f5 f6 f7 f8 f9 f10 f11 hi
 go_wp2_with fail
 refine rc.out.mono ?_
 rintro e y6 ⟨rfl, hb⟩
 have L6 : Hid (Below y2.heap.size y2 y6) := L5.out.trans (hb.mono L5.out.size)
 have X6 : Hid (y6.heap[bX]? = some (.cells (dvA d (.slice p3 n3 k3) (.slice p4 n4 k4)) 25 (0, 0))) := (hb.block _ (Array.getElem?_eq_some_iff.1 X5.out).1).trans X5.out
 have F6 : Hid (FldsAt y6 (.slice p3 n3 k3) d.fs) := F5.out.below hb
 have Q6 : Hid (BytesAt y6 (.slice p4 n4 k4) d.rq) := Q5.out.below hb
 clear rc hb L5 X5 F5 Q5 c0 c1 c2 c3 c4 c5 c6 c7 c8 c9 c10 c11
 clear F6 Q6
 have h9 : (((EN : Nat) : Int) != 0) = true := by rw [bne, h0]; rfl
 obtain ⟨c0, f0, c1, f1, c2, f2, c3, f3, c4, f4, c5, f5, c6, f6, c7, f7, c8, f8, c9, f9, c10, f10, c11, f11⟩ := rd12 X6.out
 have L7 : Hid (Below y2.heap.size y2 (put12 y6 bX (.string ⟨#[]⟩) (.int .i64 0) (.int .i64 0) (.int .i64 0) (.int .i64 0) (.string ⟨#[]⟩) (.slice none 0 0) (.slice none 0 0) (.int .i64 0) (.int .i64 0) (.int .i64 0) (.int .i64 0))) := put12_below L6.out lt4.out (.string ⟨#[]⟩) (.int .i64 0) (.int .i64 0) (.int .i64 0) (.int .i64 0) (.string ⟨#[]⟩) (.slice none 0 0) (.slice none 0 0) (.int .i64 0) (.int .i64 0) (.int .i64 0) (.int .i64 0)
 have X7 : Hid ((put12 y6 bX (.string ⟨#[]⟩) (.int .i64 0) (.int .i64 0) (.int .i64 0) (.int .i64 0) (.string ⟨#[]⟩) (.slice none 0 0) (.slice none 0 0) (.int .i64 0) (.int .i64 0) (.int .i64 0) (.int .i64 0)).heap[bX]? = some (.cells dz 25 (0, 0))) := put12_at (y := y6) X6.out (.string ⟨#[]⟩) (.int .i64 0) (.int .i64 0) (.int .i64 0) (.int .i64 0) (.string ⟨#[]⟩) (.slice none 0 0) (.slice none 0 0) (.int .i64 0) (.int .i64 0) (.int .i64 0) (.int .i64 0)
 go_upto_region 12 with fail
 change Code.wp Tryz.prog _ _ _ (put12 y6 bX (.string ⟨#[]⟩) (.int .i64 0) (.int .i64 0) (.int .i64 0) (.int .i64 0) (.string ⟨#[]⟩) (.slice none 0 0) (.slice none 0 0) (.int .i64 0) (.int .i64 0) (.int .i64 0) (.int .i64 0))
 generalize (put12 y6 bX (.string ⟨#[]⟩) (.int .i64 0) (.int .i64 0) (.int .i64 0) (.int .i64 0) (.string ⟨#[]⟩) (.slice none 0 0) (.slice none 0 0) (.int .i64 0) (.int .i64 0) (.int .i64 0) (.int .i64 0)) = y7 at *
 clear c0 c1 c2 c3 c4 c5 c6 c7 c8 c9 c10 c11 f0 f1 f2 f3 f4 f5 f6 f7 f8 f9 f10 f11
 have sm : Hid (Calls Tryz.prog 15 #[dvV dv0 (.slice p1 n1 k1) (.slice p2 n2 k2), dvV dv0 (.slice none 0 0) (.slice none 0 0)] y7 fun e u => e = .returned (.int .i64 1) ∧ Below y7.heap.size y7 u) := same_any dv0 _ _ _ _ y7 (F2.out.below L7.out) (Q2.out.below L7.out) (.inl ⟨rfl, rfl⟩) (.inl ⟨rfl, rfl⟩) (by decide)
 have KF := (L7.out.block _ (Array.getElem?_eq_some_iff.1 K2.out).1).trans K2.out
 have BY : Hid (Below w.heap.size w y7) := B2.out.trans (L7.out.mono B2.out.size)
 obtain ⟨l0, u0, l1, u1, l2, u2, l3, u3, l4, u4, l5, u5, l6, u6, l7, u7, l8, u8, l9, u9, l10, u10, l11, u11⟩ := rd12 KF
 obtain ⟨m0, v0, m1, v1, m2, v2, m3, v3, m4, v4, m5, v5, m6, v6, m7, v7, m8, v8, m9, v9, m10, v10, m11, v11⟩ := rd12 X7.out
 clear u0 u1 u2 u3 u4 u5 u6 u7 u8 u9 u10 u11 v0 v1 v2 v3 v4 v5 v6 v7 v8 v9 v10 v11 KF F2 Q2 K2 B2
 go_wp2_with fail
 refine sm.out.mono ?_
 rintro e u ⟨rfl, hu⟩
 have BF : Hid (Below w.heap.size w u) := BY.out.trans (hu.mono BY.out.size)
 clear sm hu l0 l1 l2 l3 l4 l5 l6 l7 l8 l9 l10 l11 m0 m1 m2 m3 m4 m5 m6 m7 m8 m9 m10 m11
 go_wp2
 go_ret
 exact ⟨rfl, BF.out⟩
theorem reads_D (w : World) (aw : Hid (ShAwC w)) (s : ByteArray) (q1 : decide (4100 < (s.size : Int)) = false) (rs : List Ln) (L M : Int) (d : Dv) (pa : Hid (ShRdC w s (d, 0, 0))) (rr : Hid (ShRrC s L 0 rs)) (rd : Hid (ShRd2 rs (d, 0, 0))) (hi : Hid (DvI d)) (h0 : cN d = 0) (h8 : Hid (d.fs.length ≤ 8)) :
 Calls Tryz.prog 4 #[.string s] w fun e y => e = .returned (.bool true) ∧ Below w.heap.size w y := by
 go_enter Tryz.func4, Tryz.ntmps4
 go_wp2_with fail
 refine (aw.out w (Below.refl _ _)).mono ?_
 rintro e y ⟨rfl, hb⟩
 replace hb : Hid (Below w.heap.size w y) := hb
 clear aw
 go_wp2_with fail
 refine (pa.out y hb.out).mono ?_
 rintro e z ⟨fv, qv, rfl, hf, hq, hb2, nf1, nq1⟩
 clear nf1 nq1
 simp only at hf hq
 obtain ⟨p1, n1, k1, rfl⟩ := hf.form
 obtain ⟨p2, n2, k2, rfl⟩ := hq.form'
 have hbz : Below w.heap.size w z := hb.out.trans (hb2.mono hb.out.size)
 have za : Below z.heap.size z (z.alloc (.cells (dvA d (.slice p1 n1 k1) (.slice p2 n2 k2)) 33)) := (Below.refl _ _).alloc (Nat.le_refl _) _
 have B2 : Hid (Below w.heap.size w (z.alloc (.cells (dvA d (.slice p1 n1 k1) (.slice p2 n2 k2)) 33))) := hbz.alloc hbz.size _
 have K2 : Hid ((z.alloc (.cells (dvA d (.slice p1 n1 k1) (.slice p2 n2 k2)) 33)).heap[z.heap.size]? = some (.cells (dvA d (.slice p1 n1 k1) (.slice p2 n2 k2)) 33 (0, 0))) := World.alloc_heap_new z _
 have F2 : Hid (FldsAt (z.alloc (.cells (dvA d (.slice p1 n1 k1) (.slice p2 n2 k2)) 33)) (.slice p1 n1 k1) d.fs) := hf.below za
 have Q2 : Hid (BytesAt (z.alloc (.cells (dvA d (.slice p1 n1 k1) (.slice p2 n2 k2)) 33)) (.slice p2 n2 k2) d.rq) := hq.below za
 clear hf hq hb2 hbz za hb pa
 go_upto_region 4 with fail
 change Code.wp Tryz.prog _ _ _ (z.alloc (.cells (dvA d (.slice p1 n1 k1) (.slice p2 n2 k2)) 33))
 generalize z.alloc (.cells (dvA d (.slice p1 n1 k1) (.slice p2 n2 k2)) 33) = y2 at *
 generalize z.heap.size = bD at *
 clear z
 go_wp2_with fail
 refine (rr.out y2).mono ?_
 rintro e y3 ⟨v, rfl, hv, hb3⟩
 have b34 : Below y3.heap.size y3 (y3.alloc (.cells dz 25)) := (Below.refl _ _).alloc (Nat.le_refl _) _
 have L4 : Hid (Below y2.heap.size y2 (y3.alloc (.cells dz 25))) := hb3.trans (b34.mono hb3.size)
 have X4 : Hid ((y3.alloc (.cells dz 25)).heap[y3.heap.size]? = some (.cells dz 25 (0, 0))) := World.alloc_heap_new y3 _
 have V4 : Hid (RowsAt (y3.alloc (.cells dz 25)) v rs) := hv.below b34
 have lt4 : Hid (y2.heap.size ≤ y3.heap.size) := hb3.size
 clear hv hb3 b34 rr
 go_upto_region 6 with fail
 change Code.wp Tryz.prog _ _ _ (y3.alloc (.cells dz 25))
 generalize y3.alloc (.cells dz 25) = y4 at *
 generalize y3.heap.size = bX at *
 clear y3
 have rdv : Hid (Calls Tryz.prog 17 #[v] y4 (ReadQ y4 (d, 0, 0))) := rd.out y4 v V4.out
 clear rd V4
 go_wp2_with fail
 refine rdv.out.mono ?_
 rintro e z ⟨fv, qv, rfl, hf, hq, hb, nf, nq⟩
 simp only at hf hq
 obtain ⟨p3, n3, k3, rfl⟩ := hf.form
 obtain ⟨p4, n4, k4, rfl⟩ := hq.form'
 have Xz := (hb.block _ (Array.getElem?_eq_some_iff.1 X4.out).1).trans X4.out
 have Lz : Below y2.heap.size y2 z := L4.out.trans (hb.mono L4.out.size)
 have xl : bX < y4.heap.size := (Array.getElem?_eq_some_iff.1 X4.out).1
 have off : ∀ k, k ≠ bX → (putD z bX d (.slice p3 n3 k3) (.slice p4 n4 k4)).heap[k]? = z.heap[k]? := fun k hk => put12_off hk _ _ _ _ _ _ _ _ _ _ _ _
 have L5 : Hid (Below y2.heap.size y2 (putD z bX d (.slice p3 n3 k3) (.slice p4 n4 k4))) := putD_below Lz lt4.out d (.slice p3 n3 k3) (.slice p4 n4 k4)
 have F5 : Hid (FldsAt (putD z bX d (.slice p3 n3 k3) (.slice p4 n4 k4)) (.slice p3 n3 k3) d.fs) := hf.on' fun g hg => off g (by have := nf g hg; omega)
 have Q5 : Hid (BytesAt (putD z bX d (.slice p3 n3 k3) (.slice p4 n4 k4)) (.slice p4 n4 k4) d.rq) := hq.on' fun g hg => off g (by have := nq g hg; omega)
 have X5 : Hid ((putD z bX d (.slice p3 n3 k3) (.slice p4 n4 k4)).heap[bX]? = some (.cells (dvA d (.slice p3 n3 k3) (.slice p4 n4 k4)) 25 (0, 0))) := putD_at (y := z) Xz d (.slice p3 n3 k3) (.slice p4 n4 k4)
 obtain ⟨c0, f0, c1, f1, c2, f2, c3, f3, c4, f4, c5, f5, c6, f6, c7, f7, c8, f8, c9, f9, c10, f10, c11, f11⟩ := rd12 Xz
 clear hf hq hb nf nq Xz Lz off xl rdv X4 L4
 go_upto_region 8 with fail
 change Code.wp Tryz.prog _ _ _ (putD z bX d (.slice p3 n3 k3) (.slice p4 n4 k4))
 generalize (putD z bX d (.slice p3 n3 k3) (.slice p4 n4 k4)) = y5 at *
 clear c0 c1 c2 c3 c4 c5 c6 c7 c8 c9 c10 c11 f0 f1 f2 f3 f4 f5 f6 f7 f8 f9 f10 f11 z
 have rc : Hid (QC y5 #[dvV d (.slice p3 n3 k3) (.slice p4 n4 k4)] (ckE d)) := by
  obtain ⟨p3', c3', e3⟩ := F5.out.v.form
  injection e3 with e31 e32 e33
  subst e31 e32 e33
  obtain ⟨p4', c4', e4⟩ := bytes_form Q5.out
  injection e4 with e41 e42 e43
  subst e41 e42 e43
  exact rcheck_any d _ _ _ _ y5 hi.out F5.out.v
 obtain ⟨c0, f0, c1, f1, c2, f2, c3, f3, c4, f4, c5, f5, c6, f6, c7, f7, c8, f8, c9, f9, c10, f10, c11, f11⟩ := rd12 X5.out
 rw [← ck_nat] at rc
 replace rc : Hid (Calls Tryz.prog 12 #[dvV d (.slice p3 n3 k3) (.slice p4 n4 k4)] y5 (QA y5 ((cN d : Nat) : Int))) := rc
 rw [h0] at rc
 clear h0
 clear f0 f1 f2 f3 f4 f5 f6 f7 f8 f9 f10 f11 hi
 go_wp2_with fail
 refine rc.out.mono ?_
 rintro e y6 ⟨rfl, hb⟩
 have L6 : Hid (Below y2.heap.size y2 y6) := L5.out.trans (hb.mono L5.out.size)
 have X6 : Hid (y6.heap[bX]? = some (.cells (dvA d (.slice p3 n3 k3) (.slice p4 n4 k4)) 25 (0, 0))) := (hb.block _ (Array.getElem?_eq_some_iff.1 X5.out).1).trans X5.out
 have F6 : Hid (FldsAt y6 (.slice p3 n3 k3) d.fs) := F5.out.below hb
 have Q6 : Hid (BytesAt y6 (.slice p4 n4 k4) d.rq) := Q5.out.below hb
 clear rc hb L5 X5 F5 Q5 c0 c1 c2 c3 c4 c5 c6 c7 c8 c9 c10 c11
 have sm : Hid (Calls Tryz.prog 15 #[dvV d (.slice p1 n1 k1) (.slice p2 n2 k2), dvV d (.slice p3 n3 k3) (.slice p4 n4 k4)] y6 fun e u => e = .returned (.int .i64 1) ∧ Below y6.heap.size y6 u) := same_any d _ _ _ _ y6 (F2.out.below L6.out) (Q2.out.below L6.out) F6.out Q6.out (by have := h8.out; omega)
 have KF := (L6.out.block _ (Array.getElem?_eq_some_iff.1 K2.out).1).trans K2.out
 have BY : Hid (Below w.heap.size w y6) := B2.out.trans (L6.out.mono B2.out.size)
 obtain ⟨l0, u0, l1, u1, l2, u2, l3, u3, l4, u4, l5, u5, l6, u6, l7, u7, l8, u8, l9, u9, l10, u10, l11, u11⟩ := rd12 KF
 obtain ⟨m0, v0, m1, v1, m2, v2, m3, v3, m4, v4, m5, v5, m6, v6, m7, v7, m8, v8, m9, v9, m10, v10, m11, v11⟩ := rd12 X6.out
 clear u0 u1 u2 u3 u4 u5 u6 u7 u8 u9 u10 u11 v0 v1 v2 v3 v4 v5 v6 v7 v8 v9 v10 v11 KF F2 Q2 K2 B2
 go_wp2_with fail
 refine sm.out.mono ?_
 rintro e u ⟨rfl, hu⟩
 have BF : Hid (Below w.heap.size w u) := BY.out.trans (hu.mono BY.out.size)
 clear sm hu l0 l1 l2 l3 l4 l5 l6 l7 l8 l9 l10 l11 m0 m1 m2 m3 m4 m5 m6 m7 m8 m9 m10 m11
 go_wp2
 go_ret
 exact ⟨rfl, BF.out⟩
theorem reads_long (w : World) (aw : Hid (ShAwC w)) (s : ByteArray) (q1 : decide (4100 < (s.size : Int)) = true) :
 Calls Tryz.prog 4 #[.string s] w fun e y => e = .returned (.bool true) ∧ Below w.heap.size w y := by
 go_enter Tryz.func4, Tryz.ntmps4
 go_wp2_with fail
 refine (aw.out w (Below.refl _ _)).mono ?_
 rintro e y ⟨rfl, hb⟩
 replace hb : Hid (Below w.heap.size w y) := hb
 go_wp2_with fail
 refine (aw.out y hb.out).mono ?_
 rintro e y2 ⟨rfl, hb2⟩
 have hb3 : Hid (Below w.heap.size w y2) := hb.out.trans (hb2.mono hb.out.size)
 clear hb hb2
 go_wp2
 go_ret
 exact ⟨rfl, hb3.out⟩
theorem showreads_any (P : LineP) (w : World) (T7 : Tab7 w) (s : ByteArray) : Calls Tryz.prog 4 #[.string s] w fun e y => e = .returned (.bool true) ∧ Below w.heap.size w y := by
 have aw : Hid (ShAwC w) := shAwC T7
 by_cases hl : 4100 < (s.size : Int)
 · exact reads_long w aw s (decide_eq_true hl)
 · have q1 : decide (4100 < (s.size : Int)) = false := decide_eq_false hl
   have pa : ShRdC w s (chkM (parseM s.data.toList)) := fun x hx => shread_any s x (T7.below hx)
   have rr : Hid (ShRrC s ((lexLine s.data.toList : Nat) : Int) ((lexErr s.data.toList : Nat) : Int) (lexRows s.data.toList)) := fun x => rrows_any s x
   by_cases h0 : lexErr s.data.toList = 0
   · have eP : parseM s.data.toList = readM (lrOf (lexRows s.data.toList)) := by unfold parseM; rw [if_pos h0]
     have bd := lines_bd s.data.toList
     have rd : ShRd2 (lexRows s.data.toList) (readM (lrOf (lexRows s.data.toList))) := fun x v h => rread_of P _ v x (lrs_of h) bd.1 bd.2.1 bd.2.2
     rw [eP] at pa
     rw [h0] at rr
     have hj := read_j (lrOf (lexRows s.data.toList))
     have h8 := read_fs (lrOf (lexRows s.data.toList))
     have h1 := go_err0 (lrOf (lexRows s.data.toList)) dv0 []
     have h2 := go_at0 (lrOf (lexRows s.data.toList)) dv0 []
     change ¬ (readM (lrOf (lexRows s.data.toList))).2.2 = 0 → _ at h1
     change (readM (lrOf (lexRows s.data.toList))).2.2 = 0 → (readM (lrOf (lexRows s.data.toList))).2.1 = 0 at h2
     have h1' : ¬ (readM (lrOf (lexRows s.data.toList))).2.2 = 0 → (readM (lrOf (lexRows s.data.toList))).1 = dv0 := fun h => (h1 h).1
     clear h1
     generalize readM (lrOf (lexRows s.data.toList)) = T at *
     obtain ⟨d, M, EN⟩ := T
     simp only at hj h8 h1' h2
     by_cases hE : EN = 0
     · subst hE
       obtain rfl := h2 rfl
       by_cases hc : cN d = 0
       · have e : chkM (d, 0, 0) = (d, 0, 0) := by unfold chkM; rw [if_pos rfl, if_pos hc]
         rw [e] at pa
         exact reads_D w aw s q1 _ _ 0 d pa rr rd (hj.i h8) hc h8
       · have e : chkM (d, 0, 0) = (dv0, 0, cN d) := by unfold chkM; rw [if_pos rfl, if_neg hc]
         rw [e] at pa
         exact reads_C w aw s q1 _ _ 0 d pa rr rd (hj.i h8) (beq_eq_false_iff_ne.2 (by omega))
     · obtain rfl := h1' hE
       have e : chkM (dv0, M, EN) = (dv0, M, EN) := by unfold chkM; rw [if_neg hE]
       rw [e] at pa
       exact reads_R w aw s q1 _ _ M EN pa rr rd (beq_eq_false_iff_ne.2 (by omega))
   · have eP : parseM s.data.toList = (dv0, (lexLine s.data.toList : Int), lexErr s.data.toList) := by unfold parseM; rw [if_neg h0]
     have e : chkM (dv0, (lexLine s.data.toList : Int), lexErr s.data.toList) = (dv0, (lexLine s.data.toList : Int), lexErr s.data.toList) := by unfold chkM; rw [if_neg h0]
     rw [eP, e] at pa
     exact reads_E w aw s q1 _ _ _ _ rfl pa rr (beq_eq_false_iff_ne.2 (by omega))
theorem line_unknown (f : Wd) (a : List Wd) (d : Dv) (pf : Option Addr) (nf cf : Nat) (pq : Option Addr) (nq cq : Nat) (g o cap : Nat) (w : World) (hc : w.cell? ⟨g, o, none⟩ = some (.string (txt f))) (hl : (a.length : Int) ≤ 5000) (hk : knownB f = false) (vs : Value) (seen : List Wd) :
 Calls Tryz.prog 33 #[dvV d (.slice pf nf cf) (.slice pq nq cq), .slice (some ⟨g, o, none⟩) (a.length + 1) cap, vs] w (LineQ w d (.slice pf nf cf) (.slice pq nq cq) seen (f :: a)) := by
 have m0 := lineM_first w d (.slice pf nf cf) (.slice pq nq cq)
 have n0 : ((a.length : Int) + 1 == 0) = false := beq_eq_false_iff_ne.2 (by omega)
 have e6 : Hid (stepM d seen (f :: a) = .error 6) := by unfold Hid stepM; simp only [hk]; rfl
 go_enter Tryz.func33, Tryz.ntmps33
 go_upto_region 5 with fail
 change Code.wp Tryz.prog _ _ _ (LineW w d (.slice pf nf cf) (.slice pq nq cq))
 have LM0 : Hid (LineM w (LineW w d (.slice pf nf cf) (.slice pq nq cq)) d (.slice pf nf cf) (.slice pq nq cq)) := m0.1
 have lc0 : Hid (∀ (i : Nat) (h : i < 11), (LineW w d (.slice pf nf cf) (.slice pq nq cq)).cell? ⟨w.heap.size + 1 + 1, i, none⟩ = some (.string (txt (allK[i]'h)))) := fun i h => (rd_cell m0.2 i).1.trans (allC_at i h)
 have hc0 : Hid ((LineW w d (.slice pf nf cf) (.slice pq nq cq)).cell? ⟨g, o, none⟩ = some (.string (txt f))) := kp m0.1.b hc
 clear m0 hc
 generalize LineW w d (.slice pf nf cf) (.slice pq nq cq) = x0 at *
 go_wp2
 go_loopw [8, 10] (fun vk vi wr => ∃ n k : Nat, (k : Int) ≤ 11 ∧ wr = x0.drewN n ∧ vi = .int .i64 (k : Int) ∧ vk = .bool (decide (f ∈ allK.take k))) (fun vk vi wr => (11 - intOf vi).toNat)
 case atStart => exact ⟨0, 0, by omega, rfl, rfl, by simp⟩
 case round =>
  obtain ⟨n, k, hk11, rfl, rfl, rfl⟩ := hrel
  by_cases hlt : k < 11
  · have hki : (k : Int) < 11 := by omega
    have st := allK_step f k hlt
    have l1 := lc0.out k hlt
    have l2 := hc0.out
    have wk : IntKind.i64.wrap ((k : Int) + 1) = (k : Int) + 1 := by simp only [IntKind.wrap_i64]; omega
    have cmp : (txt (allK[k]'hlt) == txt f) = decide (allK[k]'hlt = f) := txt_beq _ _
    generalize allK[k]'hlt = ak at *
    clear lc0 hc0 LM0
    cases hd : decide (f ∈ allK.take k)
    · rw [hd, Bool.false_or] at st
      have c2 : ((txt ak).toList == (txt f).toList) = decide (ak = f) := by
       rw [Bool.eq_iff_iff, decide_eq_true_iff, beq_iff_eq, ByteArray.toList_eq, ByteArray.toList_eq]
       exact ⟨fun h => h, fun h => by rw [h]⟩
      generalize decide (ak = f) = R at *
      go_wp2_with fail
      go_quiet (fail)
      go_wp2
      exact ⟨⟨n + nq, k + 1, by omega, rfl, by simp, by rw [st]⟩, by simp [intOf]; omega⟩
    · rw [hd, Bool.true_or] at st
      go_wp2_with fail
      go_quiet (fail)
      go_wp2
      exact ⟨⟨n + nq, k + 1, by omega, rfl, by simp, by rw [st]⟩, by simp [intOf]; omega⟩
  · obtain rfl : k = 11 := by omega
    rw [allK_mem, hk]
    have LM : Hid (LineM w (x0.drewN n) d (.slice pf nf cf) (.slice pq nq cq)) := LM0.out.below (below_drewN (Below.refl _ _) n)
    generalize x0.drewN n = y at *
    have d0 := (LM.out.cells.1 0 _ rfl).1
    have d1 := (LM.out.cells.1 1 _ rfl).1
    have d2 := (LM.out.cells.1 2 _ rfl).1
    have d3 := (LM.out.cells.1 3 _ rfl).1
    have d4 := (LM.out.cells.1 4 _ rfl).1
    have d5 := (LM.out.cells.1 5 _ rfl).1
    have d6 := (LM.out.cells.1 6 _ rfl).1
    have d7 := (LM.out.cells.1 7 _ rfl).1
    have d8 := (LM.out.cells.1 8 _ rfl).1
    have d9 := (LM.out.cells.1 9 _ rfl).1
    have d10 := (LM.out.cells.1 10 _ rfl).1
    have d11 := (LM.out.cells.1 11 _ rfl).1
    obtain ⟨z0, y0⟩ := LM.out.cells.2 0 _ rfl
    obtain ⟨z1, y1⟩ := LM.out.cells.2 1 _ rfl
    obtain ⟨z2, y2⟩ := LM.out.cells.2 2 _ rfl
    obtain ⟨z3, y3⟩ := LM.out.cells.2 3 _ rfl
    obtain ⟨z4, y4⟩ := LM.out.cells.2 4 _ rfl
    obtain ⟨z5, y5⟩ := LM.out.cells.2 5 _ rfl
    obtain ⟨z6, y6⟩ := LM.out.cells.2 6 _ rfl
    obtain ⟨z7, y7⟩ := LM.out.cells.2 7 _ rfl
    obtain ⟨z8, y8⟩ := LM.out.cells.2 8 _ rfl
    obtain ⟨z9, y9⟩ := LM.out.cells.2 9 _ rfl
    obtain ⟨z10, y10⟩ := LM.out.cells.2 10 _ rfl
    obtain ⟨z11, y11⟩ := LM.out.cells.2 11 _ rfl
    clear LM0 lc0 hc0
    go_wp2
    change bodyPost _ _ _ _ _ (putD y (w.heap.size + 1) d (.slice pf nf cf) (.slice pq nq cq))
    have pa := putD_at (y := y) LM.out.rc d (.slice pf nf cf) (.slice pq nq cq)
    have pb := putD_below LM.out.b (show w.heap.size ≤ w.heap.size + 1 by omega) d (.slice pf nf cf) (.slice pq nq cq)
    generalize putD y (w.heap.size + 1) d (.slice pf nf cf) (.slice pq nq cq) = yy at *
    refine bodyPost_ret (res_dev2 Tryz.results33 rfl rfl pa) rfl ?_
    exact ⟨d, pf, nf, cf, pq, nq, cq, by rw [e6.out]; rfl, pb, fun d' hd => by rw [e6.out] at hd; cases hd⟩
end Go.Proofs.YthabffjgdhfbmaaGreatDoor
