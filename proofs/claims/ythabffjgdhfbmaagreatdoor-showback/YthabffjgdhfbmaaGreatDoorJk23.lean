/-
  Texts that belong together, one behind the other: ShBack, LexLaid. Conditions: as each says.
-/
import Derived.BigQuiet
import Derived.ChangeOld
import Derived.Deep.AppendLies
import Derived.Deep.CutRange
import Derived.Deep.QuietTactic
import Derived.Deep.RegionHeld3
import Derived.Deep.SlicePairs
import Derived.Deep.Strs
import Derived.Laws.BitsAllLaws
import Derived.Laws.OwnMore
import Derived.Laws.Shifts
import Derived.Lib.QuietBelowIn
import Derived.MakeChecks
import Derived.Maps.AppendAt
import Derived.OpenShut
import Derived.ProofKit
import Derived.RangeFuncCalls
import Derived.ShutString
import Derived.Sort.BigQuietIn
import Derived.Stop.LaidErr
import Derived.Test.YthabffjgdhfbmaaGreatDoorProg
import Derived.Test.YthabffjgdhfbmaaGreatDoorRows
import Derived.Test.YthabffjgdhfbmaaGreatDoorJk1
import Derived.Test.YthabffjgdhfbmaaGreatDoorJk2
import Derived.Test.YthabffjgdhfbmaaGreatDoorJk3
import Derived.Test.YthabffjgdhfbmaaGreatDoorJk4
import Derived.Test.YthabffjgdhfbmaaGreatDoorJk5
import Derived.Test.YthabffjgdhfbmaaGreatDoorJk6
import Derived.Test.YthabffjgdhfbmaaGreatDoorJk7
import Derived.Test.YthabffjgdhfbmaaGreatDoorJk8
import Derived.Test.YthabffjgdhfbmaaGreatDoorJk9
import Derived.Test.YthabffjgdhfbmaaGreatDoorJk10
import Derived.Test.YthabffjgdhfbmaaGreatDoorJk11
import Derived.Test.YthabffjgdhfbmaaGreatDoorJk12
import Derived.Test.YthabffjgdhfbmaaGreatDoorJk13
import Derived.Test.YthabffjgdhfbmaaGreatDoorJk14
import Derived.Test.YthabffjgdhfbmaaGreatDoorJk15
import Derived.Test.YthabffjgdhfbmaaGreatDoorJk16
import Derived.Test.YthabffjgdhfbmaaGreatDoorJk17
import Derived.Test.YthabffjgdhfbmaaGreatDoorJk18
import Derived.Test.YthabffjgdhfbmaaGreatDoorJk19
import Derived.Test.YthabffjgdhfbmaaGreatDoorJk20
import Derived.Test.YthabffjgdhfbmaaGreatDoorJk21
import Derived.Test.YthabffjgdhfbmaaGreatDoorJk22
set_option maxRecDepth 100000
set_option maxHeartbeats 32000000
set_option linter.unusedVariables false
namespace Go.Proofs.YthabffjgdhfbmaaGreatDoor
open Go.RowKit
theorem below_up {w w1 x : World} (h : Below w.heap.size w w1) (k : Below w1.heap.size w1 x) : Below w.heap.size w x := h.trans (k.mono h.size)
def ShFwC (w : World) (v : Value) (n : Int) : Prop := ∀ x, Below w.heap.size w x → Calls Tryz.prog 9 #[v] x (QA x n)
def ShOfC (w : World) (d : Dv) (v qv : Value) : Prop := ∀ x, Below w.heap.size w x → Calls Tryz.prog 11 #[v] x fun e y => ∃ ov, e = .returned (dvV d ov qv) ∧ FldsV y ov d.fs ∧ Below x.heap.size x y
def ShTxO (w : World) (d : Dv) (qv : Value) (S : ByteArray) (E : Int) : Prop := ∀ x ov, Below w.heap.size w x → FldsV x ov d.fs → Calls Tryz.prog 10 #[dvV d ov qv] x fun e y => e = .returned (.tuple #[.string S, .int .i64 E]) ∧ Below x.heap.size x y
def ShRcC (w : World) (v : Value) (E : Int) : Prop := ∀ x, Below w.heap.size w x → Calls Tryz.prog 12 #[v] x (QA x E)
def ShRtC (w : World) (v : Value) (S : ByteArray) : Prop := ∀ x, Below w.heap.size w x → Calls Tryz.prog 14 #[v] x fun e y => e = .returned (.string S) ∧ Below x.heap.size x y
def ShSmC (w : World) (d : Dv) (v : Value) : Prop := ∀ x fv qv, Below w.heap.size w x → FldsAt x fv d.fs → BytesAt x qv d.rq → Calls Tryz.prog 15 #[dvV d fv qv, v] x fun e y => e = .returned (.int .i64 1) ∧ Below x.heap.size x y
theorem sh_small {z : Wd} (h : ((txt z).size : Int) ≤ 50) : (z.length : Int) ≤ 5000 := by rw [txt_size] at h; omega
theorem shdvi_of {d : Dv} (hf : fewD d = true) (hn : ∀ f ∈ d.fs, FdN f) (hz : I64 d.sz) : DvI d := by
 obtain ⟨h1, h2, h3, h4, h5⟩ := few_bdS hf
 refine ⟨sh_small h1, fun f hf => ?_, hz, by omega⟩
 have k := hn f hf
 exact ⟨sh_small (h5 f hf).1, k.pl, k.wd, k.sn, k.sd, k.on, k.od⟩
theorem back_none (w : World) (aw : Hid (ShAwC w)) (d : Dv) (pf : Option Addr) (nf cf : Nat) (pq : Option Addr) (nq cq : Nat) (hfv : FldsV w (.slice pf nf cf) d.fs) (fw : Hid (ShFwC w (dvV d (.slice pf nf cf) (.slice pq nq cq)) 0)) :
 Calls Tryz.prog 3 #[(dvV d (.slice pf nf cf) (.slice pq nq cq))] w fun e y => e = .returned (.bool true) ∧ Below w.heap.size w y := by
 have B0 : Hid (Below w.heap.size w (w.alloc (.cells #[.string (txt d.nm), .int .i64 d.st, .int .i64 d.es, .int .i64 d.mx, .int .i64 d.sz, .string (txt d.sm), .slice pf nf cf, .slice pq nq cq, .int .i64 d.po, .int .i64 d.ti, .int .i64 d.re, .int .i64 d.ag] 25))) := (Below.refl _ _).alloc (Nat.le_refl _) _
 have DD : Hid (DevB (w.alloc (.cells #[.string (txt d.nm), .int .i64 d.st, .int .i64 d.es, .int .i64 d.mx, .int .i64 d.sz, .string (txt d.sm), .slice pf nf cf, .slice pq nq cq, .int .i64 d.po, .int .i64 d.ti, .int .i64 d.re, .int .i64 d.ag] 25)) w.heap.size d (.slice pf nf cf) (.slice pq nq cq)) := DevB.new hfv _
 clear hfv
 go_enter Tryz.func3, Tryz.ntmps3
 go_upto_region 1 with fail
 generalize w.alloc (.cells #[.string (txt d.nm), .int .i64 d.st, .int .i64 d.es, .int .i64 d.mx, .int .i64 d.sz, .string (txt d.sm), .slice pf nf cf, .slice pq nq cq, .int .i64 d.po, .int .i64 d.ti, .int .i64 d.re, .int .i64 d.ag] 25) = w1 at *
 go_wp2_with fail
 refine (aw.out w1 B0.out).mono ?_
 rintro e y ⟨rfl, hb⟩
 have L1 : Hid (Below w1.heap.size w1 y) := hb
 clear hb
 obtain ⟨c0, c1, c2, c3, c4, c5, c6, c7, c8, c9, c10, c11⟩ := (DD.out.below L1.out).cells
 go_wp2_with fail
 refine (fw.out y (below_up B0.out L1.out)).mono ?_
 rintro e z ⟨rfl, hb⟩
 have L2 : Hid (Below w1.heap.size w1 z) := L1.out.trans (hb.mono L1.out.size)
 clear hb L1 fw
 clear c0 c1 c2 c3 c4 c5 c6 c7 c8 c9 c10 c11
 go_wp2_with fail
 refine (aw.out z (below_up B0.out L2.out)).mono ?_
 rintro e u ⟨rfl, hb⟩
 have BF : Hid (Below w.heap.size w u) := (below_up B0.out L2.out).trans (hb.mono (below_up B0.out L2.out).size)
 clear hb L2 aw
 go_wp2
 go_ret
 exact ⟨rfl, BF.out⟩
theorem back_bad (w : World) (aw : Hid (ShAwC w)) (d : Dv) (pf : Option Addr) (nf cf : Nat) (pq : Option Addr) (nq cq : Nat) (hfv : FldsV w (.slice pf nf cf) d.fs) (fw : Hid (ShFwC w (dvV d (.slice pf nf cf) (.slice pq nq cq)) 1)) (of : Hid (ShOfC w d (dvV d (.slice pf nf cf) (.slice pq nq cq)) (.slice pq nq cq))) (E : Int) (hE : (E == 0) = false) (tx : Hid (ShTxO w d (.slice pq nq cq) ⟨#[]⟩ E)) (rc : Hid (ShRcC w (dvV d (.slice pf nf cf) (.slice pq nq cq)) E)) :
 Calls Tryz.prog 3 #[(dvV d (.slice pf nf cf) (.slice pq nq cq))] w fun e y => e = .returned (.bool true) ∧ Below w.heap.size w y := by
 have B0 : Hid (Below w.heap.size w (w.alloc (.cells #[.string (txt d.nm), .int .i64 d.st, .int .i64 d.es, .int .i64 d.mx, .int .i64 d.sz, .string (txt d.sm), .slice pf nf cf, .slice pq nq cq, .int .i64 d.po, .int .i64 d.ti, .int .i64 d.re, .int .i64 d.ag] 25))) := (Below.refl _ _).alloc (Nat.le_refl _) _
 have DD : Hid (DevB (w.alloc (.cells #[.string (txt d.nm), .int .i64 d.st, .int .i64 d.es, .int .i64 d.mx, .int .i64 d.sz, .string (txt d.sm), .slice pf nf cf, .slice pq nq cq, .int .i64 d.po, .int .i64 d.ti, .int .i64 d.re, .int .i64 d.ag] 25)) w.heap.size d (.slice pf nf cf) (.slice pq nq cq)) := DevB.new hfv _
 clear hfv
 go_enter Tryz.func3, Tryz.ntmps3
 go_upto_region 1 with fail
 generalize w.alloc (.cells #[.string (txt d.nm), .int .i64 d.st, .int .i64 d.es, .int .i64 d.mx, .int .i64 d.sz, .string (txt d.sm), .slice pf nf cf, .slice pq nq cq, .int .i64 d.po, .int .i64 d.ti, .int .i64 d.re, .int .i64 d.ag] 25) = w1 at *
 go_wp2_with fail
 refine (aw.out w1 B0.out).mono ?_
 rintro e y ⟨rfl, hb⟩
 have L1 : Hid (Below w1.heap.size w1 y) := hb
 clear hb
 obtain ⟨c0, c1, c2, c3, c4, c5, c6, c7, c8, c9, c10, c11⟩ := (DD.out.below L1.out).cells
 go_wp2_with fail
 refine (fw.out y (below_up B0.out L1.out)).mono ?_
 rintro e z ⟨rfl, hb⟩
 have L2 : Hid (Below w1.heap.size w1 z) := L1.out.trans (hb.mono L1.out.size)
 clear hb L1 fw
 clear c0 c1 c2 c3 c4 c5 c6 c7 c8 c9 c10 c11
 obtain ⟨c0, c1, c2, c3, c4, c5, c6, c7, c8, c9, c10, c11⟩ := (DD.out.below L2.out).cells
 go_wp2_with fail
 refine (of.out z (below_up B0.out L2.out)).mono ?_
 rintro e u ⟨ov, rfl, hov, hb⟩
 have L3 : Hid (Below w1.heap.size w1 u) := L2.out.trans (hb.mono L2.out.size)
 obtain ⟨po, co, rfl⟩ := hov.form
 replace hov : Hid (FldsV u (.slice po d.fs.length co) d.fs) := hov
 clear hb L2 of
 clear c0 c1 c2 c3 c4 c5 c6 c7 c8 c9 c10 c11
 go_wp2_with fail
 refine (tx.out u _ (below_up B0.out L3.out) hov.out).mono ?_
 rintro e x ⟨rfl, hb⟩
 have L4 : Hid (Below w1.heap.size w1 x) := L3.out.trans (hb.mono L3.out.size)
 clear hb L3 tx hov
 obtain ⟨c0, c1, c2, c3, c4, c5, c6, c7, c8, c9, c10, c11⟩ := (DD.out.below L4.out).cells
 go_wp2_with fail
 refine (rc.out x (below_up B0.out L4.out)).mono ?_
 rintro e z ⟨rfl, hb⟩
 have L5 : Hid (Below w1.heap.size w1 z) := L4.out.trans (hb.mono L4.out.size)
 clear hb L4 rc
 clear c0 c1 c2 c3 c4 c5 c6 c7 c8 c9 c10 c11
 have hE2 : (E != 0) = true := by rw [bne, hE]; rfl
 have BF : Hid (Below w.heap.size w z) := below_up B0.out L5.out
 clear L5
 go_wp2
 go_ret
 exact ⟨rfl, BF.out⟩
theorem back_good (w : World) (aw : Hid (ShAwC w)) (d : Dv) (pf : Option Addr) (nf cf : Nat) (pq : Option Addr) (nq cq : Nat) (hfv : FldsV w (.slice pf nf cf) d.fs) (fw : Hid (ShFwC w (dvV d (.slice pf nf cf) (.slice pq nq cq)) 1)) (of : Hid (ShOfC w d (dvV d (.slice pf nf cf) (.slice pq nq cq)) (.slice pq nq cq))) (S : ByteArray) (tx : Hid (ShTxO w d (.slice pq nq cq) S 0)) (rc : Hid (ShRcC w (dvV d (.slice pf nf cf) (.slice pq nq cq)) 0)) (rt : Hid (ShRtC w (dvV d (.slice pf nf cf) (.slice pq nq cq)) S)) (rd : Hid (ShRdC w S (d, 0, 0))) (sm : Hid (ShSmC w d (dvV d (.slice pf nf cf) (.slice pq nq cq)))) :
 Calls Tryz.prog 3 #[(dvV d (.slice pf nf cf) (.slice pq nq cq))] w fun e y => e = .returned (.bool true) ∧ Below w.heap.size w y := by
 have B0 : Hid (Below w.heap.size w (w.alloc (.cells #[.string (txt d.nm), .int .i64 d.st, .int .i64 d.es, .int .i64 d.mx, .int .i64 d.sz, .string (txt d.sm), .slice pf nf cf, .slice pq nq cq, .int .i64 d.po, .int .i64 d.ti, .int .i64 d.re, .int .i64 d.ag] 25))) := (Below.refl _ _).alloc (Nat.le_refl _) _
 have DD : Hid (DevB (w.alloc (.cells #[.string (txt d.nm), .int .i64 d.st, .int .i64 d.es, .int .i64 d.mx, .int .i64 d.sz, .string (txt d.sm), .slice pf nf cf, .slice pq nq cq, .int .i64 d.po, .int .i64 d.ti, .int .i64 d.re, .int .i64 d.ag] 25)) w.heap.size d (.slice pf nf cf) (.slice pq nq cq)) := DevB.new hfv _
 clear hfv
 go_enter Tryz.func3, Tryz.ntmps3
 go_upto_region 1 with fail
 generalize w.alloc (.cells #[.string (txt d.nm), .int .i64 d.st, .int .i64 d.es, .int .i64 d.mx, .int .i64 d.sz, .string (txt d.sm), .slice pf nf cf, .slice pq nq cq, .int .i64 d.po, .int .i64 d.ti, .int .i64 d.re, .int .i64 d.ag] 25) = w1 at *
 go_wp2_with fail
 refine (aw.out w1 B0.out).mono ?_
 rintro e y ⟨rfl, hb⟩
 have L1 : Hid (Below w1.heap.size w1 y) := hb
 clear hb
 obtain ⟨c0, c1, c2, c3, c4, c5, c6, c7, c8, c9, c10, c11⟩ := (DD.out.below L1.out).cells
 go_wp2_with fail
 refine (fw.out y (below_up B0.out L1.out)).mono ?_
 rintro e z ⟨rfl, hb⟩
 have L2 : Hid (Below w1.heap.size w1 z) := L1.out.trans (hb.mono L1.out.size)
 clear hb L1 fw
 clear c0 c1 c2 c3 c4 c5 c6 c7 c8 c9 c10 c11
 obtain ⟨c0, c1, c2, c3, c4, c5, c6, c7, c8, c9, c10, c11⟩ := (DD.out.below L2.out).cells
 go_wp2_with fail
 refine (of.out z (below_up B0.out L2.out)).mono ?_
 rintro e u ⟨ov, rfl, hov, hb⟩
 have L3 : Hid (Below w1.heap.size w1 u) := L2.out.trans (hb.mono L2.out.size)
 obtain ⟨po, co, rfl⟩ := hov.form
 replace hov : Hid (FldsV u (.slice po d.fs.length co) d.fs) := hov
 clear hb L2 of
 clear c0 c1 c2 c3 c4 c5 c6 c7 c8 c9 c10 c11
 go_wp2_with fail
 refine (tx.out u _ (below_up B0.out L3.out) hov.out).mono ?_
 rintro e x ⟨rfl, hb⟩
 have L4 : Hid (Below w1.heap.size w1 x) := L3.out.trans (hb.mono L3.out.size)
 clear hb L3 tx hov
 obtain ⟨c0, c1, c2, c3, c4, c5, c6, c7, c8, c9, c10, c11⟩ := (DD.out.below L4.out).cells
 go_wp2_with fail
 refine (rc.out x (below_up B0.out L4.out)).mono ?_
 rintro e z ⟨rfl, hb⟩
 have L5 : Hid (Below w1.heap.size w1 z) := L4.out.trans (hb.mono L4.out.size)
 clear hb L4 rc
 clear c0 c1 c2 c3 c4 c5 c6 c7 c8 c9 c10 c11
 go_wp2_with fail
 refine (rd.out z (below_up B0.out L5.out)).mono ?_
 rintro e u ⟨fv, qv, rfl, hf, hq, hb, nf1, nq1⟩
 simp only at hf hq
 obtain ⟨p3, n3, k3, rfl⟩ := hf.form
 obtain ⟨p4, n4, k4, rfl⟩ := hq.form'
 have Lu : Below w1.heap.size w1 u := L5.out.trans (hb.mono L5.out.size)
 have ub : Below u.heap.size u (u.alloc (.cells #[.string (txt d.nm), .int .i64 d.st, .int .i64 d.es, .int .i64 d.mx, .int .i64 d.sz, .string (txt d.sm), .slice p3 n3 k3, .slice p4 n4 k4, .int .i64 d.po, .int .i64 d.ti, .int .i64 d.re, .int .i64 d.ag] 33)) := (Below.refl _ _).alloc (Nat.le_refl _) _
 have L6 : Hid (Below w1.heap.size w1 (u.alloc (.cells #[.string (txt d.nm), .int .i64 d.st, .int .i64 d.es, .int .i64 d.mx, .int .i64 d.sz, .string (txt d.sm), .slice p3 n3 k3, .slice p4 n4 k4, .int .i64 d.po, .int .i64 d.ti, .int .i64 d.re, .int .i64 d.ag] 33))) := Lu.trans (ub.mono Lu.size)
 have X6 : Hid ((u.alloc (.cells #[.string (txt d.nm), .int .i64 d.st, .int .i64 d.es, .int .i64 d.mx, .int .i64 d.sz, .string (txt d.sm), .slice p3 n3 k3, .slice p4 n4 k4, .int .i64 d.po, .int .i64 d.ti, .int .i64 d.re, .int .i64 d.ag] 33)).heap[u.heap.size]? = some (.cells #[.string (txt d.nm), .int .i64 d.st, .int .i64 d.es, .int .i64 d.mx, .int .i64 d.sz, .string (txt d.sm), .slice p3 n3 k3, .slice p4 n4 k4, .int .i64 d.po, .int .i64 d.ti, .int .i64 d.re, .int .i64 d.ag] 33 (0, 0))) := World.alloc_heap_new u _
 have F6 : Hid (FldsAt (u.alloc (.cells #[.string (txt d.nm), .int .i64 d.st, .int .i64 d.es, .int .i64 d.mx, .int .i64 d.sz, .string (txt d.sm), .slice p3 n3 k3, .slice p4 n4 k4, .int .i64 d.po, .int .i64 d.ti, .int .i64 d.re, .int .i64 d.ag] 33)) (.slice p3 n3 k3) d.fs) := hf.below ub
 have Q6 : Hid (BytesAt (u.alloc (.cells #[.string (txt d.nm), .int .i64 d.st, .int .i64 d.es, .int .i64 d.mx, .int .i64 d.sz, .string (txt d.sm), .slice p3 n3 k3, .slice p4 n4 k4, .int .i64 d.po, .int .i64 d.ti, .int .i64 d.re, .int .i64 d.ag] 33)) (.slice p4 n4 k4) d.rq) := hq.below ub
 clear hf hq hb nf1 nq1 Lu ub L5 rd
 go_upto_region 8 with fail
 change Code.wp Tryz.prog _ _ _ (u.alloc (.cells #[.string (txt d.nm), .int .i64 d.st, .int .i64 d.es, .int .i64 d.mx, .int .i64 d.sz, .string (txt d.sm), .slice p3 n3 k3, .slice p4 n4 k4, .int .i64 d.po, .int .i64 d.ti, .int .i64 d.re, .int .i64 d.ag] 33))
 generalize u.alloc (.cells #[.string (txt d.nm), .int .i64 d.st, .int .i64 d.es, .int .i64 d.mx, .int .i64 d.sz, .string (txt d.sm), .slice p3 n3 k3, .slice p4 n4 k4, .int .i64 d.po, .int .i64 d.ti, .int .i64 d.re, .int .i64 d.ag] 33) = u2 at *
 generalize u.heap.size = bX at *
 clear u
 obtain ⟨c0, c1, c2, c3, c4, c5, c6, c7, c8, c9, c10, c11⟩ := (DD.out.below L6.out).cells
 go_wp2_with fail
 refine (rt.out u2 (below_up B0.out L6.out)).mono ?_
 rintro e y2 ⟨rfl, hb⟩
 have L7 : Hid (Below w1.heap.size w1 y2) := L6.out.trans (hb.mono L6.out.size)
 have X7 := (hb.block _ (Array.getElem?_eq_some_iff.1 X6.out).1).trans X6.out
 have F7 : Hid (FldsAt y2 (.slice p3 n3 k3) d.fs) := F6.out.below hb
 have Q7 : Hid (BytesAt y2 (.slice p4 n4 k4) d.rq) := Q6.out.below hb
 clear hb L6 X6 F6 Q6 rt
 clear c0 c1 c2 c3 c4 c5 c6 c7 c8 c9 c10 c11
 obtain ⟨c0, c1, c2, c3, c4, c5, c6, c7, c8, c9, c10, c11⟩ := (DD.out.below L7.out).cells
 obtain ⟨m0, v0⟩ := rd_cell X7 0
 obtain ⟨m1, v1⟩ := rd_cell X7 1
 obtain ⟨m2, v2⟩ := rd_cell X7 2
 obtain ⟨m3, v3⟩ := rd_cell X7 3
 obtain ⟨m4, v4⟩ := rd_cell X7 4
 obtain ⟨m5, v5⟩ := rd_cell X7 5
 obtain ⟨m6, v6⟩ := rd_cell X7 6
 obtain ⟨m7, v7⟩ := rd_cell X7 7
 obtain ⟨m8, v8⟩ := rd_cell X7 8
 obtain ⟨m9, v9⟩ := rd_cell X7 9
 obtain ⟨m10, v10⟩ := rd_cell X7 10
 obtain ⟨m11, v11⟩ := rd_cell X7 11
 simp only [List.getElem?_toArray, List.getElem?_cons_zero, List.getElem?_cons_succ] at m0 m1 m2 m3 m4 m5 m6 m7 m8 m9 m10 m11
 clear v0 v1 v2 v3 v4 v5 v6 v7 v8 v9 v10 v11
 clear X7
 go_wp2_with fail
 refine (sm.out y2 _ _ (below_up B0.out L7.out) F7.out Q7.out).mono ?_
 rintro e u3 ⟨rfl, hb⟩
 have BF : Hid (Below w.heap.size w u3) := (below_up B0.out L7.out).trans (hb.mono (below_up B0.out L7.out).size)
 clear hb L7 F7 Q7 sm m0 m1 m2 m3 m4 m5 m6 m7 m8 m9 m10 m11
 clear c0 c1 c2 c3 c4 c5 c6 c7 c8 c9 c10 c11
 go_wp2
 go_ret
 exact ⟨rfl, BF.out⟩
theorem showback_any (w : World) (T7 : Tab7 w) (d : Dv) (fv : Value) (pq : Option Addr) (cq : Nat) (hd : DvH w (dvV d fv (.slice pq d.rq.length cq)) d fv pq cq) :
 Calls Tryz.prog 3 #[dvV d fv (.slice pq d.rq.length cq)] w fun e y => e = .returned (.bool true) ∧ Below w.heap.size w y := by
 have aw : Hid (ShAwC w) := shAwC T7
 have fw : ∀ x, Below w.heap.size w x → Calls Tryz.prog 9 #[dvV d fv (.slice pq d.rq.length cq)] x (QA x (oneI (fewD d))) := fun x hx => fewd_any d fv pq d.rq.length cq x rfl (hd.fl.below hx)
 obtain ⟨pf, cf, rfl⟩ := hd.fl.form
 cases hF : fewD d with
 | false =>
  rw [hF] at fw
  exact back_none w aw d _ _ _ _ _ _ hd.fl fw
 | true =>
  rw [hF] at fw
  have hi := shdvi_of hF hd.fn hd.sz
  have of : Hid (ShOfC w d (dvV d (.slice pf d.fs.length cf) (.slice pq d.rq.length cq)) (.slice pq d.rq.length cq)) := fun x hx => lof_any d _ pq _ cq x (hd.fl.below hx) hi.ln
  have rc : ShRcC w (dvV d (.slice pf d.fs.length cf) (.slice pq d.rq.length cq)) (ckE d) := fun x hx => rcheck_any d pf pq cf cq x hi (hd.fl.below hx)
  have tx : ShTxO w d (.slice pq d.rq.length cq) (txt (shT d)) (ckE d) := fun x ov hx hov => shtext_any d ov _ x hi hd.rb (hd.rq.below hx) hov
  by_cases h0 : ckE d = 0
  · have hs := hi.snd h0 hd.rb
    have ho := hs.ok
    have rq1 : ¬ d.rq = [] := fun e => by have := ho.rq.1; rw [e] at this; simp at this
    have e1 : shT d = textD d := by unfold shT; rw [if_pos h0]
    rw [h0] at rc tx
    rw [e1] at tx
    have e2 : chkM (parseM (txt (textD d)).data.toList) = (d, 0, 0) := by
     rw [show (txt (textD d)).data.toList = textD d from rfl, parse_text ho, chk_sound h0]
    have rd : Hid (ShRdC w (txt (textD d)) (d, 0, 0)) := fun x hx => by
     have k := shread_any (txt (textD d)) x (T7.below hx)
     rw [e2] at k
     exact k
    have rt : Hid (ShRtC w (dvV d (.slice pf d.fs.length cf) (.slice pq d.rq.length cq)) (txt (textD d))) := fun x hx => rtext10_any d _ _ x ho (hd.fl.below hx) ((hd.rq.at rq1).below hx)
    have sm : Hid (ShSmC w d (dvV d (.slice pf d.fs.length cf) (.slice pq d.rq.length cq))) := fun x f q hx hf hq => same_v d f q _ _ x hf.v hq (hd.fl.below hx) ((hd.rq.at rq1).below hx) (by have := hi.ln; omega)
    exact back_good w aw d _ _ _ _ _ _ hd.fl fw of _ tx rc rt rd sm
  · have e1 : txt (shT d) = ⟨#[]⟩ := by unfold shT; rw [if_neg h0]; rfl
    rw [e1] at tx
    exact back_bad w aw d _ _ _ _ _ _ hd.fl fw of _ (beq_eq_false_iff_ne.2 h0) tx rc
theorem laid_space : (Rows.laid_strings_asciiSpace : DataW Unit) = Lib.tabData .u8 Lib.asciiSpaceTab := by kernel_rfl
theorem tab7_of {W : World} (h : laidMetH Tryz.prog [("unicode.White_Space", Rows.laid_unicode_White_Space), ("strings.asciiSpace", Rows.laid_strings_asciiSpace)] W) : Tab7 W := by
 rw [MakeChecks.laidMetH_plain _ _ _ (by kernel_rfl)] at h
 have h2 := h.tail
 rw [laid_space] at h2
 exact Tab7.of (Lib.tabIs_of_head (g := 0) (t := 170) (e := 5) (n := 256) (by kernel_rfl) (by kernel_rfl) Tryz.underlying170 Tryz.underlying5 (by kernel_rfl) (by kernel_rfl) h2)
end Go.Proofs.YthabffjgdhfbmaaGreatDoor
