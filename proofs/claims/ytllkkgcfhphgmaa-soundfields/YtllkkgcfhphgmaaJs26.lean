/-
  Texts that belong together, one behind the other: SnFl. Conditions: as each says.
-/
import Derived.BigQuiet
import Derived.Lib.QuietBelow
import Derived.Test.YtllkkgcfhphgmaaJs25
/-
  SoundFields, out of what its callees return (layer 9). Conditions: the device's fields lie in memory that was there; numbers are of their kinds.
-/
namespace Go.Proofs.Ytllkkgcfhphgmaa
open Go.RowKit
set_option linter.unusedVariables false

set_option maxRecDepth 100000 in
set_option maxHeartbeats 8000000 in
theorem sfields_any (w : World) (d : Dv) (fv : Value) (pq : Option Addr) (cq : Nat) (f : Fd) (hd : DvH w (dvV d fv (.slice pq d.rq.length cq)) d fv pq cq) (hf : FdN f) :
    Calls Try.prog 4 #[dvV d fv (.slice pq d.rq.length cq), fdV f] w fun e w' => e = .returned (.bool true) ∧ Below w.heap.size w w' := by
  have aw : Hid AwC9 := awC9
  have fw : Hid (FwC w d fv pq cq (fewD d)) := fwC hd.fl
  have hB0 : Below w.heap.size w (w.alloc (.cells #[.string (txt d.nm), .int .i64 d.st, .int .i64 d.es, .int .i64 d.mx, .int .i64 d.sz, .string (txt d.sm), fv, .slice pq d.rq.length cq, .int .i64 d.po, .int .i64 d.ti, .int .i64 d.re, .int .i64 d.ag] 25)) := (Below.refl _ _).alloc (Nat.le_refl _) _
  have hB1 : Below (w.alloc (.cells #[.string (txt d.nm), .int .i64 d.st, .int .i64 d.es, .int .i64 d.mx, .int .i64 d.sz, .string (txt d.sm), fv, .slice pq d.rq.length cq, .int .i64 d.po, .int .i64 d.ti, .int .i64 d.re, .int .i64 d.ag] 25)).heap.size (w.alloc (.cells #[.string (txt d.nm), .int .i64 d.st, .int .i64 d.es, .int .i64 d.mx, .int .i64 d.sz, .string (txt d.sm), fv, .slice pq d.rq.length cq, .int .i64 d.po, .int .i64 d.ti, .int .i64 d.re, .int .i64 d.ag] 25)) ((w.alloc (.cells #[.string (txt d.nm), .int .i64 d.st, .int .i64 d.es, .int .i64 d.mx, .int .i64 d.sz, .string (txt d.sm), fv, .slice pq d.rq.length cq, .int .i64 d.po, .int .i64 d.ti, .int .i64 d.re, .int .i64 d.ag] 25)).alloc (.cells #[.string (txt f.nm), .int .i64 f.pl, .string (txt f.kd), .int .i64 f.wd, .int .i64 f.sn, .int .i64 f.sd, .int .i64 f.on, .int .i64 f.od, .string (txt f.un)] 41)) := (Below.refl _ _).alloc (Nat.le_refl _) _
  have D0 : Hid (DvO ((w.alloc (.cells #[.string (txt d.nm), .int .i64 d.st, .int .i64 d.es, .int .i64 d.mx, .int .i64 d.sz, .string (txt d.sm), fv, .slice pq d.rq.length cq, .int .i64 d.po, .int .i64 d.ti, .int .i64 d.re, .int .i64 d.ag] 25)).alloc (.cells #[.string (txt f.nm), .int .i64 f.pl, .string (txt f.kd), .int .i64 f.wd, .int .i64 f.sn, .int .i64 f.sd, .int .i64 f.on, .int .i64 f.od, .string (txt f.un)] 41)) w.heap.size d fv (.slice pq d.rq.length cq)) := (DvO.new hd.fl).below hB1
  have F0 : Hid (FdB ((w.alloc (.cells #[.string (txt d.nm), .int .i64 d.st, .int .i64 d.es, .int .i64 d.mx, .int .i64 d.sz, .string (txt d.sm), fv, .slice pq d.rq.length cq, .int .i64 d.po, .int .i64 d.ti, .int .i64 d.re, .int .i64 d.ag] 25)).alloc (.cells #[.string (txt f.nm), .int .i64 f.pl, .string (txt f.kd), .int .i64 f.wd, .int .i64 f.sn, .int .i64 f.sd, .int .i64 f.on, .int .i64 f.od, .string (txt f.un)] 41)) (w.heap.size + 1) f) := by
    have k := FdB.new (w.alloc (.cells #[.string (txt d.nm), .int .i64 d.st, .int .i64 d.es, .int .i64 d.mx, .int .i64 d.sz, .string (txt d.sm), fv, .slice pq d.rq.length cq, .int .i64 d.po, .int .i64 d.ti, .int .i64 d.re, .int .i64 d.ag] 25)) f 41
    rw [World.size_alloc] at k
    exact k
  have B0 : Hid (Below w.heap.size w ((w.alloc (.cells #[.string (txt d.nm), .int .i64 d.st, .int .i64 d.es, .int .i64 d.mx, .int .i64 d.sz, .string (txt d.sm), fv, .slice pq d.rq.length cq, .int .i64 d.po, .int .i64 d.ti, .int .i64 d.re, .int .i64 d.ag] 25)).alloc (.cells #[.string (txt f.nm), .int .i64 f.pl, .string (txt f.kd), .int .i64 f.wd, .int .i64 f.sn, .int .i64 f.sd, .int .i64 f.on, .int .i64 f.od, .string (txt f.un)] 41))) := hB0.trans (hB1.mono hB0.size)
  have hz : Hid (I64 d.sz) := hd.sz
  replace hd : Hid (DvH w (dvV d fv (.slice pq d.rq.length cq)) d fv pq cq) := hd
  replace hf : Hid (FdN f) := hf
  clear hB0 hB1
  obtain ⟨pf, cf, rfl⟩ := hd.out.fl.form
  go_enter Try.func4, Try.ntmps4
  go_wp2_with fail
  refine (aw.out _).mono ?_
  rintro e y1 ⟨rfl, hb⟩
  have D1 : Hid (DvO y1 w.heap.size d (.slice pf d.fs.length cf) (.slice pq d.rq.length cq)) := D0.out.below hb
  have F1 : Hid (FdB y1 (w.heap.size + 1) f) := F0.out.below hb
  have B1 : Hid (Below w.heap.size w y1) := B0.out.trans (hb.mono B0.out.size)
  clear hb D0 F0 B0
  obtain ⟨z0, z1, z2, z3, z4, z5, z6, z7, z8, z9, z10, z11⟩ := D1.out.cells
  have fk : Hid (Calls Try.prog 7 #[.agg #[.string (txt d.nm), .int .i64 d.st, .int .i64 d.es, .int .i64 d.mx, .int .i64 d.sz, .string (txt d.sm), (.slice pf d.fs.length cf), .slice pq d.rq.length cq, .int .i64 d.po, .int .i64 d.ti, .int .i64 d.re, .int .i64 d.ag]] y1 (QA y1 (oneI (fewD d)))) := fw.out y1 B1.out
  clear fw
  generalize fewD d = T at *
  go_wp2_with fail
  refine fk.out.mono ?_
  rintro e y2 ⟨rfl, hb⟩
  have D2 : Hid (DvO y2 w.heap.size d (.slice pf d.fs.length cf) (.slice pq d.rq.length cq)) := D1.out.below hb
  have F2 : Hid (FdB y2 (w.heap.size + 1) f) := F1.out.below hb
  have B2 : Hid (Below w.heap.size w y2) := B1.out.trans (hb.mono B1.out.size)
  clear hb D1 F1 B1 fk z0 z1 z2 z3 z4 z5 z6 z7 z8 z9 z10 z11
  cases T
  · have e0 : oneI false = 0 := rfl
    rw [e0]
    clear D2 F2
    go_wp2_with fail
    refine (aw.out _).mono ?_
    rintro e y3 ⟨rfl, hb⟩
    have B3 : Hid (Below w.heap.size w y3) := B2.out.trans (hb.mono B2.out.size)
    clear hb B2 aw
    go_wp2
    go_ret
    exact ⟨rfl, B3.out⟩
  have e0 : oneI true = 1 := rfl
  rw [e0]
  clear e0
  obtain ⟨_, _, _, _, z4, _⟩ := D2.out.cells
  obtain ⟨c0, c1, c2, c3, c4, c5, c6, c7, c8⟩ := F2.out.cells
  by_cases q1 : ((txt f.nm).size : Int) ≤ 50
  rotate_left
  · clear D2 F2
    generalize txt f.nm = N1 at *
    generalize txt f.kd = N2 at *
    generalize txt f.un = N3 at *
    go_wp2_with fail
    refine (aw.out _).mono ?_
    rintro e y3 ⟨rfl, hb⟩
    have B3 : Hid (Below w.heap.size w y3) := B2.out.trans (hb.mono B2.out.size)
    clear hb B2 aw
    go_wp2
    go_ret
    exact ⟨rfl, B3.out⟩
  by_cases q2 : ((txt f.kd).size : Int) ≤ 50
  rotate_left
  · clear D2 F2
    generalize txt f.nm = N1 at *
    generalize txt f.kd = N2 at *
    generalize txt f.un = N3 at *
    go_wp2_with fail
    refine (aw.out _).mono ?_
    rintro e y3 ⟨rfl, hb⟩
    have B3 : Hid (Below w.heap.size w y3) := B2.out.trans (hb.mono B2.out.size)
    clear hb B2 aw
    go_wp2
    go_ret
    exact ⟨rfl, B3.out⟩
  by_cases q3 : ((txt f.un).size : Int) ≤ 50
  rotate_left
  · clear D2 F2
    generalize txt f.nm = N1 at *
    generalize txt f.kd = N2 at *
    generalize txt f.un = N3 at *
    go_wp2_with fail
    refine (aw.out _).mono ?_
    rintro e y3 ⟨rfl, hb⟩
    have B3 : Hid (Below w.heap.size w y3) := B2.out.trans (hb.mono B2.out.size)
    clear hb B2 aw
    go_wp2
    go_ret
    exact ⟨rfl, B3.out⟩
  by_cases q4 : 0 ≤ d.sz
  rotate_left
  · clear D2 F2
    generalize txt f.nm = N1 at *
    generalize txt f.kd = N2 at *
    generalize txt f.un = N3 at *
    go_wp2_with fail
    refine (aw.out _).mono ?_
    rintro e y3 ⟨rfl, hb⟩
    have B3 : Hid (Below w.heap.size w y3) := B2.out.trans (hb.mono B2.out.size)
    clear hb B2 aw
    go_wp2
    go_ret
    exact ⟨rfl, B3.out⟩
  by_cases q5 : d.sz ≤ 1000
  rotate_left
  · clear D2 F2
    generalize txt f.nm = N1 at *
    generalize txt f.kd = N2 at *
    generalize txt f.un = N3 at *
    go_wp2_with fail
    refine (aw.out _).mono ?_
    rintro e y3 ⟨rfl, hb⟩
    have B3 : Hid (Below w.heap.size w y3) := B2.out.trans (hb.mono B2.out.size)
    clear hb B2 aw
    go_wp2
    go_ret
    exact ⟨rfl, B3.out⟩
  have hs1 : Hid (((txt f.nm).size : Int) ≤ 50) := q1
  have Bn : Below y2.heap.size y2 (y2.alloc (.cells #[.string (txt f.nm), .int .i64 f.pl, .string (txt f.kd), .int .i64 f.wd, .int .i64 f.sn, .int .i64 f.sd, .int .i64 f.on, .int .i64 f.od, .string (txt f.un)] 41)) := (Below.refl _ _).alloc (Nat.le_refl _) _
  have Dn := D2.out.below Bn
  have Fn := F2.out.below Bn
  have n6 := Dn.cells.2.2.2.2.2.2.1
  have m6 := Dn.frozen 6
  have sl := flds_new y2 f 41
  have Dp : Hid (DvO ((y2.alloc (.cells #[.string (txt f.nm), .int .i64 f.pl, .string (txt f.kd), .int .i64 f.wd, .int .i64 f.sn, .int .i64 f.sd, .int .i64 f.on, .int .i64 f.od, .string (txt f.un)] 41)).setCell ⟨w.heap.size, 6, none⟩ (.slice (some ⟨y2.heap.size, 0, none⟩) 1 1)) w.heap.size { d with fs := [f] } (.slice (some ⟨y2.heap.size, 0, none⟩) 1 1) (.slice pq d.rq.length cq)) := Dn.put sl (fun g hg => by
    cases hg
    have := D2.out.lt
    show y2.heap.size ≠ w.heap.size
    omega)
  have Fp : Hid (FdB ((y2.alloc (.cells #[.string (txt f.nm), .int .i64 f.pl, .string (txt f.kd), .int .i64 f.wd, .int .i64 f.sn, .int .i64 f.sd, .int .i64 f.on, .int .i64 f.od, .string (txt f.un)] 41)).setCell ⟨w.heap.size, 6, none⟩ (.slice (some ⟨y2.heap.size, 0, none⟩) 1 1)) (w.heap.size + 1) f) := ⟨fun k v hv => by
    rw [World.cell?_setCell_other _ _ _ _ (by intro e; have := congrArg Addr.block e; simp only at this; omega)]
    exact Fn.c k v hv, by rw [World.size_setCell]; exact Fn.lt⟩
  have Bp : Hid (Below w.heap.size w ((y2.alloc (.cells #[.string (txt f.nm), .int .i64 f.pl, .string (txt f.kd), .int .i64 f.wd, .int .i64 f.sn, .int .i64 f.sd, .int .i64 f.on, .int .i64 f.od, .string (txt f.un)] 41)).setCell ⟨w.heap.size, 6, none⟩ (.slice (some ⟨y2.heap.size, 0, none⟩) 1 1))) := Below.setCell (B2.out.trans (Bn.mono B2.out.size)) (Nat.le_refl _) _
  replace sl : Hid (FldsV (y2.alloc (.cells #[.string (txt f.nm), .int .i64 f.pl, .string (txt f.kd), .int .i64 f.wd, .int .i64 f.sn, .int .i64 f.sd, .int .i64 f.on, .int .i64 f.od, .string (txt f.un)] 41)) (.slice (some ⟨y2.heap.size, 0, none⟩) 1 1) [f]) := sl
  clear Bn Dn Fn D2 F2 B2
  go_upto_region 4 with fail
  generalize (y2.alloc (.cells #[.string (txt f.nm), .int .i64 f.pl, .string (txt f.kd), .int .i64 f.wd, .int .i64 f.sn, .int .i64 f.sd, .int .i64 f.on, .int .i64 f.od, .string (txt f.un)] 41)).setCell ⟨w.heap.size, 6, none⟩ (.slice (some ⟨y2.heap.size, 0, none⟩) 1 1) = Y at *
  clear c0 c1 c2 c3 c4 c5 c6 c7 c8 z4 n6 m6 sl
  generalize y2.heap.size = b2 at *
  obtain ⟨z0, z1, z2, z3, z4, z5, z6, z7, z8, z9, z10, z11⟩ := Dp.out.cells
  simp only at z0 z1 z2 z3 z4 z5 z6 z7 z8 z9 z10 z11
  have lc : Hid (Calls Try.prog 10 #[.agg #[.string (txt d.nm), .int .i64 d.st, .int .i64 d.es, .int .i64 d.mx, .int .i64 d.sz, .string (txt d.sm), (.slice (some ⟨b2, 0, none⟩) 1 1), .slice pq d.rq.length cq, .int .i64 d.po, .int .i64 d.ti, .int .i64 d.re, .int .i64 d.ag]] Y fun e w' => ∃ ov, e = .returned (dvV { d with fs := [f] } ov (.slice pq d.rq.length cq)) ∧ FldsV w' ov [f] ∧ Below Y.heap.size Y w') := lof_any { d with fs := [f] } (.slice (some ⟨b2, 0, none⟩) 1 1) pq d.rq.length cq Y Dp.out.fl (by simp)
  go_wp2_with fail
  refine lc.out.mono ?_
  rintro e y4 ⟨ov, rfl, hov, hb⟩
  clear lc z0 z1 z2 z3 z4 z5 z6 z7 z8 z9 z10 z11
  obtain ⟨g, o, cap, rfl, _⟩ := hov.one
  have Bx : Below y4.heap.size y4 (y4.alloc (.cells #[.string (txt d.nm), .int .i64 d.st, .int .i64 d.es, .int .i64 d.mx, .int .i64 d.sz, .string (txt d.sm), (.slice (some ⟨g, o, none⟩) 1 cap), .slice pq d.rq.length cq, .int .i64 d.po, .int .i64 d.ti, .int .i64 d.re, .int .i64 d.ag] 34)) := (Below.refl _ _).alloc (Nat.le_refl _) _
  have O4 : Hid (FldsV (y4.alloc (.cells #[.string (txt d.nm), .int .i64 d.st, .int .i64 d.es, .int .i64 d.mx, .int .i64 d.sz, .string (txt d.sm), (.slice (some ⟨g, o, none⟩) 1 cap), .slice pq d.rq.length cq, .int .i64 d.po, .int .i64 d.ti, .int .i64 d.re, .int .i64 d.ag] 34)) (.slice (some ⟨g, o, none⟩) 1 cap) [f]) := hov.below Bx
  have X4 := cells_new y4 [.string (txt d.nm), .int .i64 d.st, .int .i64 d.es, .int .i64 d.mx, .int .i64 d.sz, .string (txt d.sm), (.slice (some ⟨g, o, none⟩) 1 cap), .slice pq d.rq.length cq, .int .i64 d.po, .int .i64 d.ti, .int .i64 d.re, .int .i64 d.ag] 34
  have D4 : Hid (DvO (y4.alloc (.cells #[.string (txt d.nm), .int .i64 d.st, .int .i64 d.es, .int .i64 d.mx, .int .i64 d.sz, .string (txt d.sm), (.slice (some ⟨g, o, none⟩) 1 cap), .slice pq d.rq.length cq, .int .i64 d.po, .int .i64 d.ti, .int .i64 d.re, .int .i64 d.ag] 34)) w.heap.size { d with fs := [f] } (.slice (some ⟨b2, 0, none⟩) 1 1) (.slice pq d.rq.length cq)) := (Dp.out.below hb).below Bx
  have F4 : Hid (FdB (y4.alloc (.cells #[.string (txt d.nm), .int .i64 d.st, .int .i64 d.es, .int .i64 d.mx, .int .i64 d.sz, .string (txt d.sm), (.slice (some ⟨g, o, none⟩) 1 cap), .slice pq d.rq.length cq, .int .i64 d.po, .int .i64 d.ti, .int .i64 d.re, .int .i64 d.ag] 34)) (w.heap.size + 1) f) := (Fp.out.below hb).below Bx
  have B4 : Hid (Below w.heap.size w (y4.alloc (.cells #[.string (txt d.nm), .int .i64 d.st, .int .i64 d.es, .int .i64 d.mx, .int .i64 d.sz, .string (txt d.sm), (.slice (some ⟨g, o, none⟩) 1 cap), .slice pq d.rq.length cq, .int .i64 d.po, .int .i64 d.ti, .int .i64 d.re, .int .i64 d.ag] 34))) := (Bp.out.trans (hb.mono Bp.out.size)).trans (Bx.mono (Nat.le_trans Bp.out.size hb.size))
  replace X4 : Hid (∀ k v, [.string (txt d.nm), .int .i64 d.st, .int .i64 d.es, .int .i64 d.mx, .int .i64 d.sz, .string (txt d.sm), (.slice (some ⟨g, o, none⟩) 1 cap), .slice pq d.rq.length cq, .int .i64 d.po, .int .i64 d.ti, .int .i64 d.re, .int .i64 d.ag][k]? = some v → (y4.alloc (.cells #[.string (txt d.nm), .int .i64 d.st, .int .i64 d.es, .int .i64 d.mx, .int .i64 d.sz, .string (txt d.sm), (.slice (some ⟨g, o, none⟩) 1 cap), .slice pq d.rq.length cq, .int .i64 d.po, .int .i64 d.ti, .int .i64 d.re, .int .i64 d.ag] 34)).cell? ⟨y4.heap.size, k, none⟩ = some v) := X4
  clear hb hov Bx Dp Fp Bp
  go_upto_region 5 with fail
  generalize y4.alloc (.cells #[.string (txt d.nm), .int .i64 d.st, .int .i64 d.es, .int .i64 d.mx, .int .i64 d.sz, .string (txt d.sm), (.slice (some ⟨g, o, none⟩) 1 cap), .slice pq d.rq.length cq, .int .i64 d.po, .int .i64 d.ti, .int .i64 d.re, .int .i64 d.ag] 34) = Z at *
  generalize y4.heap.size = b4 at *
  have x0 := fun dr os => cell_regrown (X4.out 0 _ rfl) dr os
  have x1 := fun dr os => cell_regrown (X4.out 1 _ rfl) dr os
  have x2 := fun dr os => cell_regrown (X4.out 2 _ rfl) dr os
  have x3 := fun dr os => cell_regrown (X4.out 3 _ rfl) dr os
  have x4 := fun dr os => cell_regrown (X4.out 4 _ rfl) dr os
  have x5 := fun dr os => cell_regrown (X4.out 5 _ rfl) dr os
  have x6 := fun dr os => cell_regrown (X4.out 6 _ rfl) dr os
  have x7 := fun dr os => cell_regrown (X4.out 7 _ rfl) dr os
  have x8 := fun dr os => cell_regrown (X4.out 8 _ rfl) dr os
  have x9 := fun dr os => cell_regrown (X4.out 9 _ rfl) dr os
  have x10 := fun dr os => cell_regrown (X4.out 10 _ rfl) dr os
  have x11 := fun dr os => cell_regrown (X4.out 11 _ rfl) dr os
  obtain ⟨_, _, _, _, z4, _⟩ := D4.out.cells
  obtain ⟨c0, c1, c2, c3, c4, c5, c6, c7, c8⟩ := F4.out.cells
  obtain ⟨g', o', cap', e, hin⟩ := O4.out.one
  injection e with e1 e2 e3
  injection e1 with e1
  injection e1 with e1 e4 e5
  subst e1
  subst e4
  obtain ⟨u0, u1, u2, u3, u4, u5, u6, u7, u8⟩ := hin.cells (j := 0) (by simp) rfl
  simp only [Nat.zero_mul, Nat.add_zero, List.getElem_cons_zero] at u0 u1 u2 u3 u4 u5 u6 u7 u8
  have k4 := fun dr os => cell_regrown z4 dr os
  have v0 := fun dr os => cell_regrown c0 dr os
  have t0 := fun dr os => cell_regrown u0 dr os
  have v1 := fun dr os => cell_regrown c1 dr os
  have t1 := fun dr os => cell_regrown u1 dr os
  have v2 := fun dr os => cell_regrown c2 dr os
  have t2 := fun dr os => cell_regrown u2 dr os
  have v3 := fun dr os => cell_regrown c3 dr os
  have t3 := fun dr os => cell_regrown u3 dr os
  have v4 := fun dr os => cell_regrown c4 dr os
  have t4 := fun dr os => cell_regrown u4 dr os
  have v5 := fun dr os => cell_regrown c5 dr os
  have t5 := fun dr os => cell_regrown u5 dr os
  have v6 := fun dr os => cell_regrown c6 dr os
  have t6 := fun dr os => cell_regrown u6 dr os
  have v7 := fun dr os => cell_regrown c7 dr os
  have t7 := fun dr os => cell_regrown u7 dr os
  have v8 := fun dr os => cell_regrown c8 dr os
  have t8 := fun dr os => cell_regrown u8 dr os
  have fc : Hid (∀ dr os, Calls Try.prog 13 #[.agg #[.string (txt d.nm), .int .i64 d.st, .int .i64 d.es, .int .i64 d.mx, .int .i64 d.sz, .string (txt d.sm), (.slice (some ⟨g, o, none⟩) 1 cap), .slice pq d.rq.length cq, .int .i64 d.po, .int .i64 d.ti, .int .i64 d.re, .int .i64 d.ag], fdV f] (Sort.grow (redrawn Z dr) os) (QA (Sort.grow (redrawn Z dr) os) (fldE d.sz f))) := fun dr os => field_any { d with fs := [f] } f (.slice (some ⟨g, o, none⟩) 1 cap) _ _ (hf.out.i hs1.out) hz.out (O4.out.below (below_regrown Z dr os))
  have rc : Hid (∀ dr os, Calls Try.prog 14 #[.int .i64 d.sz, fdV f] (Sort.grow (redrawn Z dr) os) (QA (Sort.grow (redrawn Z dr) os) (fldE d.sz f))) := fun dr os => rfield_any d.sz f _ (hf.out.i hs1.out) hz.out (by omega)
  clear hin e2 e3 z4 c0 c1 c2 c3 c4 c5 c6 c7 c8 u0 u1 u2 u3 u4 u5 u6 u7 u8 X4 D4 F4 O4 q1 q2 q3 q4 q5 hs1 hz hf hd aw
  generalize fldE d.sz f = E at *
  obtain ⟨dn, dst, des, dmx, dsz, dsm, dfs, drq, dpo, dti, dre, dag⟩ := d
  obtain ⟨fm, pl, kd, wd, sn, sd, on, od, un⟩ := f
  simp only at k4 x0 x1 x2 x3 x4 x5 x6 x7 x8 x9 x10 x11 v0 t0 v1 t1 v2 t2 v3 t3 v4 t4 v5 t5 v6 t6 v7 t7 v8 t8
  go_wp2_with fail
  refine wp_region_quiet_below (by kernel_rfl) (by kernel_rfl) ?_
  repeat (go_big_quiet_step (first
    | (go_at_call 13; with_reducible exact Calls.regrown_of (fc.out _ _))
    | (go_at_call 14; with_reducible exact Calls.regrown_of (rc.out _ _))))
  refine wpQuiet_nil ?_
  intro _ hw'
  obtain ⟨⟨dq, osq⟩, hw''⟩ := hw'
  subst hw''
  have B5 : Hid (Below w.heap.size w (Sort.grow (redrawn Z dq) osq)) := B4.out.trans ((below_regrown Z dq osq).mono B4.out.size)
  clear fc rc B4 k4 x0 x1 x2 x3 x4 x5 x6 x7 x8 x9 x10 x11 v0 t0 v1 t1 v2 t2 v3 t3 v4 t4 v5 t5 v6 t6 v7 t7 v8 t8
  go_wp2
  go_ret
  exact ⟨rfl, B5.out⟩
end Go.Proofs.Ytllkkgcfhphgmaa
