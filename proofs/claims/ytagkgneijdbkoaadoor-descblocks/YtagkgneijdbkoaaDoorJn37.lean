/-
  Texts that belong together, one behind the other: DsRws, DsDRows. Conditions: as each says.
-/
import Derived.Deep.AppendLies
import Derived.Deep.CutRange
import Derived.Deep.RegionHeld3
import Derived.Test.YtagkgneijdbkoaaDoorJn27
import Derived.Test.YtagkgneijdbkoaaDoorJn31
import Derived.Test.YtagkgneijdbkoaaDoorJn36
/-
  The law's own rows: lines, as the program has them (layer 8). Conditions: the lines lie in memory that was there; at most 4500.
-/
namespace Go.Proofs.YtagkgneijdbkoaaDoor
open Go.RowKit
set_option linter.unusedVariables false

/-- lines that are done, each with its words' slice -/
abbrev Rn := Lr × Value
def rnC (fs : List Rn) : List Value := fs.flatMap fun f => [.int .i64 f.1.1, f.2]
theorem rnC_len (fs : List Rn) : (rnC fs).length = fs.length * 2 := by
  induction fs with
  | nil => rfl
  | cons f fs ih => unfold rnC at *; rw [List.flatMap_cons, List.length_append, ih]; simp; omega
theorem rnC_snoc (fs : List Rn) (f : Rn) : rnC (fs ++ [f]) = rnC fs ++ [.int .i64 f.1.1, f.2] := by unfold rnC; simp
theorem rnC_get {fs : List Rn} {j : Nat} (h : j < fs.length) : (rnC fs)[2 * j]? = some (.int .i64 fs[j].1.1) ∧ (rnC fs)[2 * j + 1]? = some fs[j].2 := by
  induction fs generalizing j with
  | nil => cases h
  | cons f fs ih =>
    unfold rnC at *
    rw [List.flatMap_cons]
    cases j with
    | zero => exact ⟨rfl, rfl⟩
    | succ j =>
      have := ih (j := j) (by simpa using h)
      rw [show 2 * (j + 1) = 2 * j + 2 by omega]
      simp only [List.getElem_cons_succ]
      exact this
structure RnSt (w x : World) (vm : Value) (fs : List Rn) : Prop where
  ro : x.ownsRow w.heap.size 50 2 vm fs.length (rnC fs)
  st : ∀ f ∈ fs, WdsAt w.heap.size w f.2 f.1.2
  b : Below w.heap.size w x
theorem RnSt.first (w : World) : RnSt w w (.slice none 0 0) [] := ⟨World.ownsRow_nil _ _ _ _, (fun f hf => by cases hf), Below.refl _ _⟩
theorem RnSt.add {w x y : World} {vm v' : Value} {fs : List Rn} (h : x.ownsRow w.heap.size 50 2 vm fs.length (rnC fs)) (hs : ∀ f ∈ fs, WdsAt w.heap.size w f.2 f.1.2) (b : Below w.heap.size w x) (f : Rn) (hf : WdsAt w.heap.size w f.2 f.1.2) (hown : y.ownsRow w.heap.size 50 2 v' (fs.length + 1) (rnC fs ++ [.int .i64 f.1.1, f.2])) (hg : x.grownBy y vm.ownBlock) : RnSt w y v' (fs ++ [f]) := by
  refine ⟨?_, ?_, b.grown hg b.size (fun k e => (World.ownsRow.lt h k e).1)⟩
  · rw [List.length_append, List.length_singleton, rnC_snoc]; exact hown
  · intro q hq
    rcases List.mem_append.1 hq with hq | hq
    · exact hs q hq
    · rw [List.mem_singleton.1 hq]; exact hf
theorem RnSt.rows {w x : World} {vm : Value} {fs : List Rn} (h : RnSt w x vm fs) : RowsC x.heap.size x vm (fs.map (·.1)) := by
  rcases own_slice h.ro with ⟨h1, h2⟩ | ⟨g, cap, h1, h2, h3⟩
  · exact .inl ⟨h1, by rw [List.length_eq_zero_iff.1 h2]; rfl⟩
  · refine .inr ⟨g, 0, cap, by rw [List.length_map]; exact h1, ?_, h3⟩
    intro j hj
    have hj' : j < fs.length := by rwa [List.length_map] at hj
    have k := h.ro
    rw [h1] at k
    obtain ⟨c1, c2⟩ := rnC_get hj'
    rw [List.getElem_map]
    refine ⟨?_, fs[j].2, ?_, ((h.st _ (List.getElem_mem hj')).below h.b).up h.b.size⟩
    · rw [Nat.zero_add, World.ownsRow.cellAt k _ (by omega)]; exact c1
    · rw [Nat.zero_add, World.ownsRow.cellAt k _ (by omega)]; exact c2
theorem map_rn (fs : List Rn) (f : Rn) : (fs ++ [f]).map (·.1) = fs.map (·.1) ++ [f.1] := by simp

set_option maxRecDepth 100000 in
set_option maxHeartbeats 8000000 in
theorem rows_any (v : Value) (w : World) (rs : List Lr) (hv : RowsC w.heap.size w v rs) (hn : (rs.length : Int) ≤ 4500) :
    Calls Tryd.prog 14 #[v] w fun e y => ∃ v', e = .returned v' ∧ RowsC y.heap.size y v' rs ∧ Below w.heap.size w y := by
  obtain ⟨r0, hri, hr0, hr1, hr2⟩ := info_parts info_prow
  obtain ⟨p, cap, rfl⟩ := hv.form
  obtain ⟨n1, hlen⟩ : ∃ len, rs.length = len := ⟨_, rfl⟩
  rw [hlen] at hn hv ⊢
  replace hlen : Hid (rs.length = n1) := hlen
  replace hv : Hid (RowsC w.heap.size w (.slice p n1 cap) rs) := hv
  go_enter Tryd.func14, Tryd.ntmps14
  go_wp2
  go_loopw [3, 4] (fun vm vi wr => ∃ (i : Nat) (fs : List Rn), (i : Int) ≤ (n1 : Int) ∧ vi = .int .i64 (i : Int) ∧ Hid (RnSt w wr vm fs) ∧ Hid (fs.map (·.1) = rs.take i)) (fun _ vi _ => n1 - (intOf vi).toNat)
  case atStart => exact ⟨0, [], by omega, rfl, RnSt.first _, by unfold Hid; simp⟩
  case round =>
    obtain ⟨i, fs, hi, rfl, st, hfs⟩ := hrel
    by_cases hlt : i < n1
    · have hki : (i : Int) < (n1 : Int) := by omega
      obtain ⟨g1, o1, pu, cu, rfl, lt3, k0, k1, ks⟩ := hv.out.at hlen.out st.out.b hlt
      obtain ⟨g1', o1', pu', cu', e', _, m0, m1, ks'⟩ := hv.out.at hlen.out (Below.refl _ _) hlt
      injection e' with e'
      injection e' with e1 e2 _
      subst e1
      subst e2
      have e01 := (st.out.b.cell (p := ⟨g1, o1 + i * 2 + 1, none⟩) lt3).symm.trans k1
      rw [m1] at e01
      injection e01 with e01
      injection e01 with e1 _ e3
      subst e1
      subst e3
      have nx : Hid ((fs ++ [(rs[i]'(by have := hlen.out; omega), Value.slice pu' (rs[i]'(by have := hlen.out; omega)).2.length cu')]).map (·.1) = rs.take (i + 1)) := by
        unfold Hid
        rw [map_rn, hfs.out, List.take_add_one]
        congr 1
        rw [List.getElem?_eq_getElem (by have := hlen.out; omega)]
        rfl
      have fl : fs.length = i := by have h1 : (fs.map (·.1)).length = fs.length := List.length_map _; rw [hfs.out, List.length_take] at h1; have := hlen.out; omega
      have hf63 : fs.length + 1 ≤ maxLen := by unfold maxLen; omega
      have hfby : (fs.length + 1) * 32 ≤ 140737488355328 := by omega
      generalize rs[i]'(by have := hlen.out; omega) = q at *
      obtain ⟨ql, qw⟩ := q
      simp only at k0 k1 ks m0 m1 ks' nx
      replace m0 : Hid (w.cell? ⟨g1, o1 + i * 2, none⟩ = some (.int .i64 ql)) := m0
      replace m1 : Hid (w.cell? ⟨g1, o1 + i * 2 + 1, none⟩ = some (.slice pu' qw.length cu')) := m1
      replace ks' : Hid (WdsAt w.heap.size w (.slice pu' qw.length cu') qw) := ks'
      replace nx : Hid ((fs ++ [((ql, qw), Value.slice pu' qw.length cu')]).map (·.1) = rs.take (i + 1)) := nx
      have lt1 : g1 < wr.heap.size := block_lt_of_cell k0
      generalize qw.length = m at *
      have sb := st.out.b.size
      clear fl ks hv
      go_upto_region 5 with fail
      go_region_held3 (fun x => x.cell? ⟨g1, o1 + i * 2, none⟩ = some (.int .i64 ql) ∧ x.cell? ⟨g1, o1 + i * 2 + 1, none⟩ = some (.slice pu' m cu'))
        (first
          | go_keep
          | exact ⟨(st2.out.b.cell (p := ⟨g1, o1 + i * 2, none⟩) lt3).trans m0.out, (st2.out.b.cell (p := ⟨g1, o1 + i * 2 + 1, none⟩) lt3).trans m1.out⟩)
        ((refine step_append_lies _ (by rfl) _ _ _ (by rfl) w.heap.size 50 r0 (.agg #[.int .i64 0, .slice none 0 0]) 2 32 Tryd.underlying42 hri hr0 hr1 hr2 rfl (by omega) u3 fs.length (rnC fs) (by rfl) ((World.ownsRow.alloc st.out.ro _).drew)
            ⟨wr.heap.size, 0, none⟩ 1 1 [.int .i64 ql, .slice pu' m cu'] (by rfl) (by rfl) (World.news_of_block (cs := #[.int .i64 ql, .slice pu' m cu']) (t := 50) (fr := (0, 0)) (heap_alloc_new wr _)) (by simp [Value.oneCell'])
            (by omega) hf63 hfby (by simp; omega) (wr.heap.size + 1) (by simp) ?_; intro gg cap y hO gO hat hlt2; have st2 : Hid (RnSt w y (.slice (some ⟨gg, 0, none⟩) (fs.length + 1) cap) (fs ++ [((ql, qw), .slice pu' m cu')])) := RnSt.add ((World.ownsRow.alloc st.out.ro _).drew) st.out.st ((st.out.b.alloc sb _).drew) _ ks'.out hO gO))
      all_goals
        clear hO gO hat hlt2
        go_wp2
        exact ⟨⟨i + 1, _, by omega, by simp, st2, nx⟩, by simp [intOf]; omega⟩
    · obtain rfl : i = n1 := by omega
      have RM := st.out.rows
      rw [hfs.out, List.take_of_length_le (by have := hlen.out; omega)] at RM
      replace RM : Hid (RowsC wr.heap.size wr u3 rs) := RM
      have B4 : Hid (Below w.heap.size w wr) := st.out.b
      clear st hfs hv
      go_wp2
      go_ret
      exact ⟨_, rfl, RM.out, B4.out⟩
end Go.Proofs.YtagkgneijdbkoaaDoor
/-
  DescRows, out of what its callees return (layer 8). Conditions: the library's table of white space is as laid; line's contract.
-/
namespace Go.Proofs.YtagkgneijdbkoaaDoor
open Go.RowKit
set_option linter.unusedVariables false

def FewC (w : World) (v : Value) (T : Bool) : Prop := ∀ x, Below w.heap.size w x → Calls Tryd.prog 12 #[v] x fun e y => e = .returned (.bool T) ∧ y = x
theorem fewC {w : World} {v : Value} {rs : List Lr} (hv : RowsC w.heap.size w v rs) (hn : (rs.length : Int) ≤ 9223372036854775807) : FewC w v (fewB rs) := fun x hb => few_any v x rs ((hv.below hb).up hb.size) hn
def RwsC (w : World) (v : Value) (rs : List Lr) : Prop := ∀ x, Below w.heap.size w x → Calls Tryd.prog 14 #[v] x fun e y => ∃ v', e = .returned v' ∧ RowsC y.heap.size y v' rs ∧ Below x.heap.size x y
theorem rwsC {w : World} {v : Value} {rs : List Lr} (hv : RowsC w.heap.size w v rs) (hn : (rs.length : Int) ≤ 4500) : RwsC w v rs := fun x hb => rows_any v x rs ((hv.below hb).up hb.size) hn
def DrC (rs : List Lr) : Prop := ∀ v x, RowsC x.heap.size x v rs → Calls Tryd.prog 13 #[v] x (ReadQ x (readM rs))
def RrdC (w : World) (v : Value) (rs : List Lr) : Prop := ∀ x, Below w.heap.size w x → Calls Tryd.prog 11 #[v] x (ReadQ x (readM rs))
theorem rrdC (P : LineP) {w : World} {v : Value} {rs : List Lr} (hv : RowsC w.heap.size w v rs) (hn : (rs.length : Int) ≤ 4500) (hwl : ∀ r ∈ rs, (r.2.length : Int) ≤ 4500) (hz : ∀ r ∈ rs, ∀ z ∈ r.2, (z.length : Int) ≤ 5000) : RrdC w v rs :=
  fun x hb => rread_of P rs v x (((hv.below hb).up hb.size).lrs) hn hwl hz
theorem few_bd {rs : List Lr} (h : fewB rs = true) : (rs.length : Int) ≤ 4500 ∧ (∀ r ∈ rs, (r.2.length : Int) ≤ 4500) ∧ ∀ r ∈ rs, ∀ z ∈ r.2, (z.length : Int) ≤ 5000 := by
  have k := few_spec h
  refine ⟨by omega, fun r hr => by have := (k.2 r hr).1; omega, fun r hr z hz => by have := (k.2 r hr).2 z hz; omega⟩
/-- what holds in every world behind w -/
def RdAt (w : World) (R : World → Prop) : Prop := ∀ x, Below w.heap.size w x → R x
theorem read_fs (rs : List Lr) : (readM rs).1.fs.length ≤ 8 := go_fs _ SeenOk.first

set_option maxRecDepth 100000 in
set_option maxHeartbeats 8000000 in
theorem drows_few (w : World) (aw : Hid (AwC w)) (v : Value) (fw : Hid (FewC w v false)) :
    Calls Tryd.prog 4 #[v] w fun e y => e = .returned (.bool true) ∧ Below w.heap.size w y := by
  go_enter Tryd.func4, Tryd.ntmps4
  go_wp2_with fail
  refine (aw.out w (Below.refl _ _)).mono ?_
  rintro e y ⟨rfl, hb⟩
  replace hb : Hid (Below w.heap.size w y) := hb
  go_wp2_with fail
  refine (fw.out y hb.out).mono ?_
  rintro e y' ⟨rfl, hy⟩
  replace hy := hy.symm
  subst hy
  clear fw
  go_wp2_with fail
  refine (aw.out y hb.out).mono ?_
  rintro e y2 ⟨rfl, hb2⟩
  have hb3 : Hid (Below w.heap.size w y2) := hb.out.trans (hb2.mono hb.out.size)
  clear hb hb2
  go_wp2
  go_ret
  exact ⟨rfl, hb3.out⟩

set_option maxRecDepth 100000 in
set_option maxHeartbeats 8000000 in
theorem drows_main (w : World) (aw : Hid (AwC w)) (v : Value) (rs : List Lr) (fw : Hid (FewC w v true)) (rw : Hid (RwsC w v rs)) (dr : Hid (DrC rs)) (rr : Hid (RrdC w v rs)) :
    Calls Tryd.prog 4 #[v] w fun e y => e = .returned (.bool true) ∧ Below w.heap.size w y := by
  have fs8 := read_fs rs
  go_enter Tryd.func4, Tryd.ntmps4
  go_wp2_with fail
  refine (aw.out w (Below.refl _ _)).mono ?_
  rintro e y ⟨rfl, hb⟩
  replace hb : Hid (Below w.heap.size w y) := hb
  clear aw
  go_wp2_with fail
  refine (fw.out y hb.out).mono ?_
  rintro e y' ⟨rfl, hy⟩
  replace hy := hy.symm
  subst hy
  clear fw
  go_wp2_with fail
  refine (rw.out y hb.out).mono ?_
  rintro e y1 ⟨v', rfl, hv', hb1⟩
  have B1 : Hid (Below w.heap.size w y1) := hb.out.trans (hb1.mono hb.out.size)
  have drv : Hid (Calls Tryd.prog 13 #[v'] y1 (ReadQ y1 (readM rs))) := dr.out v' y1 hv'
  clear hb1 hb rw hv' dr
  replace rr : Hid (∀ x, Below w.heap.size w x → Calls Tryd.prog 11 #[v] x (ReadQ x (readM rs))) := rr
  generalize readM rs = T at *
  replace fs8 : Hid (T.1.fs.length ≤ 8) := fs8
  obtain ⟨R, hR⟩ : ∃ R : World → Prop, R = fun x => Calls Tryd.prog 11 #[v] x (ReadQ x T) := ⟨_, rfl⟩
  have rr2 : Hid (RdAt w R) := fun x hb => by rw [hR]; exact rr.out x hb
  clear rr
  replace hR : Hid (R = fun x => Calls Tryd.prog 11 #[v] x (ReadQ x T)) := hR
  go_wp2_with fail
  refine drv.out.mono ?_
  rintro e z ⟨fv, qv, rfl, hf, hq, hb2, _, _⟩
  obtain ⟨p1, n1, c1, rfl⟩ := hf.form
  obtain ⟨p2, n2, c2, rfl⟩ := hq.form'
  obtain ⟨d, ln, en⟩ := T
  have hbz : Below w.heap.size w z := B1.out.trans (hb2.mono B1.out.size)
  have za : Below z.heap.size z (z.alloc (.cells (dvX d (.slice p1 n1 c1) (.slice p2 n2 c2)) 26)) := (Below.refl _ _).alloc (Nat.le_refl _) _
  have B2 : Hid (Below w.heap.size w (z.alloc (.cells (dvX d (.slice p1 n1 c1) (.slice p2 n2 c2)) 26))) := hbz.alloc hbz.size _
  have K2 : Hid ((z.alloc (.cells (dvX d (.slice p1 n1 c1) (.slice p2 n2 c2)) 26)).heap[z.heap.size]? = some (.cells (dvX d (.slice p1 n1 c1) (.slice p2 n2 c2)) 26 (0, 0))) := World.alloc_heap_new z _
  have F2 : Hid (FldsAt (z.alloc (.cells (dvX d (.slice p1 n1 c1) (.slice p2 n2 c2)) 26)) (.slice p1 n1 c1) d.fs) := hf.below za
  have Q2 : Hid (BytesAt (z.alloc (.cells (dvX d (.slice p1 n1 c1) (.slice p2 n2 c2)) 26)) (.slice p2 n2 c2) d.rq) := hq.below za
  clear hf hq hb2 hbz za B1 drv
  simp only at fs8
  go_upto_region 4 with fail
  change Code.wp Tryd.prog _ _ _ (z.alloc (.cells (dvX d (.slice p1 n1 c1) (.slice p2 n2 c2)) 26))
  generalize z.alloc (.cells (dvX d (.slice p1 n1 c1) (.slice p2 n2 c2)) 26) = y3 at *
  generalize z.heap.size = bD at *
  clear z
  have rdv : Hid (Calls Tryd.prog 11 #[v] y3 (ReadQ y3 (d, ln, en))) := by
    have k := rr2.out y3 B2.out
    rw [hR.out] at k
    exact k
  clear rr2 hR R
  go_wp2_with fail
  refine rdv.out.mono ?_
  rintro e z ⟨fv, qv, rfl, hf, hq, hb4, _, _⟩
  obtain ⟨p3, n3, c3, rfl⟩ := hf.form
  obtain ⟨p4, n4, c4, rfl⟩ := hq.form'
  have za : Below z.heap.size z (z.alloc (.cells (dvX d (.slice p3 n3 c3) (.slice p4 n4 c4)) 36)) := (Below.refl _ _).alloc (Nat.le_refl _) _
  have hbz : Below w.heap.size w z := B2.out.trans (hb4.mono B2.out.size)
  have B5 : Hid (Below w.heap.size w (z.alloc (.cells (dvX d (.slice p3 n3 c3) (.slice p4 n4 c4)) 36))) := hbz.alloc hbz.size _
  have K5 : (z.alloc (.cells (dvX d (.slice p3 n3 c3) (.slice p4 n4 c4)) 36)).heap[z.heap.size]? = some (.cells (dvX d (.slice p3 n3 c3) (.slice p4 n4 c4)) 36 (0, 0)) := World.alloc_heap_new z _
  have K3z : z.heap[bD]? = some (.cells (dvX d (.slice p1 n1 c1) (.slice p2 n2 c2)) 26 (0, 0)) := (hb4.block _ (Array.getElem?_eq_some_iff.1 K2.out).1).trans K2.out
  have K35 : (z.alloc (.cells (dvX d (.slice p3 n3 c3) (.slice p4 n4 c4)) 36)).heap[bD]? = some (.cells (dvX d (.slice p1 n1 c1) (.slice p2 n2 c2)) 26 (0, 0)) := (za.block _ (Array.getElem?_eq_some_iff.1 K3z).1).trans K3z
  have sm : Hid (Calls Tryd.prog 10 #[dvV d (.slice p1 n1 c1) (.slice p2 n2 c2), dvV d (.slice p3 n3 c3) (.slice p4 n4 c4)] (z.alloc (.cells (dvX d (.slice p3 n3 c3) (.slice p4 n4 c4)) 36)) fun e y => e = .returned (.int .i64 1) ∧ Below (z.alloc (.cells (dvX d (.slice p3 n3 c3) (.slice p4 n4 c4)) 36)).heap.size (z.alloc (.cells (dvX d (.slice p3 n3 c3) (.slice p4 n4 c4)) 36)) y) :=
    same_any d _ _ _ _ _ ((F2.out.below hb4).below za) ((Q2.out.below hb4).below za) (hf.below za) (hq.below za) (by have := fs8.out; omega)
  clear hf hq hb4 za hbz K3z rdv K2 F2 Q2 B2 fs8
  go_upto_region 5 with fail
  change Code.wp Tryd.prog _ _ _ (z.alloc (.cells (dvX d (.slice p3 n3 c3) (.slice p4 n4 c4)) 36))
  generalize z.alloc (.cells (dvX d (.slice p3 n3 c3) (.slice p4 n4 c4)) 36) = y5 at *
  generalize z.heap.size = bX at *
  clear z
  have l0 := (rd_cell K35 0).1
  have l1 := (rd_cell K35 1).1
  have l2 := (rd_cell K35 2).1
  have l3 := (rd_cell K35 3).1
  have l4 := (rd_cell K35 4).1
  have l5 := (rd_cell K35 5).1
  have l6 := (rd_cell K35 6).1
  have l7 := (rd_cell K35 7).1
  have l8 := (rd_cell K35 8).1
  have l9 := (rd_cell K35 9).1
  have l10 := (rd_cell K35 10).1
  have l11 := (rd_cell K35 11).1
  simp only [List.getElem?_toArray, List.getElem?_cons_zero, List.getElem?_cons_succ] at l0 l1 l2 l3 l4 l5 l6 l7 l8 l9 l10 l11
  have m0 := (rd_cell K5 0).1
  have m1 := (rd_cell K5 1).1
  have m2 := (rd_cell K5 2).1
  have m3 := (rd_cell K5 3).1
  have m4 := (rd_cell K5 4).1
  have m5 := (rd_cell K5 5).1
  have m6 := (rd_cell K5 6).1
  have m7 := (rd_cell K5 7).1
  have m8 := (rd_cell K5 8).1
  have m9 := (rd_cell K5 9).1
  have m10 := (rd_cell K5 10).1
  have m11 := (rd_cell K5 11).1
  simp only [List.getElem?_toArray, List.getElem?_cons_zero, List.getElem?_cons_succ] at m0 m1 m2 m3 m4 m5 m6 m7 m8 m9 m10 m11
  clear K35 K5
  go_wp2_with fail
  refine sm.out.mono ?_
  rintro e y6 ⟨rfl, hb6⟩
  have B6 : Hid (Below w.heap.size w y6) := B5.out.trans (hb6.mono B5.out.size)
  clear hb6 sm B5
  go_wp2
  go_ret
  exact ⟨rfl, B6.out⟩

theorem drows_any (P : LineP) (w : World) (T7 : Tab7 w) (v : Value) (rs : List Lr) (hv : RowsC w.heap.size w v rs) (hn : (rs.length : Int) ≤ 9223372036854775807) :
    Calls Tryd.prog 4 #[v] w fun e y => e = .returned (.bool true) ∧ Below w.heap.size w y := by
  have aw : Hid (AwC w) := fun x hb => awake8_any x (T7.below hb)
  have fw := fewC hv hn
  cases hT : fewB rs with
  | false => rw [hT] at fw; exact drows_few w aw v fw
  | true =>
    rw [hT] at fw
    obtain ⟨b1, b2, b3⟩ := few_bd hT
    exact drows_main w aw v rs fw (rwsC hv b1) (fun v x h => dread_any rs v x h b1 b2 b3) (rrdC P hv b1 b2 b3)
end Go.Proofs.YtagkgneijdbkoaaDoor
