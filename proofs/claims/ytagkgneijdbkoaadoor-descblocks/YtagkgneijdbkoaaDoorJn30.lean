/-
  Texts that belong together, one behind the other: DsLineK, DsLineE, DsRR0, DsRR, DsLineU, DsLineDev, DsLineSta, DsLineEsc, DsLineSiz, DsLineSum, DsLineReq, DsLinePol, DsLineTim, DsLineRet. Conditions: as each says.
-/
import Derived.Test.YtagkgneijdbkoaaDoorJn1
import Derived.Test.YtagkgneijdbkoaaDoorJn15
import Derived.Test.YtagkgneijdbkoaaDoorJn18
import Derived.Test.YtagkgneijdbkoaaDoorJn29
/-
  The document's own line: what is said of it, and its memory (layer 8). No conditions but those that each says.
-/
namespace Go.Proofs.YtagkgneijdbkoaaDoor
open Go.RowKit
set_option linter.unusedVariables false

/-- the words that a line may begin with -/
def allK : List Wd := tenK ++ [kFie]
def allC : Array Value := #[.string ⟨#[100, 101, 118, 105, 99, 101]⟩, .string ⟨#[115, 116, 97, 114, 116]⟩, .string ⟨#[101, 115, 99, 97, 112, 101]⟩, .string ⟨#[115, 105, 122, 101]⟩, .string ⟨#[115, 117, 109]⟩, .string ⟨#[114, 101, 113, 117, 101, 115, 116]⟩, .string ⟨#[112, 111, 108, 108]⟩, .string ⟨#[116, 105, 109, 101, 111, 117, 116]⟩, .string ⟨#[114, 101, 116, 114, 105, 101, 115]⟩, .string ⟨#[97, 103, 101]⟩, .string ⟨#[102, 105, 101, 108, 100]⟩]
theorem allC_at (i : Nat) (h : i < 11) : allC[i]? = some (.string (txt (allK[i]'h))) := by
  match i, h with
  | 0, _ => rfl
  | 1, _ => rfl
  | 2, _ => rfl
  | 3, _ => rfl
  | 4, _ => rfl
  | 5, _ => rfl
  | 6, _ => rfl
  | 7, _ => rfl
  | 8, _ => rfl
  | 9, _ => rfl
  | 10, _ => rfl
/-- a slice is where it was, or in a new block -/
def NewB (w : World) (v v' : Value) : Prop := v'.ownBlock = v.ownBlock ∨ ∀ g, v'.ownBlock = some g → w.heap.size ≤ g
/-- what is asked of line -/
def LineQ (w : World) (d : Dv) (fv qv : Value) (seen ws : List Wd) (e : Ending) (y : World) : Prop :=
  ∃ d2 p1 n1 c1 p2 n2 c2, e = .returned (.tuple #[dvV d2 (.slice p1 n1 c1) (.slice p2 n2 c2), .int .i64 ((errN (stepM d seen ws) : Nat) : Int)]) ∧ Below w.heap.size w y ∧ ∀ d', stepM d seen ws = .ok d' → d2 = d' ∧ FldsAt y (.slice p1 n1 c1) d'.fs ∧ BytesAt y (.slice p2 n2 c2) d'.rq ∧ NewB w fv (.slice p1 n1 c1) ∧ NewB w qv (.slice p2 n2 c2)
abbrev dvA (d : Dv) (fv qv : Value) : Array Value := #[.string (txt d.nm), .int .i64 d.st, .int .i64 d.es, .int .i64 d.mx, .int .i64 d.sz, .string (txt d.sm), fv, qv, .int .i64 d.po, .int .i64 d.ti, .int .i64 d.re, .int .i64 d.ag]
/-- memory at the first loop -/
def LineW (w : World) (d : Dv) (fv qv : Value) : World := ((w.alloc (.cells (dvA d fv qv) 36)).alloc (.cells dz 36)).alloc (.cells allC 9)
structure LineM (w x : World) (d : Dv) (fv qv : Value) : Prop where
  dc : x.heap[w.heap.size]? = some (.cells (dvA d fv qv) 36 (0, 0))
  rc : x.heap[w.heap.size + 1]? = some (.cells dz 36 (0, 0))
  b : Below w.heap.size w x
theorem lineM_first (w : World) (d : Dv) (fv qv : Value) : LineM w (LineW w d fv qv) d fv qv ∧ (LineW w d fv qv).heap[w.heap.size + 2]? = some (.cells allC 9 (0, 0)) := by
  unfold LineW
  refine ⟨⟨map_under _ _ _ _ (map_under _ _ _ _ (World.alloc_heap_new w _)), ?_, ?_⟩, ?_⟩
  · have k := map_under _ _ (.cells allC 9) _ (World.alloc_heap_new (w.alloc (.cells (dvA d fv qv) 36)) (.cells dz 36))
    rwa [World.size_alloc] at k
  · exact (((Below.refl _ _).alloc (Nat.le_refl _) _).alloc (by rw [World.size_alloc]; omega) _).alloc (by rw [World.size_alloc, World.size_alloc]; omega) _
  · have k := World.alloc_heap_new ((w.alloc (.cells (dvA d fv qv) 36)).alloc (.cells dz 36)) (.cells allC 9)
    rwa [World.size_alloc, World.size_alloc] at k
theorem LineM.below {w x y : World} {d : Dv} {fv qv : Value} (h : LineM w x d fv qv) (hb : Below x.heap.size x y) : LineM w y d fv qv :=
  ⟨(hb.block _ (Array.getElem?_eq_some_iff.1 h.dc).1).trans h.dc, (hb.block _ (Array.getElem?_eq_some_iff.1 h.rc).1).trans h.rc, h.b.trans (hb.mono h.b.size)⟩
theorem LineM.cells {w x : World} {d : Dv} {fv qv : Value} (h : LineM w x d fv qv) : (∀ i v, (dvA d fv qv)[i]? = some v → x.cell? ⟨w.heap.size, i, none⟩ = some v ∧ x.frozen? ⟨w.heap.size, i, none⟩ = false) ∧ ∀ i v, dz[i]? = some v → x.cell? ⟨w.heap.size + 1, i, none⟩ = some v ∧ x.frozen? ⟨w.heap.size + 1, i, none⟩ = false :=
  ⟨fun i v hv => ⟨(rd_cell h.dc i).1.trans hv, (rd_cell h.dc i).2⟩, fun i v hv => ⟨(rd_cell h.rc i).1.trans hv, (rd_cell h.rc i).2⟩⟩
theorem res_dev2 {fn : Func} {p u : Tmp} (h : fn.results = #[.cell p 36, .tmp u]) {tmps : Array Value} {w : World} {b : Nat} {v0 v1 v2 v3 v4 v5 v6 v7 v8 v9 v10 v11 e1 : Value}
    (hp : tmps.getD p undef = .pointer (some ⟨b, 0, none⟩)) (hu : tmps.getD u undef = e1)
    (hc : w.heap[b]? = some (.cells #[v0, v1, v2, v3, v4, v5, v6, v7, v8, v9, v10, v11] 36 (0, 0))) :
    (results fn tmps).run Tryd.prog w = .ok (.tuple #[.agg #[v0, v1, v2, v3, v4, v5, v6, v7, v8, v9, v10, v11], e1]) w := by
  have c := rd_cell hc
  have c0 := (c 0).1
  have c1 := (c 1).1
  have c2 := (c 2).1
  have c3 := (c 3).1
  have c4 := (c 4).1
  have c5 := (c 5).1
  have c6 := (c 6).1
  have c7 := (c 7).1
  have c8 := (c 8).1
  have c9 := (c 9).1
  have c10 := (c 10).1
  have c11 := (c 11).1
  simp only [List.getElem?_toArray, List.getElem?_cons_zero, List.getElem?_cons_succ] at c0 c1 c2 c3 c4 c5 c6 c7 c8 c9 c10 c11
  rw [results_cell_tmp h, hp, hu]
  simp only [asAddr]
  simp [go_sem, Result.andThen, c0, c1, c2, c3, c4, c5, c6, c7, c8, c9, c10, c11]
theorem allK_mem (f : Wd) : decide (f ∈ allK.take 11) = knownB f := by
  unfold knownB
  rw [decide_eq_decide]
  show f ∈ allK ↔ _
  unfold allK
  simp
theorem allK_step (f : Wd) (k : Nat) (h : k < 11) : decide (f ∈ allK.take (k + 1)) = (decide (f ∈ allK.take k) || decide (allK[k]'h = f)) := by
  rw [List.take_succ_eq_append_getElem (show k < allK.length from h), Bool.eq_iff_iff, decide_eq_true_iff, List.mem_append, Bool.or_eq_true, decide_eq_true_iff, decide_eq_true_iff, List.mem_singleton]
  exact or_congr Iff.rfl ⟨Eq.symm, Eq.symm⟩
theorem fq_put {w y : World} {fv qv : Value} {fs : List Fd} {rq : List Nat} {R : Nat} (h : FldsAt w fv fs ∧ BytesAt w qv rq) (hb : Below w.heap.size w y) (hR : w.heap.size ≤ R) (v0 v1 v2 v3 v4 v5 v6 v7 v8 v9 v10 v11 : Value) : FldsAt (put12 y R v0 v1 v2 v3 v4 v5 v6 v7 v8 v9 v10 v11) fv fs ∧ BytesAt (put12 y R v0 v1 v2 v3 v4 v5 v6 v7 v8 v9 v10 v11) qv rq :=
  ⟨h.1.below (put12_below hb hR v0 v1 v2 v3 v4 v5 v6 v7 v8 v9 v10 v11), h.2.below (put12_below hb hR v0 v1 v2 v3 v4 v5 v6 v7 v8 v9 v10 v11)⟩
end Go.Proofs.YtagkgneijdbkoaaDoor
/-
  The document's own line: its memory behind a store, and how it ends (layer 8). No conditions but those that each says.
-/
namespace Go.Proofs.YtagkgneijdbkoaaDoor
open Go.RowKit
set_option linter.unusedVariables false

theorem LineM.set {w x : World} {d d' : Dv} {fv qv fv' qv' : Value} (h : LineM w x d fv qv) (i : Nat) (v : Value) (e : (dvA d fv qv).setIfInBounds i v = dvA d' fv' qv') : LineM w (x.setCell ⟨w.heap.size, i, none⟩ v) d' fv' qv' :=
  ⟨(rd_set h.dc i v).trans (by rw [e]), (Below.heap_setCell _ _ _ _ (show w.heap.size + 1 ≠ w.heap.size by omega)).trans h.rc, h.b.setCell (p := ⟨w.heap.size, i, none⟩) (Nat.le_refl _) _⟩
/-- memory at the end -/
def LineZ (w y : World) (d : Dv) (fv qv : Value) : World := put12 y (w.heap.size + 1) (.string (txt d.nm)) (.int .i64 d.st) (.int .i64 d.es) (.int .i64 d.mx) (.int .i64 d.sz) (.string (txt d.sm)) fv qv (.int .i64 d.po) (.int .i64 d.ti) (.int .i64 d.re) (.int .i64 d.ag)
theorem LineM.res {w y : World} {d : Dv} {fv qv : Value} (h : LineM w y d fv qv) : (LineZ w y d fv qv).heap[w.heap.size + 1]? = some (.cells (dvA d fv qv) 36 (0, 0)) := put12_at h.rc _ _ _ _ _ _ _ _ _ _ _ _
theorem LineM.low {w y : World} {d : Dv} {fv qv : Value} (h : LineM w y d fv qv) : Below w.heap.size w (LineZ w y d fv qv) := put12_below h.b (by omega) _ _ _ _ _ _ _ _ _ _ _ _
theorem LineZ.off {w y : World} {d : Dv} {fv qv : Value} {k : Nat} (hk : k ≠ w.heap.size + 1) : (LineZ w y d fv qv).heap[k]? = y.heap[k]? := put12_off hk _ _ _ _ _ _ _ _ _ _ _ _
theorem LineM.quit {w y : World} {d d2 : Dv} {p1 p2 : Option Addr} {n1 c1 n2 c2 : Nat} (h : LineM w y d2 (.slice p1 n1 c1) (.slice p2 n2 c2)) {seen ws : List Wd} {n : Nat} (he : stepM d seen ws = .error n) (v : Value) (hv : v = .int .i64 (n : Int)) {fv qv : Value} :
    LineQ w d fv qv seen ws (.returned (.tuple #[dvV d2 (.slice p1 n1 c1) (.slice p2 n2 c2), v])) (LineZ w y d2 (.slice p1 n1 c1) (.slice p2 n2 c2)) :=
  ⟨d2, p1, n1, c1, p2, n2, c2, by rw [he, hv]; rfl, h.low, fun d' hd => by rw [he] at hd; cases hd⟩
theorem LineM.done {w y : World} {d d2 : Dv} {p1 p2 : Option Addr} {n1 c1 n2 c2 : Nat} (h : LineM w y d2 (.slice p1 n1 c1) (.slice p2 n2 c2)) {seen ws : List Wd} (he : stepM d seen ws = .ok d2)
    (hf : FldsAt (LineZ w y d2 (.slice p1 n1 c1) (.slice p2 n2 c2)) (.slice p1 n1 c1) d2.fs) (hq : BytesAt (LineZ w y d2 (.slice p1 n1 c1) (.slice p2 n2 c2)) (.slice p2 n2 c2) d2.rq) {fv qv : Value} (hn1 : NewB w fv (.slice p1 n1 c1)) (hn2 : NewB w qv (.slice p2 n2 c2)) :
    LineQ w d fv qv seen ws (.returned (.tuple #[dvV d2 (.slice p1 n1 c1) (.slice p2 n2 c2), .int .i64 0])) (LineZ w y d2 (.slice p1 n1 c1) (.slice p2 n2 c2)) :=
  ⟨d2, p1, n1, c1, p2, n2, c2, by rw [he]; rfl, h.low, fun d' hd => by rw [he] at hd; cases hd; exact ⟨rfl, hf, hq, hn1, hn2⟩⟩
/-- what lay there ahead is kept -/
theorem LineM.old {w y : World} {d : Dv} {fv qv : Value} (h : LineM w y d fv qv) {v : Value} {fs : List Fd} {u : Value} {rq : List Nat} (k : FldsAt w v fs ∧ BytesAt w u rq) : FldsAt (LineZ w y d fv qv) v fs ∧ BytesAt (LineZ w y d fv qv) u rq := ⟨k.1.below h.low, k.2.below h.low⟩
/-- bytes in a block that is none of the two -/
theorem BytesAt.z {w y : World} {d : Dv} {fv qv : Value} {p : Option Addr} {n c : Nat} {bs : List Nat} (h : BytesAt y (.slice p n c) bs) (hp : ∀ a, p = some a → a.block ≠ w.heap.size + 1) (hs : y.heap.size ≤ (LineZ w y d fv qv).heap.size) : BytesAt (LineZ w y d fv qv) (.slice p n c) bs := by
  rcases h with h | ⟨g, o, cap, h1, h2, h3⟩
  · exact .inl h
  · injection h1 with e1 e2 e3
    exact .inr ⟨g, o, cap, by rw [e1, e2, e3], fun j hj => (World.cell?_of_block (a := ⟨g, o + j, none⟩) (LineZ.off (show g ≠ w.heap.size + 1 from hp _ e1))).trans (h2 j hj), Nat.lt_of_lt_of_le h3 hs⟩
theorem BytesAt.form {y : World} {v : Value} {bs : List Nat} (h : BytesAt y v bs) : ∃ p n c, v = .slice p n c := by
  rcases h with ⟨rfl, _⟩ | ⟨g, o, cap, rfl, _⟩
  · exact ⟨none, 0, 0, rfl⟩
  · exact ⟨_, _, _, rfl⟩
theorem BytesAt.len {y : World} {p : Option Addr} {n c : Nat} {bs : List Nat} (h : BytesAt y (.slice p n c) bs) : n = bs.length := by
  rcases h with ⟨h1, rfl⟩ | ⟨g, o, cap, h1, _⟩
  · injection h1
  · injection h1
theorem BytesAt.set {y : World} {p : Option Addr} {n c : Nat} {bs : List Nat} (h : BytesAt y (.slice p n c) bs) {B i : Nat} (hp : ∀ a, p = some a → a.block ≠ B) {u : Value} : BytesAt (y.setCell ⟨B, i, none⟩ u) (.slice p n c) bs := by
  rcases h with h | ⟨g, o, cap, h1, h2, h3⟩
  · exact .inl h
  · injection h1 with e1 e2 e3
    exact .inr ⟨g, o, cap, by rw [e1, e2, e3], fun j hj => (World.cell?_of_block (a := ⟨g, o + j, none⟩) (Below.heap_setCell _ _ _ _ (show g ≠ B from hp _ e1))).trans (h2 j hj), by simpa using h3⟩
theorem FldsAt.z {w y : World} {d : Dv} {fv qv : Value} {p : Option Addr} {n c : Nat} {fs : List Fd} (h : FldsAt y (.slice p n c) fs) (hp : ∀ a, p = some a → a.block ≠ w.heap.size + 1) (hs : y.heap.size ≤ (LineZ w y d fv qv).heap.size) : FldsAt (LineZ w y d fv qv) (.slice p n c) fs := by
  rcases h with h | ⟨g, o, cap, h1, h2, h3⟩
  · exact .inl h
  · injection h1 with e1 e2 e3
    exact .inr ⟨g, o, cap, by rw [e1, e2, e3], fun j hj k v hv => (World.cell?_of_block (a := ⟨g, o + 9 * j + k, none⟩) (LineZ.off (show g ≠ w.heap.size + 1 from hp _ e1))).trans (h2 j hj k v hv), Nat.lt_of_lt_of_le h3 hs⟩
theorem FldsAt.set {y : World} {p : Option Addr} {n c : Nat} {fs : List Fd} (h : FldsAt y (.slice p n c) fs) {B i : Nat} (hp : ∀ a, p = some a → a.block ≠ B) {u : Value} : FldsAt (y.setCell ⟨B, i, none⟩ u) (.slice p n c) fs := by
  rcases h with h | ⟨g, o, cap, h1, h2, h3⟩
  · exact .inl h
  · injection h1 with e1 e2 e3
    exact .inr ⟨g, o, cap, by rw [e1, e2, e3], fun j hj k v hv => (World.cell?_of_block (a := ⟨g, o + 9 * j + k, none⟩) (Below.heap_setCell _ _ _ _ (show g ≠ B from hp _ e1))).trans (h2 j hj k v hv), by simpa using h3⟩
theorem flds_own' {x : World} {N : Nat} {e : TypeId} {fv : Value} {fs : List Fd} (h : x.ownsRow N e 9 fv fs.length (fdCs fs)) : FldsAt x fv fs := by
  rcases own_slice h with ⟨e, hn⟩ | ⟨g, cap, e, _, hg⟩
  · exact .inl ⟨e, List.length_eq_zero_iff.1 hn⟩
  · refine .inr ⟨g, 0, cap, e, fun j hj k v hv => ?_, hg⟩
    have hk : k < 9 := by
      have := (List.getElem?_eq_some_iff.1 hv).1
      rwa [fdC_len] at this
    have k2 := h
    rw [e] at k2
    rw [Nat.zero_add, World.ownsRow.cellAt k2 (9 * j + k) (by omega), fdCs_get fs j k hj hk]
    exact hv
theorem LineZ.size {w y : World} {d : Dv} {fv qv : Value} : y.heap.size ≤ (LineZ w y d fv qv).heap.size := by
  unfold LineZ put12
  simp only [World.size_setCell]
  exact Nat.le_refl _
def NewP (p : Option Addr) (N : Nat) : Prop := ∀ a, p = some a → N ≤ a.block
theorem NewP.b {p : Option Addr} {N : Nat} {w : World} {v : Value} {n c : Nat} (h : NewP p N) (hN : w.heap.size ≤ N) : NewB w v (.slice p n c) := .inr fun g hg => by
  cases p with
  | none => cases hg
  | some a => cases hg; exact Nat.le_trans hN (h a rfl)
theorem len_two {a : List Wd} (h : a.length = 2) : ∃ z t, a = [z, t] := by
  match a, h with
  | [z, t], _ => exact ⟨z, t, rfl⟩
end Go.Proofs.YtagkgneijdbkoaaDoor
/-
  The document's own Read: what is said of it between the lines, and of the region that calls line (layer 8). No conditions but those that each says.
-/
namespace Go.Proofs.YtagkgneijdbkoaaDoor
open Go.RowKit
set_option linter.unusedVariables false

theorem own_strs {x : World} {N : Nat} {e : TypeId} {v : Value} {ws : List Wd} (h : x.ownsRow N e 1 v ws.length (strV ws)) : StrsAt x v ws := by
  rcases own_slice h with ⟨e1, hn⟩ | ⟨g, cap, e1, _, hg⟩
  · exact .inl ⟨e1, List.length_eq_zero_iff.1 hn⟩
  · refine .inr ⟨g, 0, cap, e1, fun j hj => ?_, hg⟩
    have k := h
    rw [e1] at k
    rw [Nat.zero_add, World.ownsRow.cellAt k j (by omega), List.getElem?_map, List.getElem?_eq_getElem hj]
    rfl
/-- where a slice of fields, of bytes lies -/
theorem FldsAt.lt {x : World} {v : Value} {fs : List Fd} (h : FldsAt x v fs) : ∀ g, v.ownBlock = some g → g < x.heap.size := by
  intro g hg
  rcases h with ⟨rfl, _⟩ | ⟨g', o, cap, rfl, _, h3⟩
  · cases hg
  · cases hg; exact h3
theorem BytesAt.lt {x : World} {v : Value} {bs : List Nat} (h : BytesAt x v bs) : ∀ g, v.ownBlock = some g → g < x.heap.size := by
  intro g hg
  rcases h with ⟨rfl, _⟩ | ⟨g', o, cap, rfl, _, h3⟩
  · cases hg
  · cases hg; exact h3
/-- kept where its block is kept -/
theorem FldsAt.on {x y : World} {v : Value} {fs : List Fd} (h : FldsAt x v fs) (hk : ∀ g, v.ownBlock = some g → y.heap[g]? = x.heap[g]?) : FldsAt y v fs := by
  rcases h with h | ⟨g, o, cap, rfl, h2, h3⟩
  · exact .inl h
  · have k := hk g rfl
    refine .inr ⟨g, o, cap, rfl, fun j hj i u hu => (World.cell?_of_block (a := ⟨g, o + 9 * j + i, none⟩) k).trans (h2 j hj i u hu), ?_⟩
    rw [Array.getElem?_eq_getElem h3] at k
    exact (Array.getElem?_eq_some_iff.1 k).1
theorem BytesAt.on {x y : World} {v : Value} {bs : List Nat} (h : BytesAt x v bs) (hk : ∀ g, v.ownBlock = some g → y.heap[g]? = x.heap[g]?) : BytesAt y v bs := by
  rcases h with h | ⟨g, o, cap, rfl, h2, h3⟩
  · exact .inl h
  · have k := hk g rfl
    refine .inr ⟨g, o, cap, rfl, fun j hj => (World.cell?_of_block (a := ⟨g, o + j, none⟩) k).trans (h2 j hj), ?_⟩
    rw [Array.getElem?_eq_getElem h3] at k
    exact (Array.getElem?_eq_some_iff.1 k).1
/-- between the lines -/
structure RrSt (w x : World) (d : Dv) (fv qv vs : Value) (seen : List Wd) : Prop where
  rc : x.heap[w.heap.size]? = some (.cells dz 36 (0, 0))
  dc : x.heap[w.heap.size + 1]? = some (.cells (dvA d fv qv) 36 (0, 0))
  so : x.ownsRow (w.heap.size + 2) 9 1 vs seen.length (strV seen)
  fl : FldsAt x fv d.fs
  rq : BytesAt x qv d.rq
  fn : ∀ g, fv.ownBlock = some g → w.heap.size + 2 ≤ g ∧ some g ≠ vs.ownBlock
  qn : ∀ g, qv.ownBlock = some g → w.heap.size + 2 ≤ g ∧ some g ≠ vs.ownBlock
  sn : SeenOk d seen
  b : Below w.heap.size w x
theorem RrSt.first (w : World) : RrSt w ((w.alloc (.cells dz 36)).alloc (.cells dz 36)) dv0 nilS nilS nilS [] := by
  refine ⟨map_under _ _ _ _ (World.alloc_heap_new w _), ?_, World.ownsRow_nil _ _ _ _, .inl ⟨rfl, rfl⟩, .inl ⟨rfl, rfl⟩, fun g h => (by cases h), fun g h => (by cases h), SeenOk.first, ?_⟩
  · have k := World.alloc_heap_new (w.alloc (.cells dz 36)) (.cells dz 36)
    rwa [World.size_alloc] at k
  · exact ((Below.refl _ _).alloc (Nat.le_refl _) _).alloc (by rw [World.size_alloc]; omega) _
/-- what comes up in the region: where x lies, what line answered -/
structure LnG where
  b : Nat
  d : Dv
  v1 : Value
  v2 : Value
def GoodD (w0 : World) (d : Dv) (fv qv : Value) (seen ws : List Wd) (γ : LnG) (z : World) : Prop := ∀ d', stepM d seen ws = .ok d' → γ.d = d' ∧ FldsAt z γ.v1 d'.fs ∧ BytesAt z γ.v2 d'.rq ∧ NewB w0 fv γ.v1 ∧ NewB w0 qv γ.v2
theorem NewB.up {w z : World} {v u : Value} (h : NewB z v u) (hs : w.heap.size ≤ z.heap.size) : NewB w v u := h.imp id fun h g hg => Nat.le_trans hs (h g hg)
theorem NewB.ne {w : World} {v u : Value} (h : NewB w v u) {b : Nat} (hb : b < w.heap.size) (hv : some b ≠ v.ownBlock) : some b ≠ u.ownBlock := by
  rcases h with h | h
  · rw [h]; exact hv
  · intro e; have := h b e.symm; omega
def isSl (v : Value) : Prop := ∃ p n c, v = .slice p n c
structure LnW (w0 : World) (d : Dv) (fv qv : Value) (seen ws : List Wd) (γ : LnG) (x : Array Bool) (z : World) : Prop where
  low : Below w0.heap.size w0 z
  f1 : isSl γ.v1
  f2 : isSl γ.v2
  o8 : x.getD 8 false = true → x.getD 7 false = true
  o9 : x.getD 9 false = true → x.getD 7 false = true
  o10 : x.getD 10 false = true → x.getD 7 false = true
  o12 : x.getD 12 false = true → x.getD 7 false = true
  o13 : x.getD 13 false = true → x.getD 7 false = true
  o11 : x.getD 12 false = true → x.getD 11 false = true
  bl : x.getD 11 false = true → w0.heap.size ≤ γ.b ∧ z.heap[γ.b]? = some (.cells (if x.getD 12 false = true then dvA γ.d γ.v1 γ.v2 else dz) 36 (0, 0))
  gd : x.getD 7 false = true → GoodD w0 d fv qv seen ws γ z
  ne : x.getD 7 false = true → x.getD 11 false = true → ∀ d', stepM d seen ws = .ok d' → some γ.b ≠ γ.v1.ownBlock ∧ some γ.b ≠ γ.v2.ownBlock
theorem LnW.other {w0 : World} {d : Dv} {fv qv : Value} {seen ws : List Wd} {γ : LnG} {x : Array Bool} {z : World} (h : LnW w0 d fv qv seen ws γ x z) {i : Nat} (h7 : i ≠ 7) (h11 : i ≠ 11) (h12 : i ≠ 12) (hd : x.getD 7 false = true ∨ (i ≠ 8 ∧ i ≠ 9 ∧ i ≠ 10 ∧ i ≠ 13)) : LnW w0 d fv qv seen ws γ (x.setIfInBounds i true) z := by
  obtain ⟨low, f1, f2, o8, o9, o10, o12, o13, o11, bl, gd, ne⟩ := h
  have e7 : (x.setIfInBounds i true).getD 7 false = x.getD 7 false := getD_set_ne false h7
  have e11 : (x.setIfInBounds i true).getD 11 false = x.getD 11 false := getD_set_ne false h11
  have e12 : (x.setIfInBounds i true).getD 12 false = x.getD 12 false := getD_set_ne false h12
  have q : ∀ j, (i ≠ j ∨ x.getD 7 false = true) → (x.getD j false = true → x.getD 7 false = true) → (x.setIfInBounds i true).getD j false = true → x.getD 7 false = true := fun j hj ho hs => by
    rcases hj with hj | hj
    · rw [getD_set_ne false hj] at hs; exact ho hs
    · exact hj
  refine ⟨low, f1, f2, ?_, ?_, ?_, ?_, ?_, ?_, ?_, ?_, ?_⟩
  · rw [e7]; exact q 8 (hd.elim .inr fun h => .inl h.1) o8
  · rw [e7]; exact q 9 (hd.elim .inr fun h => .inl h.2.1) o9
  · rw [e7]; exact q 10 (hd.elim .inr fun h => .inl h.2.2.1) o10
  · rw [e7, e12]; exact o12
  · rw [e7]; exact q 13 (hd.elim .inr fun h => .inl h.2.2.2) o13
  · rw [e11, e12]; exact o11
  · rw [e11, e12]; exact bl
  · rw [e7]; exact gd
  · rw [e7, e11]; exact ne
theorem LnW.call {w0 : World} {d : Dv} {fv qv : Value} {seen ws : List Wd} {γ : LnG} {x : Array Bool} {z z' : World} (h : LnW w0 d fv qv seen ws γ x z) (h7 : x.getD 7 false = false) (h14 : x.size = 14) {d2 : Dv} {p1 p2 : Option Addr} {n1 c1 n2 c2 : Nat} (hb : Below z.heap.size z z') (hf0 : ∀ g, fv.ownBlock = some g → g < w0.heap.size) (hq0 : ∀ g, qv.ownBlock = some g → g < w0.heap.size)
    (hg : ∀ d', stepM d seen ws = .ok d' → d2 = d' ∧ FldsAt z' (.slice p1 n1 c1) d'.fs ∧ BytesAt z' (.slice p2 n2 c2) d'.rq ∧ NewB z fv (.slice p1 n1 c1) ∧ NewB z qv (.slice p2 n2 c2)) : LnW w0 d fv qv seen ws ⟨γ.b, d2, .slice p1 n1 c1, .slice p2 n2 c2⟩ (x.setIfInBounds 7 true) z' := by
  obtain ⟨low, f1, f2, o8, o9, o10, o12, o13, o11, bl, gd, ne⟩ := h
  have s7 : (x.setIfInBounds 7 true).getD 7 false = true := getD_set_at (by rw [h14]; decide)
  have e11 : (x.setIfInBounds 7 true).getD 11 false = x.getD 11 false := getD_set_ne false (by decide)
  have e12 : (x.setIfInBounds 7 true).getD 12 false = x.getD 12 false := getD_set_ne false (by decide)
  have x12 : x.getD 12 false = false := by
    cases e : x.getD 12 false
    · rfl
    · rw [o12 e] at h7; cases h7
  refine ⟨low.trans (hb.mono low.size), ⟨_, _, _, rfl⟩, ⟨_, _, _, rfl⟩, fun _ => s7, fun _ => s7, fun _ => s7, fun _ => s7, fun _ => s7, ?_, ?_, fun _ => ?_, fun _ => ?_⟩
  · rw [e11, e12]; exact o11
  · rw [e11, e12, x12]
    intro k
    have hbl := bl k
    rw [x12] at hbl
    exact ⟨hbl.1, (hb.block _ (Array.getElem?_eq_some_iff.1 hbl.2).1).trans hbl.2⟩
  · intro d' hd
    obtain ⟨k1, k2, k3, k4, k5⟩ := hg d' hd
    exact ⟨k1, k2, k3, k4.up low.size, k5.up low.size⟩
  · rw [e11]
    intro k d' hd
    obtain ⟨k1, k2, k3, k4, k5⟩ := hg d' hd
    have hbl := bl k
    have hlt := (Array.getElem?_eq_some_iff.1 hbl.2).1
    exact ⟨k4.ne hlt (fun e => by have : γ.b < w0.heap.size := hf0 _ e.symm; have h1 := hbl.1; omega), k5.ne hlt (fun e => by have : γ.b < w0.heap.size := hq0 _ e.symm; have h1 := hbl.1; omega)⟩
theorem LnW.alloc {w0 : World} {d : Dv} {fv qv : Value} {seen ws : List Wd} {γ : LnG} {x : Array Bool} {z : World} (h : LnW w0 d fv qv seen ws γ x z) (h11 : x.getD 11 false = false) (h14 : x.size = 14) : LnW w0 d fv qv seen ws ⟨z.heap.size, γ.d, γ.v1, γ.v2⟩ (x.setIfInBounds 11 true) (z.alloc (.cells dz 36)) := by
  obtain ⟨low, f1, f2, o8, o9, o10, o12, o13, o11, bl, gd, ne⟩ := h
  have e7 : (x.setIfInBounds 11 true).getD 7 false = x.getD 7 false := getD_set_ne false (by decide)
  have s11 : (x.setIfInBounds 11 true).getD 11 false = true := getD_set_at (by rw [h14]; decide)
  have e12 : (x.setIfInBounds 11 true).getD 12 false = x.getD 12 false := getD_set_ne false (by decide)
  have x12 : x.getD 12 false = false := by
    cases e : x.getD 12 false
    · rfl
    · rw [o11 e] at h11; cases h11
  have ba : Below z.heap.size z (z.alloc (.cells dz 36)) := (Below.refl _ _).alloc (Nat.le_refl _) _
  have gd' : x.getD 7 false = true → GoodD w0 d fv qv seen ws γ (z.alloc (.cells dz 36)) := fun k d' hd => by
    obtain ⟨k1, k2, k3, k4⟩ := gd k d' hd
    exact ⟨k1, k2.below ba, k3.below ba, k4⟩
  refine ⟨low.alloc low.size _, f1, f2, ?_, ?_, ?_, ?_, ?_, fun _ => s11, fun _ => ⟨low.size, ?_⟩, ?_, ?_⟩
  · rw [e7, getD_set_ne false (by decide)]; exact o8
  · rw [e7, getD_set_ne false (by decide)]; exact o9
  · rw [e7, getD_set_ne false (by decide)]; exact o10
  · rw [e7, e12]; exact o12
  · rw [e7, getD_set_ne false (by decide)]; exact o13
  · rw [e12, x12]; exact World.alloc_heap_new z _
  · rw [e7]; exact fun k => gd' k
  · rw [e7]
    intro k _ d' hd
    obtain ⟨_, k2, k3, _⟩ := gd k d' hd
    exact ⟨fun e => Nat.lt_irrefl _ (by have : z.heap.size < z.heap.size := k2.lt _ e.symm; exact this), fun e => Nat.lt_irrefl _ (by have : z.heap.size < z.heap.size := k3.lt _ e.symm; exact this)⟩
theorem LnW.store {w0 : World} {d : Dv} {fv qv : Value} {seen ws : List Wd} {γ : LnG} {x : Array Bool} {z : World} (h : LnW w0 d fv qv seen ws γ x z) (h7 : x.getD 7 false = true) (h11 : x.getD 11 false = true) (h12 : x.getD 12 false = false) (h14 : x.size = 14) :
    LnW w0 d fv qv seen ws γ (x.setIfInBounds 12 true) (put12 z γ.b (.string (txt γ.d.nm)) (.int .i64 γ.d.st) (.int .i64 γ.d.es) (.int .i64 γ.d.mx) (.int .i64 γ.d.sz) (.string (txt γ.d.sm)) γ.v1 γ.v2 (.int .i64 γ.d.po) (.int .i64 γ.d.ti) (.int .i64 γ.d.re) (.int .i64 γ.d.ag)) := by
  obtain ⟨low, f1, f2, o8, o9, o10, o12, o13, o11, bl, gd, ne⟩ := h
  have e7 : (x.setIfInBounds 12 true).getD 7 false = x.getD 7 false := getD_set_ne false (by decide)
  have e11 : (x.setIfInBounds 12 true).getD 11 false = x.getD 11 false := getD_set_ne false (by decide)
  have s12 : (x.setIfInBounds 12 true).getD 12 false = true := getD_set_at (by rw [h14]; decide)
  have hbl := bl h11
  rw [h12] at hbl
  have off : ∀ k, k ≠ γ.b → (put12 z γ.b (.string (txt γ.d.nm)) (.int .i64 γ.d.st) (.int .i64 γ.d.es) (.int .i64 γ.d.mx) (.int .i64 γ.d.sz) (.string (txt γ.d.sm)) γ.v1 γ.v2 (.int .i64 γ.d.po) (.int .i64 γ.d.ti) (.int .i64 γ.d.re) (.int .i64 γ.d.ag)).heap[k]? = z.heap[k]? := fun k hk => put12_off hk _ _ _ _ _ _ _ _ _ _ _ _
  refine ⟨put12_below low hbl.1 _ _ _ _ _ _ _ _ _ _ _ _, f1, f2, ?_, ?_, ?_, fun _ => e7.trans h7, ?_, fun _ => e11.trans h11, fun _ => ⟨hbl.1, ?_⟩, fun _ => ?_, ?_⟩
  · rw [e7, getD_set_ne false (by decide)]; exact o8
  · rw [e7, getD_set_ne false (by decide)]; exact o9
  · rw [e7, getD_set_ne false (by decide)]; exact o10
  · rw [e7, getD_set_ne false (by decide)]; exact o13
  · rw [s12, if_pos rfl]; exact put12_at hbl.2 _ _ _ _ _ _ _ _ _ _ _ _
  · intro d' hd
    obtain ⟨k1, k2, k3, k4⟩ := gd h7 d' hd
    obtain ⟨n1, n2⟩ := ne h7 h11 d' hd
    exact ⟨k1, k2.on fun g hg => off g (fun e => n1 (by rw [← e]; exact hg.symm)), k3.on fun g hg => off g (fun e => n2 (by rw [← e]; exact hg.symm)), k4⟩
  · rw [e7, e11]; exact ne
/-- what the operations yield -/
def lineV (D gr k lk : Nat) (len cap : Nat) (dv vw vs : Value) (er : Int) (γ : LnG) (i : Nat) : Value :=
  (#[dv, .slice (some ⟨gr, lk, none⟩) len cap, .int .i64 (k : Int), .pointer (some ⟨gr, lk + k * 2, none⟩), .pointer (some ⟨gr, lk + k * 2 + 1, none⟩), vw, vs,
    .tuple #[dvV γ.d γ.v1 γ.v2, .int .i64 er], .tuple #[dvV γ.d γ.v1 γ.v2, .int .i64 er], dvV γ.d γ.v1 γ.v2, .int .i64 er, .pointer (some ⟨γ.b, 0, none⟩), undef, .int .i64 er] : Array Value).getD i undef
def LnP (D gr k lk : Nat) (len cap : Nat) (dv vw vs : Value) (er : Int) (γ : LnG) (_x : Array Bool) (i : Nat) (v : Value) (_z : World) : Prop := v = lineV D gr k lk len cap dv vw vs er γ i
theorem getD_q {x : Array Bool} {j : Nat} (h : x[j]?.getD false = true) : x.getD j false = true := by rw [Array.getD_eq_getD_getElem?]; exact h
/-- only what hangs on the result turns with it -/
theorem lineV_call {D gr k lk len cap : Nat} {dv vw vs : Value} {er : Int} {γ γ' : LnG} (hb : γ'.b = γ.b) {j : Nat} (h : j ≠ 7 ∧ j ≠ 8 ∧ j ≠ 9 ∧ j ≠ 10 ∧ j ≠ 13) : lineV D gr k lk len cap dv vw vs er γ j = lineV D gr k lk len cap dv vw vs er γ' j := by
  obtain ⟨h7, h8, h9, h10, h13⟩ := h
  unfold lineV
  rw [hb]
  match j, h7, h8, h9, h10, h13 with
  | 0, _, _, _, _, _ => rfl
  | 1, _, _, _, _, _ => rfl
  | 2, _, _, _, _, _ => rfl
  | 3, _, _, _, _, _ => rfl
  | 4, _, _, _, _, _ => rfl
  | 5, _, _, _, _, _ => rfl
  | 6, _, _, _, _, _ => rfl
  | 7, h, _, _, _, _ => exact absurd rfl h
  | 8, _, h, _, _, _ => exact absurd rfl h
  | 9, _, _, h, _, _ => exact absurd rfl h
  | 10, _, _, _, h, _ => exact absurd rfl h
  | 11, _, _, _, _, _ => rfl
  | 12, _, _, _, _, _ => rfl
  | 13, _, _, _, _, h => exact absurd rfl h
  | (n + 14), _, _, _, _, _ => rfl
theorem lineV_alloc {D gr k lk len cap : Nat} {dv vw vs : Value} {er : Int} {γ : LnG} {b : Nat} {j : Nat} (h : j ≠ 11) : lineV D gr k lk len cap dv vw vs er γ j = lineV D gr k lk len cap dv vw vs er ⟨b, γ.d, γ.v1, γ.v2⟩ j := by
  unfold lineV
  match j, h with
  | 0, _ => rfl
  | 1, _ => rfl
  | 2, _ => rfl
  | 3, _ => rfl
  | 4, _ => rfl
  | 5, _ => rfl
  | 6, _ => rfl
  | 7, _ => rfl
  | 8, _ => rfl
  | 9, _ => rfl
  | 10, _ => rfl
  | 11, h => exact absurd rfl h
  | 12, _ => rfl
  | 13, _ => rfl
  | (n + 14), _ => rfl
/-- the line is taken in: its device is in d's block, its word among the words -/
theorem RrSt.next {w wr z y : World} {d d' : Dv} {fv qv vs v' : Value} {seen ws : List Wd} {γ : LnG} {f : Wd} {o : Obj} (h : RrSt w wr d fv qv vs seen) (hz : Below wr.heap.size wr z) (hs : stepM d seen ws = .ok d') (hg : GoodD wr d fv qv seen ws γ z) (hf : ws.headD [] = f)
    (ho : y.ownsRow (w.heap.size + 2) 9 1 v' (seen.length + 1) (strV seen ++ [.string (txt f)]))
    (hgr : ((put12 z (w.heap.size + 1) (.string (txt d'.nm)) (.int .i64 d'.st) (.int .i64 d'.es) (.int .i64 d'.mx) (.int .i64 d'.sz) (.string (txt d'.sm)) γ.v1 γ.v2 (.int .i64 d'.po) (.int .i64 d'.ti) (.int .i64 d'.re) (.int .i64 d'.ag)).alloc o).grownBy y vs.ownBlock)
    (hv : v'.ownBlock = vs.ownBlock ∨ v'.ownBlock = some ((put12 z (w.heap.size + 1) (.string (txt d'.nm)) (.int .i64 d'.st) (.int .i64 d'.es) (.int .i64 d'.mx) (.int .i64 d'.sz) (.string (txt d'.sm)) γ.v1 γ.v2 (.int .i64 d'.po) (.int .i64 d'.ti) (.int .i64 d'.re) (.int .i64 d'.ag)).alloc o).heap.size) :
    RrSt w y d' γ.v1 γ.v2 v' (seen ++ [f]) := by
  obtain ⟨rfl, g1, g2, g3, g4⟩ := hg d' hs
  have off : ∀ k, k ≠ w.heap.size + 1 → (put12 z (w.heap.size + 1) (.string (txt γ.d.nm)) (.int .i64 γ.d.st) (.int .i64 γ.d.es) (.int .i64 γ.d.mx) (.int .i64 γ.d.sz) (.string (txt γ.d.sm)) γ.v1 γ.v2 (.int .i64 γ.d.po) (.int .i64 γ.d.ti) (.int .i64 γ.d.re) (.int .i64 γ.d.ag)).heap[k]? = z.heap[k]? := fun k hk => put12_off hk _ _ _ _ _ _ _ _ _ _ _ _
  have dcz : z.heap[w.heap.size + 1]? = some (.cells (dvA d fv qv) 36 (0, 0)) := (hz.block _ (Array.getElem?_eq_some_iff.1 h.dc).1).trans h.dc
  have atD := put12_at dcz (.string (txt γ.d.nm)) (.int .i64 γ.d.st) (.int .i64 γ.d.es) (.int .i64 γ.d.mx) (.int .i64 γ.d.sz) (.string (txt γ.d.sm)) γ.v1 γ.v2 (.int .i64 γ.d.po) (.int .i64 γ.d.ti) (.int .i64 γ.d.re) (.int .i64 γ.d.ag)
  have lowD : Below w.heap.size w (put12 z (w.heap.size + 1) (.string (txt γ.d.nm)) (.int .i64 γ.d.st) (.int .i64 γ.d.es) (.int .i64 γ.d.mx) (.int .i64 γ.d.sz) (.string (txt γ.d.sm)) γ.v1 γ.v2 (.int .i64 γ.d.po) (.int .i64 γ.d.ti) (.int .i64 γ.d.re) (.int .i64 γ.d.ag)) := put12_below (h.b.trans (hz.mono h.b.size)) (by omega) _ _ _ _ _ _ _ _ _ _ _ _
  have szD : (put12 z (w.heap.size + 1) (.string (txt γ.d.nm)) (.int .i64 γ.d.st) (.int .i64 γ.d.es) (.int .i64 γ.d.mx) (.int .i64 γ.d.sz) (.string (txt γ.d.sm)) γ.v1 γ.v2 (.int .i64 γ.d.po) (.int .i64 γ.d.ti) (.int .i64 γ.d.re) (.int .i64 γ.d.ag)).heap.size = z.heap.size := by unfold put12; simp only [World.size_setCell]
  generalize put12 z (w.heap.size + 1) (.string (txt γ.d.nm)) (.int .i64 γ.d.st) (.int .i64 γ.d.es) (.int .i64 γ.d.mx) (.int .i64 γ.d.sz) (.string (txt γ.d.sm)) γ.v1 γ.v2 (.int .i64 γ.d.po) (.int .i64 γ.d.ti) (.int .i64 γ.d.re) (.int .i64 γ.d.ag) = zD at *
  have lw := World.ownsRow.lt h.so
  have Dl : w.heap.size + 1 < wr.heap.size := (Array.getElem?_eq_some_iff.1 h.dc).1
  have zl := hz.size
  have n1 : ∀ g, γ.v1.ownBlock = some g → w.heap.size + 2 ≤ g ∧ some g ≠ vs.ownBlock := fun g hg => by
    rcases g3 with e | e
    · exact h.fn g (by rw [← e]; exact hg)
    · have k := e g hg
      exact ⟨by omega, fun c => by have := (lw g c.symm).2; omega⟩
  have n2 : ∀ g, γ.v2.ownBlock = some g → w.heap.size + 2 ≤ g ∧ some g ≠ vs.ownBlock := fun g hg => by
    rcases g4 with e | e
    · exact h.qn g (by rw [← e]; exact hg)
    · have k := e g hg
      exact ⟨by omega, fun c => by have := (lw g c.symm).2; omega⟩
  have keep : ∀ k, k < z.heap.size → k ≠ w.heap.size + 1 → some k ≠ vs.ownBlock → y.heap[k]? = z.heap[k]? := fun k hk hD hv => by
    rw [hgr.block k (by rw [World.size_alloc, szD]; omega) (fun e => hv e), ← off k hD]
    exact (((Below.refl _ _).alloc (Nat.le_refl _) o).block k (by rw [szD]; exact hk))
  have vn : ∀ g, g < z.heap.size → some g ≠ vs.ownBlock → some g ≠ v'.ownBlock := fun g hg hn => by
    rcases hv with e | e
    · rw [e]; exact hn
    · rw [e, World.size_alloc, szD]; intro c; have := Option.some.inj c; omega
  have hst := h.sn.step hs
  rw [hf] at hst
  refine ⟨?_, ?_, ?_, ?_, ?_, ?_, ?_, hst, ?_⟩
  · rw [keep _ (by omega) (by omega) (fun e => by have := (lw _ e.symm).1; omega)]
    exact (hz.block _ (Array.getElem?_eq_some_iff.1 h.rc).1).trans h.rc
  · rw [hgr.block _ (by rw [World.size_alloc, szD]; omega) (fun e => by have := (lw _ e.symm).1; omega)]
    exact map_under _ _ _ _ atD
  · have e1 : (seen ++ [f]).length = seen.length + 1 := by simp
    have e2 : strV (seen ++ [f]) = strV seen ++ [.string (txt f)] := by unfold strV; simp
    rw [e1, e2]; exact ho
  · exact g1.on fun g hg => keep g (g1.lt g hg) (by have := (n1 g hg).1; omega) (n1 g hg).2
  · exact g2.on fun g hg => keep g (g2.lt g hg) (by have := (n2 g hg).1; omega) (n2 g hg).2
  · exact fun g hg => ⟨(n1 g hg).1, vn g (g1.lt g hg) (n1 g hg).2⟩
  · exact fun g hg => ⟨(n2 g hg).1, vn g (g2.lt g hg) (n2 g hg).2⟩
  · exact (lowD.alloc lowD.size o).grown hgr (by rw [World.size_alloc]; have := lowD.size; omega) (fun k e => by have := (lw k e).1; omega)
/-- what is asked of line, by whoever calls it -/
def LineP : Prop := ∀ (ws : List Wd) (d : Dv) (fv qv vw vs : Value) (w : World) (seen : List Wd), StrsAny w vw ws → (ws.length : Int) ≤ 5000 → (∀ z ∈ ws, (z.length : Int) ≤ 5000) → StrsAt w vs seen → (seen.length : Int) ≤ 5000 → FldsAt w fv d.fs → BytesAt w qv d.rq → d.fs.length ≤ 8 → Calls Tryd.prog 18 #[dvV d fv qv, vw, vs] w (LineQ w d fv qv seen ws)
def LnC (wr : World) (d : Dv) (fv qv vw vs : Value) (seen ws : List Wd) : Prop := ∀ z, Below wr.heap.size wr z → Calls Tryd.prog 18 #[dvV d fv qv, vw, vs] z (LineQ z d fv qv seen ws)
theorem LineP.at (P : LineP) {w wr : World} {d : Dv} {fv qv vs vw : Value} {seen ws : List Wd} (h : RrSt w wr d fv qv vs seen) (hw : StrsAny wr vw ws) (hl : (ws.length : Int) ≤ 4500) (hz : ∀ z ∈ ws, (z.length : Int) ≤ 5000) : LnC wr d fv qv vw vs seen ws := fun z hb =>
  P ws d fv qv vw vs z seen (hw.below hb) (by omega) hz ((own_strs h.so).below hb) (by have := sn_len h.sn; omega) (h.fl.below hb) (h.rq.below hb) h.sn.le
theorem res_dev3r {fn : Func} {p u v : Tmp} (h : fn.results = #[.cell p 36, .tmp u, .tmp v]) {tmps : Array Value} {w : World} {b : Nat} {v0 v1 v2 v3 v4 v5 v6 v7 v8 v9 v10 v11 e1 e2 : Value}
    (hp : tmps.getD p undef = .pointer (some ⟨b, 0, none⟩)) (hu : tmps.getD u undef = e1) (hv : tmps.getD v undef = e2)
    (hc : w.heap[b]? = some (.cells #[v0, v1, v2, v3, v4, v5, v6, v7, v8, v9, v10, v11] 36 (0, 0))) :
    (results fn tmps).run Tryd.prog w = .ok (.tuple #[.agg #[v0, v1, v2, v3, v4, v5, v6, v7, v8, v9, v10, v11], e1, e2]) w := by
  have c := rd_cell hc
  have c0 := (c 0).1
  have c1 := (c 1).1
  have c2 := (c 2).1
  have c3 := (c 3).1
  have c4 := (c 4).1
  have c5 := (c 5).1
  have c6 := (c 6).1
  have c7 := (c 7).1
  have c8 := (c 8).1
  have c9 := (c 9).1
  have c10 := (c 10).1
  have c11 := (c 11).1
  simp only [List.getElem?_toArray, List.getElem?_cons_zero, List.getElem?_cons_succ] at c0 c1 c2 c3 c4 c5 c6 c7 c8 c9 c10 c11
  rw [results_cell_tmp2 h, hp, hu, hv]
  simp only [asAddr]
  simp [go_sem, Result.andThen, c0, c1, c2, c3, c4, c5, c6, c7, c8, c9, c10, c11]
/-- the region that hands an error back -/
def errV (gr lk k len cap : Nat) (ln n : Int) (i : Nat) : Value :=
  (#[.agg dz, .slice (some ⟨gr, lk, none⟩) len cap, .int .i64 (k : Int), .pointer (some ⟨gr, lk + k * 2, none⟩), .pointer (some ⟨gr, lk + k * 2, none⟩), .int .i64 ln, .int .i64 n, undef, .int .i64 ln, .int .i64 n] : Array Value).getD i undef
def ErP (gr lk k len cap : Nat) (ln n : Int) (i : Nat) (v : Value) : Prop := v = errV gr lk k len cap ln n i
abbrev putZ (y : World) (R : Nat) : World := put12 y R (.string ⟨#[]⟩) (.int .i64 0) (.int .i64 0) (.int .i64 0) (.int .i64 0) (.string ⟨#[]⟩) (.slice none 0 0) (.slice none 0 0) (.int .i64 0) (.int .i64 0) (.int .i64 0) (.int .i64 0)
structure ErrX (y : World) (R gr a : Nat) (ln : Int) (x : Array Bool) (z : World) : Prop where
  lr : z.cell? ⟨gr, a, none⟩ = some (.int .i64 ln)
  f0 : x.getD 7 false = false → z = y.drew
  f1 : x.getD 7 false = true → z = (putZ y R).drew
theorem ErrX.other {y : World} {R gr a : Nat} {ln : Int} {x : Array Bool} {z : World} (h : ErrX y R gr a ln x z) {i : Nat} (hi : i ≠ 7) : ErrX y R gr a ln (x.setIfInBounds i true) z :=
  ⟨h.lr, by rw [getD_set_ne false hi]; exact h.f0, by rw [getD_set_ne false hi]; exact h.f1⟩
theorem ErrX.stored {y : World} {R gr a : Nat} {ln : Int} {x : Array Bool} {z : World} (h : ErrX y R gr a ln x z) (hr : gr ≠ R) (hx : x.getD 7 false = false) (hs : 7 < x.size) : ErrX y R gr a ln (x.setIfInBounds 7 true) (putZ y R).drew := by
  have e := getD_set_at hs
  have hl := h.lr
  rw [h.f0 hx, drew_cell] at hl
  refine ⟨by rw [drew_cell]; exact (World.cell?_of_block (a := ⟨gr, a, none⟩) (put12_off (y := y) hr _ _ _ _ _ _ _ _ _ _ _ _)).trans hl, fun h4 => ?_, fun _ => rfl⟩
  rw [e] at h4; cases h4
def NxC (w yD : World) (d' : Dv) (vs v1 v2 : Value) (seen : List Wd) (f : Wd) : Prop := ∀ (y : World) (v' : Value) (o : Obj), y.ownsRow (w.heap.size + 2) 9 1 v' (seen.length + 1) (strV seen ++ [.string (txt f)]) → (yD.alloc o).grownBy y vs.ownBlock → (v'.ownBlock = vs.ownBlock ∨ v'.ownBlock = some (yD.alloc o).heap.size) → RrSt w y d' v1 v2 v' (seen ++ [f])
theorem own_on {x y : World} {N : Nat} {e : TypeId} {s : Nat} {v : Value} {n : Nat} {xs : List Value} (h : x.ownsRow N e s v n xs) (hk : ∀ g, v.ownBlock = some g → y.heap[g]? = x.heap[g]?) : y.ownsRow N e s v n xs := by
  refine ⟨h.1, ?_⟩
  rcases h.2 with h | ⟨g, cap, cur, h1, h2, h3, h4⟩
  · exact .inl h
  · exact .inr ⟨g, cap, cur, h1, h2, (hk g (by rw [h1]; rfl)).trans h3, h4⟩
theorem notF_snoc (s : List Wd) (f : Wd) : ((notF (s ++ [f])).length : Int) = ((notF s).length : Int) + (if f = kFie then 0 else 1) := by
  unfold notF
  rw [List.filter_append]
  by_cases h : f = kFie
  · rw [if_pos h]; simp [h]
  · rw [if_neg h]; simp [h]
end Go.Proofs.YtagkgneijdbkoaaDoor
/-
  The document's own Read, of any lines, out of line's contract (layer 8). Conditions: at most 4500 lines, 4500 words each, 5000 bytes a word.
-/
namespace Go.Proofs.YtagkgneijdbkoaaDoor
open Go.RowKit
set_option linter.unusedVariables false

set_option maxRecDepth 100000 in
set_option maxHeartbeats 8000000 in
theorem rread_of (P : LineP) (rs : List Lr) (v : Value) (w : World) (hv : LrsAt w v rs) (hn : (rs.length : Int) ≤ 4500) (hwl : ∀ r ∈ rs, (r.2.length : Int) ≤ 4500) (hz : ∀ r ∈ rs, ∀ z ∈ r.2, (z.length : Int) ≤ 5000) :
    Calls Tryd.prog 11 #[v] w (ReadQ w (readM rs)) := by
  have L0 : Hid (LeftR dv0 [] rs (readM rs)) := rfl
  generalize readM rs = T at *
  obtain ⟨i0, hi0, hz0, hz1, hz2⟩ := info_parts info_st
  obtain ⟨p, cap, rfl⟩ : ∃ p cap, v = .slice p rs.length cap := by
    rcases hv with ⟨rfl, rfl⟩ | ⟨g, o, cap, rfl, _⟩
    · exact ⟨_, _, rfl⟩
    · exact ⟨_, _, rfl⟩
  replace P : Hid LineP := P
  replace hv : Hid (LrsAt w (.slice p rs.length cap) rs) := hv
  replace hwl : Hid (∀ r ∈ rs, (r.2.length : Int) ≤ 4500) := hwl
  replace hz : Hid (∀ r ∈ rs, ∀ z ∈ r.2, (z.length : Int) ≤ 5000) := hz
  obtain ⟨len, hlen⟩ : ∃ len, rs.length = len := ⟨_, rfl⟩
  rw [hlen] at hn hv ⊢
  replace hlen : Hid (rs.length = len) := hlen
  have S0 : Hid (RrSt w ((w.alloc (.cells dz 36)).alloc (.cells dz 36)) dv0 nilS nilS nilS []) := RrSt.first w
  go_enter Tryd.func11, Tryd.ntmps11
  go_upto_region 2 with fail
  change Code.wp Tryd.prog _ _ _ ((w.alloc (.cells dz 36)).alloc (.cells dz 36))
  generalize (w.alloc (.cells dz 36)).alloc (.cells dz 36) = w1 at *
  go_wp2
  go_loopw [6, 7, 8] (fun vs vk vi wr => ∃ (k : Nat) (d : Dv) (fv qv : Value) (seen : List Wd), (k : Int) ≤ (len : Int) ∧ vi = .int .i64 (k : Int) ∧ vk = .int .i64 ((notF seen).length : Int) ∧ Hid (RrSt w wr d fv qv vs seen) ∧ Hid (LeftR d seen (rs.drop k) T)) (fun vs vk vi wr => ((len : Int) - intOf vi).toNat)
  case atStart => exact ⟨0, dv0, nilS, nilS, [], by omega, rfl, rfl, S0, L0⟩
  case round =>
    obtain ⟨k, d, fv, qv, seen, hk, rfl, rfl, st, left⟩ := hrel
    clear S0 L0
    have hsl : (seen.length : Int) ≤ 18 := by have := sn_len st.out.sn; omega
    have hnl : ((notF seen).length : Int) ≤ (seen.length : Int) := by
      have : (notF seen).length ≤ seen.length := List.length_filter_le _ _
      omega
    obtain ⟨pf, nf, cf, rfl⟩ : ∃ p n c, fv = .slice p n c := by
      rcases st.out.fl with ⟨e, _⟩ | ⟨g, o, cap, e, _⟩
      · exact ⟨_, _, _, e⟩
      · exact ⟨_, _, _, e⟩
    obtain ⟨pq, mq, cq, rfl⟩ := st.out.rq.form
    by_cases hlt : k < len
    · have hki : (k : Int) < (len : Int) := by omega
      have hkr : k < rs.length := by have := hlen.out; omega
      rcases hv.out with ⟨_, hnil⟩ | ⟨gr, lk, cap1, e1, hrow, hgr⟩
      · rw [hnil] at hkr; cases hkr
      injection e1 with e1 e2 e3
      subst e1
      subst e3
      clear e2
      obtain ⟨q0, vw, q1, q2⟩ := hrow k hkr
      rw [Nat.mul_comm 2 k] at q0 q1
      have lf := left.out
      rw [List.drop_eq_getElem_cons hkr] at lf
      obtain ⟨r, hr⟩ : ∃ r, rs[k] = r := ⟨_, rfl⟩
      have hrm : r ∈ rs := by rw [← hr]; exact List.getElem_mem hkr
      rw [hr] at q0 q2 lf
      have hwr := hwl.out r hrm
      have hzr := hz.out r hrm
      obtain ⟨ln, ws⟩ := r
      simp only at q0 q2 hwr hzr
      replace lf : Hid (LeftR d seen ((ln, ws) :: rs.drop (k + 1)) T) := lf
      have rl : Hid (LnC wr d (.slice pf nf cf) (.slice pq mq cq) vw u6 seen ws) := P.out.at st.out (q2.below st.out.b) hwr hzr
      have wk : IntKind.i64.wrap ((k : Int) + 1) = (k : Int) + 1 := by simp only [IntKind.wrap_i64]; omega
      have hkb : 0 ≤ (k : Int) := by omega
      have c0 : Hid (wr.cell? ⟨gr, lk + k * 2, none⟩ = some (.int .i64 ln)) := kp st.out.b q0
      have c1 : Hid (wr.cell? ⟨gr, lk + k * 2 + 1, none⟩ = some vw) := kp st.out.b q1
      have Dl : Hid (w.heap.size + 1 < wr.heap.size) := (Array.getElem?_eq_some_iff.1 st.out.dc).1
      have hgw : Hid (gr < w.heap.size) := hgr
      replace q1 : Hid (w.cell? ⟨gr, lk + k * 2 + 1, none⟩ = some vw) := q1
      replace q2 : Hid (StrsAny w vw ws) := q2
      have F0 : Hid (∀ g, (Value.slice pf nf cf).ownBlock = some g → g < wr.heap.size) := st.out.fl.lt
      have Q0 : Hid (∀ g, (Value.slice pq mq cq).ownBlock = some g → g < wr.heap.size) := st.out.rq.lt
      have W0 : Hid (LnW wr d (.slice pf nf cf) (.slice pq mq cq) seen ws ⟨0, dv0, nilS, nilS⟩ (Array.replicate 14 false) { wr with drawn := wr.drawn + 1 }) :=
        ⟨⟨rfl, rfl, rfl, Nat.le_refl _, fun _ _ => rfl⟩, ⟨_, _, _, rfl⟩, ⟨_, _, _, rfl⟩, fun h => (by cases h), fun h => (by cases h), fun h => (by cases h), fun h => (by cases h), fun h => (by cases h), fun h => (by cases h), fun h => (by cases h), fun h => (by cases h), fun h => (by cases h)⟩
      obtain ⟨er, her⟩ : ∃ er : Int, ((errN (stepM d seen ws) : Nat) : Int) = er := ⟨_, rfl⟩
      clear hrow hr hzr hrm left q0 hwr
      replace her : Hid (((errN (stepM d seen ws) : Nat) : Int) = er) := her
      go_upto_region 7 with fail
      refine region_props3 (LnP (w.heap.size + 1) gr k lk len cap (dvV d (.slice pf nf cf) (.slice pq mq cq)) vw u6 er) (LnW wr d (.slice pf nf cf) (.slice pq mq cq) seen ws) ⟨0, dv0, nilS, nilS⟩ (by kernel_rfl) (by kernel_rfl) ?_ ?_ W0.out
      · intro γ x a z i op ho hI haf hx hxi hW
        have hi : i < 14 := (List.getElem?_eq_some_iff.1 ho).1
        have xi := getD_false hxi
        match i, hi with
        | 0, _ =>
          obtain rfl := Option.some.inj (show some _ = some op from ho)
          have e1 : a.tmps.getD 5 undef = .pointer (some ⟨w.heap.size + 1, 0, none⟩) := (hI.was (by kernel_rfl)).trans rfl
          have hD : z.heap[w.heap.size + 1]? = some (.cells (dvA d (.slice pf nf cf) (.slice pq mq cq)) 36 (0, 0)) := (hW.low.block _ Dl.out).trans st.out.dc
          obtain ⟨l0, m0⟩ := rd_cell hD 0
          obtain ⟨l1, m1⟩ := rd_cell hD 1
          obtain ⟨l2, m2⟩ := rd_cell hD 2
          obtain ⟨l3, m3⟩ := rd_cell hD 3
          obtain ⟨l4, m4⟩ := rd_cell hD 4
          obtain ⟨l5, m5⟩ := rd_cell hD 5
          obtain ⟨l6, m6⟩ := rd_cell hD 6
          obtain ⟨l7, m7⟩ := rd_cell hD 7
          obtain ⟨l8, m8⟩ := rd_cell hD 8
          obtain ⟨l9, m9⟩ := rd_cell hD 9
          obtain ⟨l10, m10⟩ := rd_cell hD 10
          obtain ⟨l11, m11⟩ := rd_cell hD 11
          simp only [List.getElem?_toArray, List.getElem?_cons_zero, List.getElem?_cons_succ] at l0 l1 l2 l3 l4 l5 l6 l7 l8 l9 l10 l11
          go_simp
          exact ⟨_, rfl, γ, rfl, fun j v _ h => h, hW.other (by decide) (by decide) (by decide) (.inr (by decide))⟩
        | 1, _ =>
          obtain rfl := Option.some.inj (show some _ = some op from ho)
          have e1 : a.tmps.getD 0 undef = .slice (some ⟨gr, lk, none⟩) len cap := (hI.was (by kernel_rfl)).trans rfl
          go_simp
          exact ⟨_, rfl, γ, rfl, fun j v _ h => h, hW.other (by decide) (by decide) (by decide) (.inr (by decide))⟩
        | 2, _ =>
          obtain rfl := Option.some.inj (show some _ = some op from ho)
          have e1 : a.tmps.getD 8 undef = .int .i64 (k : Int) := (hI.was (by kernel_rfl)).trans rfl
          go_simp
          exact ⟨_, rfl, γ, rfl, fun j v _ h => h, hW.other (by decide) (by decide) (by decide) (.inr (by decide))⟩
        | 3, _ =>
          obtain rfl := Option.some.inj (show some _ = some op from ho)
          have e1 : a.tmps.getD 19 undef = .slice (some ⟨gr, lk, none⟩) len cap := (hI.val 1 _ 19 rfl rfl (dep_at haf (by kernel_rfl))).trans rfl
          have e2 : a.tmps.getD 20 undef = .int .i64 (k : Int) := (hI.val 2 _ 20 rfl rfl (dep_at haf (by kernel_rfl))).trans rfl
          go_simp
          exact ⟨_, rfl, γ, rfl, fun j v _ h => h, hW.other (by decide) (by decide) (by decide) (.inr (by decide))⟩
        | 4, _ =>
          obtain rfl := Option.some.inj (show some _ = some op from ho)
          have e1 : a.tmps.getD 21 undef = .pointer (some ⟨gr, lk + k * 2, none⟩) := (hI.val 3 _ 21 rfl rfl (dep_at haf (by kernel_rfl))).trans rfl
          go_simp
          exact ⟨_, rfl, γ, rfl, fun j v _ h => h, hW.other (by decide) (by decide) (by decide) (.inr (by decide))⟩
        | 5, _ =>
          obtain rfl := Option.some.inj (show some _ = some op from ho)
          have e1 : a.tmps.getD 22 undef = .pointer (some ⟨gr, lk + k * 2 + 1, none⟩) := (hI.val 4 _ 22 rfl rfl (dep_at haf (by kernel_rfl))).trans rfl
          have l1 := kp hW.low c1.out
          go_simp
          exact ⟨_, rfl, γ, rfl, fun j v _ h => h, hW.other (by decide) (by decide) (by decide) (.inr (by decide))⟩
        | 6, _ =>
          obtain rfl := Option.some.inj (show some _ = some op from ho)
          have e1 : a.tmps.getD 6 undef = u6 := (hI.was (by kernel_rfl)).trans rfl
          go_simp
          exact ⟨_, rfl, γ, rfl, fun j v _ h => h, hW.other (by decide) (by decide) (by decide) (.inr (by decide))⟩
        | 7, _ =>
          obtain rfl := Option.some.inj (show some _ = some op from ho)
          have e1 : a.tmps.getD 18 undef = dvV d (.slice pf nf cf) (.slice pq mq cq) := (hI.val 0 _ 18 rfl rfl (dep_at haf (by kernel_rfl))).trans rfl
          have e2 : a.tmps.getD 23 undef = vw := (hI.val 5 _ 23 rfl rfl (dep_at haf (by kernel_rfl))).trans rfl
          have e3 : a.tmps.getD 24 undef = u6 := (hI.val 6 _ 24 rfl rfl (dep_at haf (by kernel_rfl))).trans rfl
          go_simp
          refine (rl.out z hW.low).mono ?_
          rintro e z' ⟨d2, p1, n1, c1, p2, n2, c2, rfl, hb, hg⟩
          rw [her.out]
          refine ⟨_, rfl, ⟨γ.b, d2, .slice p1 n1 c1, .slice p2 n2 c2⟩, rfl, fun j v hj h => Eq.trans h (lineV_call (γ := γ) (γ' := ⟨γ.b, d2, .slice p1 n1 c1, .slice p2 n2 c2⟩) rfl ⟨?_, ?_, ?_, ?_, ?_⟩), hW.call xi hx hb F0.out Q0.out hg⟩
          · rintro rfl; have hj := getD_q hj; rw [xi] at hj; cases hj
          · rintro rfl; have := hW.o8 (getD_q hj); rw [xi] at this; cases this
          · rintro rfl; have := hW.o9 (getD_q hj); rw [xi] at this; cases this
          · rintro rfl; have := hW.o10 (getD_q hj); rw [xi] at this; cases this
          · rintro rfl; have := hW.o13 (getD_q hj); rw [xi] at this; cases this
        | 8, _ =>
          obtain rfl := Option.some.inj (show some _ = some op from ho)
          have e1 : a.tmps.getD 25 undef = .tuple #[dvV γ.d γ.v1 γ.v2, .int .i64 er] := (hI.val 7 _ 25 rfl rfl (dep_at haf (by kernel_rfl))).trans rfl
          go_simp
          exact ⟨_, rfl, γ, rfl, fun j v _ h => h, hW.other (by decide) (by decide) (by decide) (.inl (dep_at (j := 7) haf (by kernel_rfl)))⟩
        | 9, _ =>
          obtain rfl := Option.some.inj (show some _ = some op from ho)
          have e1 : a.tmps.getD 17 undef = .tuple #[dvV γ.d γ.v1 γ.v2, .int .i64 er] := (hI.val 8 _ 17 rfl rfl (dep_at haf (by kernel_rfl))).trans rfl
          go_simp
          exact ⟨_, rfl, γ, rfl, fun j v _ h => h, hW.other (by decide) (by decide) (by decide) (.inl (hW.o8 (dep_at haf (by kernel_rfl))))⟩
        | 10, _ =>
          obtain rfl := Option.some.inj (show some _ = some op from ho)
          have e1 : a.tmps.getD 17 undef = .tuple #[dvV γ.d γ.v1 γ.v2, .int .i64 er] := (hI.val 8 _ 17 rfl rfl (dep_at haf (by kernel_rfl))).trans rfl
          go_simp
          exact ⟨_, rfl, γ, rfl, fun j v _ h => h, hW.other (by decide) (by decide) (by decide) (.inl (hW.o8 (dep_at haf (by kernel_rfl))))⟩
        | 11, _ =>
          obtain rfl := Option.some.inj (show some _ = some op from ho)
          go_simp
          refine ⟨_, rfl, ⟨z.heap.size, γ.d, γ.v1, γ.v2⟩, rfl, fun j v hj h => Eq.trans h (lineV_alloc ?_), hW.alloc xi hx⟩
          rintro rfl; have hj := getD_q hj; rw [xi] at hj; cases hj
        | 12, _ =>
          obtain rfl := Option.some.inj (show some _ = some op from ho)
          have x9 : x.getD 9 false = true := dep_at haf (by kernel_rfl)
          have x11 : x.getD 11 false = true := dep_at haf (by kernel_rfl)
          have e1 : a.tmps.getD 9 undef = .pointer (some ⟨γ.b, 0, none⟩) := (hI.val 11 _ 9 rfl rfl (dep_at haf (by kernel_rfl))).trans rfl
          have e2 : a.tmps.getD 26 undef = dvV γ.d γ.v1 γ.v2 := (hI.val 9 _ 26 rfl rfl (dep_at haf (by kernel_rfl))).trans rfl
          have hB := (hW.bl x11).2
          rw [xi] at hB
          replace hB : z.heap[γ.b]? = some (.cells dz 36 (0, 0)) := hB
          have W' := hW.store (hW.o9 x9) x11 xi hx
          obtain ⟨p1, n1, c1, f1⟩ := hW.f1
          obtain ⟨p2, n2, c2, f2⟩ := hW.f2
          obtain ⟨bb, d2, v1, v2⟩ := γ
          simp only at f1 f2 e1 e2 hB W'
          subst f1 f2
          obtain ⟨l0, m0⟩ := rd_cell hB 0
          obtain ⟨l1, m1⟩ := rd_cell hB 1
          obtain ⟨l2, m2⟩ := rd_cell hB 2
          obtain ⟨l3, m3⟩ := rd_cell hB 3
          obtain ⟨l4, m4⟩ := rd_cell hB 4
          obtain ⟨l5, m5⟩ := rd_cell hB 5
          obtain ⟨l6, m6⟩ := rd_cell hB 6
          obtain ⟨l7, m7⟩ := rd_cell hB 7
          obtain ⟨l8, m8⟩ := rd_cell hB 8
          obtain ⟨l9, m9⟩ := rd_cell hB 9
          obtain ⟨l10, m10⟩ := rd_cell hB 10
          obtain ⟨l11, m11⟩ := rd_cell hB 11
          simp only [List.getElem?_toArray, List.getElem?_cons_zero, List.getElem?_cons_succ] at l0 l1 l2 l3 l4 l5 l6 l7 l8 l9 l10 l11
          go_simp
          exact ⟨⟨bb, d2, .slice p1 n1 c1, .slice p2 n2 c2⟩, fun j v _ h => h, W'⟩
        | 13, _ =>
          obtain rfl := Option.some.inj (show some _ = some op from ho)
          have e1 : a.tmps.getD 27 undef = .int .i64 er := (hI.val 10 _ 27 rfl rfl (dep_at haf (by kernel_rfl))).trans rfl
          go_simp
          exact ⟨_, rfl, γ, rfl, fun j v _ h => h, hW.other (by decide) (by decide) (by decide) (.inl (hW.o10 (dep_at haf (by kernel_rfl))))⟩
      · intro γ x a z hx hall hI hW
        have ha := RegI.tmps (V := lineV (w.heap.size + 1) gr k lk len cap (dvV d (.slice pf nf cf) (.slice pq mq cq)) vw u6 er γ) hI (by kernel_rfl) hall
        obtain ⟨bN, bZ⟩ := hW.bl (hall 11 (by decide))
        rw [if_pos (hall 12 (by decide))] at bZ
        have gd := hW.gd (hall 7 (by decide))
        have lo := hW.low
        obtain ⟨p1, n1, cc1, f1⟩ := hW.f1
        obtain ⟨p2, n2, cc2, f2⟩ := hW.f2
        obtain ⟨bb, d2, v1, v2⟩ := γ
        simp only at f1 f2 bN bZ
        subst f1 f2
        simp only [putsL, lineV, List.setIfInBounds_toArray, List.set_cons_zero, List.set_cons_succ, Array.getD_eq_getD_getElem?, List.getElem?_toArray, List.getElem?_cons_zero, List.getElem?_cons_succ, Option.getD_some] at ha
        subst ha
        clear hI hall hx W0 F0 Q0 rl
        have rcZ : Hid (z.heap[w.heap.size]? = some (.cells dz 36 (0, 0))) := (lo.block _ (Array.getElem?_eq_some_iff.1 st.out.rc).1).trans st.out.rc
        have bwz : Hid (Below w.heap.size w z) := st.out.b.trans (lo.mono st.out.b.size)
        have gR : Hid (gr ≠ w.heap.size) := Nat.ne_of_lt hgw.out
        cases hs : stepM d seen ws with
        | error n =>
          have fin : Hid (T = (dv0, ln, n)) := lf.out.bad hs
          have hn3 := step_err hs
          have en : er = (n : Int) := by rw [← her.out, hs]; rfl
          have hne : (er != 0) = true := by rw [en, bne_iff_ne]; omega
          have c0z : Hid (z.cell? ⟨gr, lk + k * 2, none⟩ = some (.int .i64 ln)) := kp lo c0.out
          clear bZ gd c0 c1 lf her hs hW bN
          go_upto_region 9 with fail
          refine region_props (fun i v _ => ErP gr lk k len cap ln er i v) (ErrX z w.heap.size gr (lk + k * 2) ln) (by kernel_rfl) (by kernel_rfl) ?_ ?_ ⟨c0z.out, fun _ => rfl, fun h => (by cases h)⟩
          · intro x a zz i op ho hI haf hx hxi hW
            have hi : i < 10 := (List.getElem?_eq_some_iff.1 ho).1
            have xi := getD_false hxi
            match i, hi with
            | 0, _ =>
              obtain rfl := Option.some.inj (show some _ = some op from ho)
              go_simp
              exact ⟨_, rfl, rfl, fun j v _ h => h, hW.other (by decide)⟩
            | 1, _ =>
              obtain rfl := Option.some.inj (show some _ = some op from ho)
              have e1 : a.tmps.getD 0 undef = .slice (some ⟨gr, lk, none⟩) len cap := (hI.was (by kernel_rfl)).trans rfl
              go_simp
              exact ⟨_, rfl, rfl, fun j v _ h => h, hW.other (by decide)⟩
            | 2, _ =>
              obtain rfl := Option.some.inj (show some _ = some op from ho)
              have e1 : a.tmps.getD 8 undef = .int .i64 (k : Int) := (hI.was (by kernel_rfl)).trans rfl
              go_simp
              exact ⟨_, rfl, rfl, fun j v _ h => h, hW.other (by decide)⟩
            | 3, _ =>
              obtain rfl := Option.some.inj (show some _ = some op from ho)
              have e1 : a.tmps.getD 31 undef = .slice (some ⟨gr, lk, none⟩) len cap := Eq.trans (hI.val 1 _ 31 rfl rfl (dep_at haf (by kernel_rfl))) rfl
              have e2 : a.tmps.getD 32 undef = .int .i64 (k : Int) := Eq.trans (hI.val 2 _ 32 rfl rfl (dep_at haf (by kernel_rfl))) rfl
              go_simp
              exact ⟨_, rfl, rfl, fun j v _ h => h, hW.other (by decide)⟩
            | 4, _ =>
              obtain rfl := Option.some.inj (show some _ = some op from ho)
              have e1 : a.tmps.getD 33 undef = .pointer (some ⟨gr, lk + k * 2, none⟩) := Eq.trans (hI.val 3 _ 33 rfl rfl (dep_at haf (by kernel_rfl))) rfl
              go_simp
              exact ⟨_, rfl, rfl, fun j v _ h => h, hW.other (by decide)⟩
            | 5, _ =>
              obtain rfl := Option.some.inj (show some _ = some op from ho)
              have e1 : a.tmps.getD 34 undef = .pointer (some ⟨gr, lk + k * 2, none⟩) := Eq.trans (hI.val 4 _ 34 rfl rfl (dep_at haf (by kernel_rfl))) rfl
              have l1 := hW.lr
              go_simp
              exact ⟨_, rfl, rfl, fun j v _ h => h, hW.other (by decide)⟩
            | 6, _ =>
              obtain rfl := Option.some.inj (show some _ = some op from ho)
              have e1 : a.tmps.getD 10 undef = .int .i64 er := (hI.was (by kernel_rfl)).trans rfl
              go_simp
              exact ⟨_, rfl, rfl, fun j v _ h => h, hW.other (by decide)⟩
            | 7, _ =>
              obtain rfl := Option.some.inj (show some _ = some op from ho)
              have e1 : a.tmps.getD 30 undef = .agg dz := Eq.trans (hI.val 0 _ 30 rfl rfl (dep_at haf (by kernel_rfl))) rfl
              have e2 : a.tmps.getD 2 undef = .pointer (some ⟨w.heap.size, 0, none⟩) := (hI.was (by kernel_rfl)).trans rfl
              have W' := hW.stored gR.out xi (by rw [hx]; decide)
              obtain rfl := hW.f0 xi
              obtain ⟨l0, m0⟩ := rd_cell rcZ.out 0
              obtain ⟨l1, m1⟩ := rd_cell rcZ.out 1
              obtain ⟨l2, m2⟩ := rd_cell rcZ.out 2
              obtain ⟨l3, m3⟩ := rd_cell rcZ.out 3
              obtain ⟨l4, m4⟩ := rd_cell rcZ.out 4
              obtain ⟨l5, m5⟩ := rd_cell rcZ.out 5
              obtain ⟨l6, m6⟩ := rd_cell rcZ.out 6
              obtain ⟨l7, m7⟩ := rd_cell rcZ.out 7
              obtain ⟨l8, m8⟩ := rd_cell rcZ.out 8
              obtain ⟨l9, m9⟩ := rd_cell rcZ.out 9
              obtain ⟨l10, m10⟩ := rd_cell rcZ.out 10
              obtain ⟨l11, m11⟩ := rd_cell rcZ.out 11
              simp only [List.getElem?_toArray, List.getElem?_cons_zero, List.getElem?_cons_succ] at l0 l1 l2 l3 l4 l5 l6 l7 l8 l9 l10 l11
              go_simp
              exact ⟨fun j v _ h => h, W'⟩
            | 8, _ =>
              obtain rfl := Option.some.inj (show some _ = some op from ho)
              have e1 : a.tmps.getD 35 undef = .int .i64 ln := Eq.trans (hI.val 5 _ 35 rfl rfl (dep_at haf (by kernel_rfl))) rfl
              go_simp
              exact ⟨_, rfl, rfl, fun j v _ h => h, hW.other (by decide)⟩
            | 9, _ =>
              obtain rfl := Option.some.inj (show some _ = some op from ho)
              have e1 : a.tmps.getD 36 undef = .int .i64 er := Eq.trans (hI.val 6 _ 36 rfl rfl (dep_at haf (by kernel_rfl))) rfl
              go_simp
              exact ⟨_, rfl, rfl, fun j v _ h => h, hW.other (by decide)⟩
          · intro x a zz hx hall hI hW
            obtain rfl := hW.f1 (hall 7 (by decide))
            have ha := RegI.tmps (V := errV gr lk k len cap ln er) hI (by kernel_rfl) hall
            simp only [putsL, errV, List.setIfInBounds_toArray, List.set_cons_zero, List.set_cons_succ, Array.getD_eq_getD_getElem?, List.getElem?_toArray, List.getElem?_cons_zero, List.getElem?_cons_succ, Option.getD_some] at ha
            subst ha
            have pa : (putZ z w.heap.size).drew.heap[w.heap.size]? = some (.cells dz 36 (0, 0)) := by rw [drew_heap]; exact put12_at (y := z) rcZ.out (.string ⟨#[]⟩) (.int .i64 0) (.int .i64 0) (.int .i64 0) (.int .i64 0) (.string ⟨#[]⟩) (.slice none 0 0) (.slice none 0 0) (.int .i64 0) (.int .i64 0) (.int .i64 0) (.int .i64 0)
            have pb : Below w.heap.size w (putZ z w.heap.size).drew := (put12_below bwz.out (Nat.le_refl w.heap.size) (.string ⟨#[]⟩) (.int .i64 0) (.int .i64 0) (.int .i64 0) (.int .i64 0) (.string ⟨#[]⟩) (.slice none 0 0) (.slice none 0 0) (.int .i64 0) (.int .i64 0) (.int .i64 0) (.int .i64 0)).drew
            clear hI hW hall hx
            generalize (putZ z w.heap.size).drew = yy at *
            go_wp2
            refine bodyPost_ret (res_dev3r Tryd.results11 rfl rfl rfl pa) rfl ?_
            exact ⟨nilS, nilS, by rw [fin.out, en]; rfl, .inl ⟨rfl, by rw [fin.out]; rfl⟩, .inl ⟨rfl, by rw [fin.out]; rfl⟩, pb, fun g h => (by cases h), fun g h => (by cases h)⟩
        | ok d' =>
          have lf2 : Hid (LeftR d' (seen ++ [ws.headD []]) (rs.drop (k + 1)) T) := lf.out.good hs
          have en : er = 0 := by rw [← her.out, hs]; rfl
          subst en
          obtain ⟨f, a, u, rfl, hso⟩ := step_ok hs
          clear hso u
          rw [head_cons] at lf2
          rcases q2.out with ⟨_, _, _, h⟩ | ⟨gw, ow, cw, rfl, hwi, hgw2⟩
          · cases h
          have hw0 : Hid (w.cell? ⟨gw, ow, none⟩ = some (.string (txt f))) := hwi 0 (by simp)
          have hwl2 : 0 < (((f :: a).length : Nat) : Int) := by simp only [List.length_cons]; omega
          obtain ⟨wl, hwlE⟩ : ∃ wl, (f :: a).length = wl := ⟨_, rfl⟩
          rw [hwlE] at hwl2 c1 q1 ⊢
          have hd : d2 = d' := (gd d' hs).1
          subst hd
          have nx : Hid (NxC w (LineZ w z d2 (.slice p1 n1 cc1) (.slice p2 n2 cc2)) d2 u6 (.slice p1 n1 cc1) (.slice p2 n2 cc2) seen f) := fun y v' o h1 h2 h3 => st.out.next (γ := ⟨bb, d2, .slice p1 n1 cc1, .slice p2 n2 cc2⟩) (f := f) lo hs gd rfl h1 h2 h3
          have dcz : z.heap[w.heap.size + 1]? = some (.cells (dvA d (.slice pf nf cf) (.slice pq mq cq)) 36 (0, 0)) := (lo.block _ Dl.out).trans st.out.dc
          have lowD : Hid (Below w.heap.size w (LineZ w z d2 (.slice p1 n1 cc1) (.slice p2 n2 cc2))) := put12_below bwz.out (by omega) _ _ _ _ _ _ _ _ _ _ _ _
          have lw := World.ownsRow.lt st.out.so
          have soD : Hid ((LineZ w z d2 (.slice p1 n1 cc1) (.slice p2 n2 cc2)).ownsRow (w.heap.size + 2) 9 1 u6 seen.length (strV seen)) :=
            own_on st.out.so fun g hg => (LineZ.off (by have := (lw g hg).1; omega)).trans (lo.block g (lw g hg).2)
          have bsD : Hid (w.heap.size + 2 ≤ (LineZ w z d2 (.slice p1 n1 cc1) (.slice p2 n2 cc2)).heap.size) := by
            have h1 := @LineZ.size w z d2 (.slice p1 n1 cc1) (.slice p2 n2 cc2)
            have h2 := (Array.getElem?_eq_some_iff.1 dcz).1
            unfold Hid; omega
          have c1D : (LineZ w z d2 (.slice p1 n1 cc1) (.slice p2 n2 cc2)).cell? ⟨gr, lk + k * 2 + 1, none⟩ = some (.slice (some ⟨gw, ow, none⟩) wl cw) := kp lowD.out q1.out
          have w0D : (LineZ w z d2 (.slice p1 n1 cc1) (.slice p2 n2 cc2)).cell? ⟨gw, ow, none⟩ = some (.string (txt f)) := kp lowD.out hw0.out
          have c1z := kp lo c1.out
          have hw63 : seen.length + 1 ≤ maxLen := by unfold maxLen; omega
          have hwby : (seen.length + 1) * 16 ≤ 140737488355328 := by omega
          have wk2 : IntKind.i64.wrap (((notF seen).length : Int) + 1) = ((notF seen).length : Int) + 1 := by simp only [IntKind.wrap_i64]; omega
          have cmp : (txt f == ⟨#[102, 105, 101, 108, 100]⟩) = decide (f = kFie) := txt_beq f kFie
          have c2 : ((txt f).toList == [102, 105, 101, 108, 100]) = decide (f = kFie) := by
            rw [Bool.eq_iff_iff, decide_eq_true_iff, beq_iff_eq, ByteArray.toList_eq]
            exact ⟨fun h => h, fun h => by rw [h]; rfl⟩
          have nk : Hid (((notF (seen ++ [f])).length : Int) = ((notF seen).length : Int) + (if f = kFie then 0 else 1)) := notF_snoc seen f
          obtain ⟨b0, bf0⟩ := rd_cell bZ 0
          obtain ⟨b1, bf1⟩ := rd_cell bZ 1
          obtain ⟨b2, bf2⟩ := rd_cell bZ 2
          obtain ⟨b3, bf3⟩ := rd_cell bZ 3
          obtain ⟨b4, bf4⟩ := rd_cell bZ 4
          obtain ⟨b5, bf5⟩ := rd_cell bZ 5
          obtain ⟨b6, bf6⟩ := rd_cell bZ 6
          obtain ⟨b7, bf7⟩ := rd_cell bZ 7
          obtain ⟨b8, bf8⟩ := rd_cell bZ 8
          obtain ⟨b9, bf9⟩ := rd_cell bZ 9
          obtain ⟨b10, bf10⟩ := rd_cell bZ 10
          obtain ⟨b11, bf11⟩ := rd_cell bZ 11
          simp only [List.getElem?_toArray, List.getElem?_cons_zero, List.getElem?_cons_succ] at b0 b1 b2 b3 b4 b5 b6 b7 b8 b9 b10 b11
          obtain ⟨l0, m0⟩ := rd_cell dcz 0
          obtain ⟨l1, m1⟩ := rd_cell dcz 1
          obtain ⟨l2, m2⟩ := rd_cell dcz 2
          obtain ⟨l3, m3⟩ := rd_cell dcz 3
          obtain ⟨l4, m4⟩ := rd_cell dcz 4
          obtain ⟨l5, m5⟩ := rd_cell dcz 5
          obtain ⟨l6, m6⟩ := rd_cell dcz 6
          obtain ⟨l7, m7⟩ := rd_cell dcz 7
          obtain ⟨l8, m8⟩ := rd_cell dcz 8
          obtain ⟨l9, m9⟩ := rd_cell dcz 9
          obtain ⟨l10, m10⟩ := rd_cell dcz 10
          obtain ⟨l11, m11⟩ := rd_cell dcz 11
          simp only [List.getElem?_toArray, List.getElem?_cons_zero, List.getElem?_cons_succ] at l0 l1 l2 l3 l4 l5 l6 l7 l8 l9 l10 l11
          clear hs hW gd lw her hwi hwlE lf q2 rcZ gR c0 c1 bN bwz st
          go_upto_region 11 with fail
          change Code.wp Tryd.prog _ _ _ (LineZ w z d2 (.slice p1 n1 cc1) (.slice p2 n2 cc2))
          clear b0 b1 b2 b3 b4 b5 b6 b7 b8 b9 b10 b11 bf0 bf1 bf2 bf3 bf4 bf5 bf6 bf7 bf8 bf9 bf10 bf11 l0 l1 l2 l3 l4 l5 l6 l7 l8 l9 l10 l11 m0 m1 m2 m3 m4 m5 m6 m7 m8 m9 m10 m11 dcz bZ lo lowD c1z
          generalize (LineZ w z d2 (.slice p1 n1 cc1) (.slice p2 n2 cc2)) = yD at *
          cases hd : decide (f = kFie)
          · rw [hd] at cmp c2
            rw [if_neg (of_decide_eq_false hd)] at nk
            clear hd
            go_wp2_with (at_builtin; refine wpList_append_own_at _ rfl _ _ 44 rfl (w.heap.size + 2) 9 i0 (.string ⟨#[]⟩) 1 16 Tryd.underlying44 hi0 hz0 hz1 hz2 rfl (by decide) _ _ _ rfl (World.ownsRow.alloc soD.out _) ⟨yD.heap.size, 0, none⟩ 1 1 [.string (txt f)] rfl rfl (cell_one_new _ _ _) (by simp [Value.oneCell']) hw63 hwby (by have := bsD.out; simp; omega) ?_; intro v1 y1 hA gA _ vA; have st2 : Hid (RrSt w y1 d2 (.slice p1 n1 cc1) (.slice p2 n2 cc2) v1 (seen ++ [f])) := nx.out y1 v1 _ hA gA vA; have c1b := kp st2.out.b q1.out; have w0b := kp st2.out.b hw0.out; clear hA gA vA)
            exact ⟨⟨k + 1, d2, _, _, seen ++ [f], by omega, by simp, by rw [nk.out], st2, lf2⟩, by simp [intOf]; omega⟩
          · rw [hd] at cmp c2
            rw [if_pos (of_decide_eq_true hd)] at nk
            clear hd
            go_wp2_with (at_builtin; refine wpList_append_own_at _ rfl _ _ 44 rfl (w.heap.size + 2) 9 i0 (.string ⟨#[]⟩) 1 16 Tryd.underlying44 hi0 hz0 hz1 hz2 rfl (by decide) _ _ _ rfl (World.ownsRow.alloc soD.out _) ⟨yD.heap.size, 0, none⟩ 1 1 [.string (txt f)] rfl rfl (cell_one_new _ _ _) (by simp [Value.oneCell']) hw63 hwby (by have := bsD.out; simp; omega) ?_; intro v1 y1 hA gA _ vA; have st2 : Hid (RrSt w y1 d2 (.slice p1 n1 cc1) (.slice p2 n2 cc2) v1 (seen ++ [f])) := nx.out y1 v1 _ hA gA vA; have c1b := kp st2.out.b q1.out; have w0b := kp st2.out.b hw0.out; clear hA gA vA)
            exact ⟨⟨k + 1, d2, _, _, seen ++ [f], by omega, by simp, by rw [nk.out, Int.add_zero], st2, lf2⟩, by simp [intOf]; omega⟩
    · obtain rfl : k = len := by omega
      have lf := left.out
      rw [List.drop_of_length_le (by have := hlen.out; omega)] at lf
      have fin : Hid (T = if lackB seen = true then (dv0, 0, 9) else (d, 0, 0)) := lf.fin
      have hlk := st.out.sn.lack
      have rcY := st.out.rc
      have dcY := st.out.dc
      have bY : Hid (Below w.heap.size w wr) := st.out.b
      have fl : Hid (FldsAt wr (.slice pf nf cf) d.fs) := st.out.fl
      have rq : Hid (BytesAt wr (.slice pq mq cq) d.rq) := st.out.rq
      have fn : Hid (∀ g, (Value.slice pf nf cf).ownBlock = some g → w.heap.size < g) := fun g h => by have := (st.out.fn g h).1; omega
      have qn : Hid (∀ g, (Value.slice pq mq cq).ownBlock = some g → w.heap.size < g) := fun g h => by have := (st.out.qn g h).1; omega
      obtain ⟨c0, f0⟩ := rd_cell rcY 0
      obtain ⟨c1, f1⟩ := rd_cell rcY 1
      obtain ⟨c2, f2⟩ := rd_cell rcY 2
      obtain ⟨c3, f3⟩ := rd_cell rcY 3
      obtain ⟨c4, f4⟩ := rd_cell rcY 4
      obtain ⟨c5, f5⟩ := rd_cell rcY 5
      obtain ⟨c6, f6⟩ := rd_cell rcY 6
      obtain ⟨c7, f7⟩ := rd_cell rcY 7
      obtain ⟨c8, f8⟩ := rd_cell rcY 8
      obtain ⟨c9, f9⟩ := rd_cell rcY 9
      obtain ⟨c10, f10⟩ := rd_cell rcY 10
      obtain ⟨c11, f11⟩ := rd_cell rcY 11
      simp only [List.getElem?_toArray, List.getElem?_cons_zero, List.getElem?_cons_succ] at c0 c1 c2 c3 c4 c5 c6 c7 c8 c9 c10 c11
      obtain ⟨l0, m0⟩ := rd_cell dcY 0
      obtain ⟨l1, m1⟩ := rd_cell dcY 1
      obtain ⟨l2, m2⟩ := rd_cell dcY 2
      obtain ⟨l3, m3⟩ := rd_cell dcY 3
      obtain ⟨l4, m4⟩ := rd_cell dcY 4
      obtain ⟨l5, m5⟩ := rd_cell dcY 5
      obtain ⟨l6, m6⟩ := rd_cell dcY 6
      obtain ⟨l7, m7⟩ := rd_cell dcY 7
      obtain ⟨l8, m8⟩ := rd_cell dcY 8
      obtain ⟨l9, m9⟩ := rd_cell dcY 9
      obtain ⟨l10, m10⟩ := rd_cell dcY 10
      obtain ⟨l11, m11⟩ := rd_cell dcY 11
      simp only [List.getElem?_toArray, List.getElem?_cons_zero, List.getElem?_cons_succ] at l0 l1 l2 l3 l4 l5 l6 l7 l8 l9 l10 l11
      clear left lf st
      by_cases h10 : (notF seen).length < 10
      · have n10 : decide (((notF seen).length : Int) < 10) = true := decide_eq_true (by omega)
        have hl : lackB seen = true := by rw [hlk]; exact decide_eq_true h10
        rw [hl, if_pos rfl] at fin
        replace rcY : Hid (wr.heap[w.heap.size]? = some (.cells dz 36 (0, 0))) := rcY
        clear dcY hl hlk h10
        go_wp2
        change bodyPost _ _ _ _ _ (put12 wr w.heap.size (.string ⟨#[]⟩) (.int .i64 0) (.int .i64 0) (.int .i64 0) (.int .i64 0) (.string ⟨#[]⟩) (.slice none 0 0) (.slice none 0 0) (.int .i64 0) (.int .i64 0) (.int .i64 0) (.int .i64 0))
        have pa := put12_at (y := wr) rcY.out (.string ⟨#[]⟩) (.int .i64 0) (.int .i64 0) (.int .i64 0) (.int .i64 0) (.string ⟨#[]⟩) (.slice none 0 0) (.slice none 0 0) (.int .i64 0) (.int .i64 0) (.int .i64 0) (.int .i64 0)
        have pb := put12_below bY.out (Nat.le_refl w.heap.size) (.string ⟨#[]⟩) (.int .i64 0) (.int .i64 0) (.int .i64 0) (.int .i64 0) (.string ⟨#[]⟩) (.slice none 0 0) (.slice none 0 0) (.int .i64 0) (.int .i64 0) (.int .i64 0) (.int .i64 0)
        generalize put12 wr w.heap.size (.string ⟨#[]⟩) (.int .i64 0) (.int .i64 0) (.int .i64 0) (.int .i64 0) (.string ⟨#[]⟩) (.slice none 0 0) (.slice none 0 0) (.int .i64 0) (.int .i64 0) (.int .i64 0) (.int .i64 0) = yy at *
        refine bodyPost_ret (res_dev3r Tryd.results11 rfl rfl rfl pa) rfl ?_
        exact ⟨nilS, nilS, by rw [fin.out]; rfl, .inl ⟨rfl, by rw [fin.out]; rfl⟩, .inl ⟨rfl, by rw [fin.out]; rfl⟩, pb, fun g h => (by cases h), fun g h => (by cases h)⟩
      · have n10 : decide (((notF seen).length : Int) < 10) = false := decide_eq_false (by omega)
        have hl : lackB seen = false := by rw [hlk]; exact decide_eq_false h10
        rw [hl, if_neg (by decide)] at fin
        replace rcY : Hid (wr.heap[w.heap.size]? = some (.cells dz 36 (0, 0))) := rcY
        clear dcY hl hlk h10
        go_wp2
        change bodyPost _ _ _ _ _ (put12 wr w.heap.size (.string (txt d.nm)) (.int .i64 d.st) (.int .i64 d.es) (.int .i64 d.mx) (.int .i64 d.sz) (.string (txt d.sm)) (.slice pf nf cf) (.slice pq mq cq) (.int .i64 d.po) (.int .i64 d.ti) (.int .i64 d.re) (.int .i64 d.ag))
        have pa := put12_at (y := wr) rcY.out (.string (txt d.nm)) (.int .i64 d.st) (.int .i64 d.es) (.int .i64 d.mx) (.int .i64 d.sz) (.string (txt d.sm)) (.slice pf nf cf) (.slice pq mq cq) (.int .i64 d.po) (.int .i64 d.ti) (.int .i64 d.re) (.int .i64 d.ag)
        have pb := put12_below bY.out (Nat.le_refl w.heap.size) (.string (txt d.nm)) (.int .i64 d.st) (.int .i64 d.es) (.int .i64 d.mx) (.int .i64 d.sz) (.string (txt d.sm)) (.slice pf nf cf) (.slice pq mq cq) (.int .i64 d.po) (.int .i64 d.ti) (.int .i64 d.re) (.int .i64 d.ag)
        have off : ∀ g, w.heap.size < g → (put12 wr w.heap.size (.string (txt d.nm)) (.int .i64 d.st) (.int .i64 d.es) (.int .i64 d.mx) (.int .i64 d.sz) (.string (txt d.sm)) (.slice pf nf cf) (.slice pq mq cq) (.int .i64 d.po) (.int .i64 d.ti) (.int .i64 d.re) (.int .i64 d.ag)).heap[g]? = wr.heap[g]? := fun g hg => put12_off (by omega) _ _ _ _ _ _ _ _ _ _ _ _
        generalize put12 wr w.heap.size (.string (txt d.nm)) (.int .i64 d.st) (.int .i64 d.es) (.int .i64 d.mx) (.int .i64 d.sz) (.string (txt d.sm)) (.slice pf nf cf) (.slice pq mq cq) (.int .i64 d.po) (.int .i64 d.ti) (.int .i64 d.re) (.int .i64 d.ag) = yy at *
        refine bodyPost_ret (res_dev3r Tryd.results11 rfl rfl rfl pa) rfl ?_
        refine ⟨.slice pf nf cf, .slice pq mq cq, by rw [fin.out]; rfl, ?_, ?_, pb, fun g h => Nat.le_of_lt (fn.out g h), fun g h => Nat.le_of_lt (qn.out g h)⟩
        · rw [fin.out]; exact fl.out.on fun g hg => off g (fn.out g hg)
        · rw [fin.out]; exact rq.out.on fun g hg => off g (qn.out g hg)
end Go.Proofs.YtagkgneijdbkoaaDoor
/-
  The document's own line, of a first word that is none (layer 8). Condition: at most 5000 words.
-/
namespace Go.Proofs.YtagkgneijdbkoaaDoor
open Go.RowKit
set_option linter.unusedVariables false

set_option maxRecDepth 100000 in
set_option maxHeartbeats 8000000 in
theorem line_unknown (f : Wd) (a : List Wd) (d : Dv) (pf : Option Addr) (nf cf : Nat) (pq : Option Addr) (nq cq : Nat) (g o cap : Nat) (w : World) (hc : w.cell? ⟨g, o, none⟩ = some (.string (txt f))) (hl : (a.length : Int) ≤ 5000) (hk : knownB f = false) (vs : Value) (seen : List Wd) :
    Calls Tryd.prog 18 #[dvV d (.slice pf nf cf) (.slice pq nq cq), .slice (some ⟨g, o, none⟩) (a.length + 1) cap, vs] w (LineQ w d (.slice pf nf cf) (.slice pq nq cq) seen (f :: a)) := by
  have m0 := lineM_first w d (.slice pf nf cf) (.slice pq nq cq)
  have n0 : ((a.length : Int) + 1 == 0) = false := beq_eq_false_iff_ne.2 (by omega)
  have e6 : Hid (stepM d seen (f :: a) = .error 6) := by unfold Hid stepM; simp only [hk]; rfl
  go_enter Tryd.func18, Tryd.ntmps18
  go_upto_region 5 with fail
  change Code.wp Tryd.prog _ _ _ (LineW w d (.slice pf nf cf) (.slice pq nq cq))
  have LM0 : Hid (LineM w (LineW w d (.slice pf nf cf) (.slice pq nq cq)) d (.slice pf nf cf) (.slice pq nq cq)) := m0.1
  have lc0 : Hid (∀ (i : Nat) (h : i < 11), (LineW w d (.slice pf nf cf) (.slice pq nq cq)).cell? ⟨w.heap.size + 1 + 1, i, none⟩ = some (.string (txt (allK[i]'h)))) := fun i h => (rd_cell m0.2 i).1.trans (allC_at i h)
  have hc0 : Hid ((LineW w d (.slice pf nf cf) (.slice pq nq cq)).cell? ⟨g, o, none⟩ = some (.string (txt f))) := kp m0.1.b hc
  clear m0 hc
  generalize LineW w d (.slice pf nf cf) (.slice pq nq cq) = x0 at *
  go_wp2
  go_loopw [8, 10] (fun vk vi wr => ∃ n k : Nat, (k : Int) ≤ 11 ∧ wr = x0.drewN n ∧ vi = .int .i64 (k : Int) ∧ vk = .bool (decide (f ∈ allK.take k))) (fun vk vi wr => (11 - intOf vi).toNat)
  case atStart => exact ⟨0, 0, by omega, rfl, rfl, by simp⟩
  case round =>
    obtain ⟨n, k, hk11, rfl, rfl, rfl⟩ := hrel
    by_cases hlt : k < 11
    · have hki : (k : Int) < 11 := by omega
      have st := allK_step f k hlt
      have l1 := lc0.out k hlt
      have l2 := hc0.out
      have wk : IntKind.i64.wrap ((k : Int) + 1) = (k : Int) + 1 := by simp only [IntKind.wrap_i64]; omega
      have cmp : (txt (allK[k]'hlt) == txt f) = decide (allK[k]'hlt = f) := txt_beq _ _
      generalize allK[k]'hlt = ak at *
      clear lc0 hc0 LM0
      cases hd : decide (f ∈ allK.take k)
      · rw [hd, Bool.false_or] at st
        have c2 : ((txt ak).toList == (txt f).toList) = decide (ak = f) := by
          rw [Bool.eq_iff_iff, decide_eq_true_iff, beq_iff_eq, ByteArray.toList_eq, ByteArray.toList_eq]
          exact ⟨fun h => h, fun h => by rw [h]⟩
        generalize decide (ak = f) = R at *
        go_wp2_with fail
        go_quiet (fail)
        go_wp2
        exact ⟨⟨n + nq, k + 1, by omega, rfl, by simp, by rw [st]⟩, by simp [intOf]; omega⟩
      · rw [hd, Bool.true_or] at st
        go_wp2_with fail
        go_quiet (fail)
        go_wp2
        exact ⟨⟨n + nq, k + 1, by omega, rfl, by simp, by rw [st]⟩, by simp [intOf]; omega⟩
    · obtain rfl : k = 11 := by omega
      rw [allK_mem, hk]
      have LM : Hid (LineM w (x0.drewN n) d (.slice pf nf cf) (.slice pq nq cq)) := LM0.out.below (below_drewN (Below.refl _ _) n)
      generalize x0.drewN n = y at *
      have d0 := (LM.out.cells.1 0 _ rfl).1
      have d1 := (LM.out.cells.1 1 _ rfl).1
      have d2 := (LM.out.cells.1 2 _ rfl).1
      have d3 := (LM.out.cells.1 3 _ rfl).1
      have d4 := (LM.out.cells.1 4 _ rfl).1
      have d5 := (LM.out.cells.1 5 _ rfl).1
      have d6 := (LM.out.cells.1 6 _ rfl).1
      have d7 := (LM.out.cells.1 7 _ rfl).1
      have d8 := (LM.out.cells.1 8 _ rfl).1
      have d9 := (LM.out.cells.1 9 _ rfl).1
      have d10 := (LM.out.cells.1 10 _ rfl).1
      have d11 := (LM.out.cells.1 11 _ rfl).1
      obtain ⟨z0, y0⟩ := LM.out.cells.2 0 _ rfl
      obtain ⟨z1, y1⟩ := LM.out.cells.2 1 _ rfl
      obtain ⟨z2, y2⟩ := LM.out.cells.2 2 _ rfl
      obtain ⟨z3, y3⟩ := LM.out.cells.2 3 _ rfl
      obtain ⟨z4, y4⟩ := LM.out.cells.2 4 _ rfl
      obtain ⟨z5, y5⟩ := LM.out.cells.2 5 _ rfl
      obtain ⟨z6, y6⟩ := LM.out.cells.2 6 _ rfl
      obtain ⟨z7, y7⟩ := LM.out.cells.2 7 _ rfl
      obtain ⟨z8, y8⟩ := LM.out.cells.2 8 _ rfl
      obtain ⟨z9, y9⟩ := LM.out.cells.2 9 _ rfl
      obtain ⟨z10, y10⟩ := LM.out.cells.2 10 _ rfl
      obtain ⟨z11, y11⟩ := LM.out.cells.2 11 _ rfl
      clear LM0 lc0 hc0
      go_wp2
      change bodyPost _ _ _ _ _ (put12 y (w.heap.size + 1) (.string (txt d.nm)) (.int .i64 d.st) (.int .i64 d.es) (.int .i64 d.mx) (.int .i64 d.sz) (.string (txt d.sm)) (.slice pf nf cf) (.slice pq nq cq) (.int .i64 d.po) (.int .i64 d.ti) (.int .i64 d.re) (.int .i64 d.ag))
      have pa := put12_at (y := y) LM.out.rc (.string (txt d.nm)) (.int .i64 d.st) (.int .i64 d.es) (.int .i64 d.mx) (.int .i64 d.sz) (.string (txt d.sm)) (.slice pf nf cf) (.slice pq nq cq) (.int .i64 d.po) (.int .i64 d.ti) (.int .i64 d.re) (.int .i64 d.ag)
      have pb := put12_below LM.out.b (show w.heap.size ≤ w.heap.size + 1 by omega) (.string (txt d.nm)) (.int .i64 d.st) (.int .i64 d.es) (.int .i64 d.mx) (.int .i64 d.sz) (.string (txt d.sm)) (.slice pf nf cf) (.slice pq nq cq) (.int .i64 d.po) (.int .i64 d.ti) (.int .i64 d.re) (.int .i64 d.ag)
      generalize put12 y (w.heap.size + 1) (.string (txt d.nm)) (.int .i64 d.st) (.int .i64 d.es) (.int .i64 d.mx) (.int .i64 d.sz) (.string (txt d.sm)) (.slice pf nf cf) (.slice pq nq cq) (.int .i64 d.po) (.int .i64 d.ti) (.int .i64 d.re) (.int .i64 d.ag) = yy at *
      refine bodyPost_ret (res_dev2 Tryd.results18 rfl rfl pa) rfl ?_
      exact ⟨d, pf, nf, cf, pq, nq, cq, by rw [e6.out]; rfl, pb, fun d' hd => by rw [e6.out] at hd; cases hd⟩
end Go.Proofs.YtagkgneijdbkoaaDoor
/-
  The document's own line, of a first word (layer 8). Conditions: at most 5000 words, of at most 5000 bytes each; as it says.
-/
namespace Go.Proofs.YtagkgneijdbkoaaDoor
open Go.RowKit
set_option linter.unusedVariables false

set_option maxRecDepth 100000 in
set_option maxHeartbeats 8000000 in
theorem line_dev (a : List Wd) (d : Dv) (pf : Option Addr) (nf cf : Nat) (pq : Option Addr) (mq cq : Nat) (g o cap : Nat) (w : World) (hi : StrsIn w g o (kDev :: a)) (hgw : g < w.heap.size) (hl : (a.length : Int) ≤ 5000) (hz : ∀ z ∈ a, (z.length : Int) ≤ 5000) (ps : Option Addr) (cs : Nat) (seen : List Wd) (hs : StrsAt w (.slice ps seen.length cs) seen) (hsl : (seen.length : Int) ≤ 5000) (hfl : FldsAt w (.slice pf nf cf) d.fs) (hrq : BytesAt w (.slice pq mq cq) d.rq) :
    Calls Tryd.prog 18 #[dvV d (.slice pf nf cf) (.slice pq mq cq), .slice (some ⟨g, o, none⟩) (a.length + 1) cap, .slice ps seen.length cs] w (LineQ w d (.slice pf nf cf) (.slice pq mq cq) seen (kDev :: a)) := by
  have m0 := lineM_first w d (.slice pf nf cf) (.slice pq mq cq)
  have n0 : ((a.length : Int) + 1 == 0) = false := beq_eq_false_iff_ne.2 (by omega)
  have FQ0 : Hid (FldsAt w (.slice pf nf cf) d.fs ∧ BytesAt w (.slice pq mq cq) d.rq) := ⟨hfl, hrq⟩
  have wi : Hid (StrsIn w g o (kDev :: a)) := hi
  replace hs : Hid (StrsAt w (.slice ps seen.length cs) seen) := hs
  replace hz : Hid (∀ z ∈ a, (z.length : Int) ≤ 5000) := hz
  obtain ⟨sl, hsl2⟩ : ∃ sl, seen.length = sl := ⟨_, rfl⟩
  rw [hsl2] at hs hsl ⊢
  replace hsl2 : Hid (seen.length = sl) := hsl2
  clear hfl hrq hi
  go_enter Tryd.func18, Tryd.ntmps18
  go_upto_region 5 with fail
  change Code.wp Tryd.prog _ _ _ (LineW w d (.slice pf nf cf) (.slice pq mq cq))
  have LM0 : Hid (LineM w (LineW w d (.slice pf nf cf) (.slice pq mq cq)) d (.slice pf nf cf) (.slice pq mq cq)) := m0.1
  have lc0 : Hid (∀ (i : Nat) (h : i < 11), (LineW w d (.slice pf nf cf) (.slice pq mq cq)).cell? ⟨w.heap.size + 1 + 1, i, none⟩ = some (.string (txt (allK[i]'h)))) := fun i h => (rd_cell m0.2 i).1.trans (allC_at i h)
  have hc0 : (LineW w d (.slice pf nf cf) (.slice pq mq cq)).cell? ⟨g, o, none⟩ = some (.string ⟨#[100, 101, 118, 105, 99, 101]⟩) := kp m0.1.b (wi.out 0 (by simp))
  clear m0
  generalize LineW w d (.slice pf nf cf) (.slice pq mq cq) = x0 at *
  go_wp2
  go_loopw [8, 10] (fun vk vi wr => ∃ n k : Nat, (k : Int) ≤ 11 ∧ wr = x0.drewN n ∧ vi = .int .i64 (k : Int) ∧ vk = .bool (decide (kDev ∈ allK.take k))) (fun vk vi wr => (11 - intOf vi).toNat)
  case atStart => exact ⟨0, 0, by omega, rfl, rfl, by simp⟩
  case round =>
    obtain ⟨n, k, hk11, rfl, rfl, rfl⟩ := hrel
    by_cases hlt : k < 11
    · have hki : (k : Int) < 11 := by omega
      have st := allK_step kDev k hlt
      have l1 := lc0.out k hlt
      have wk : IntKind.i64.wrap ((k : Int) + 1) = (k : Int) + 1 := by simp only [IntKind.wrap_i64]; omega
      have cmp : (txt (allK[k]'hlt) == ⟨#[100, 101, 118, 105, 99, 101]⟩) = decide (allK[k]'hlt = kDev) := txt_beq _ kDev
      generalize allK[k]'hlt = ak at *
      clear lc0 LM0
      cases hd : decide (kDev ∈ allK.take k)
      · rw [hd, Bool.false_or] at st
        have c2 : ((txt ak).toList == [100, 101, 118, 105, 99, 101]) = decide (ak = kDev) := by
          rw [Bool.eq_iff_iff, decide_eq_true_iff, beq_iff_eq, ByteArray.toList_eq]
          exact ⟨fun h => h, fun h => by rw [h]; rfl⟩
        generalize decide (ak = kDev) = R at *
        go_wp2_with fail
        go_quiet (fail)
        go_wp2
        exact ⟨⟨n + nq, k + 1, by omega, rfl, by simp, by rw [st]⟩, by simp [intOf]; omega⟩
      · rw [hd, Bool.true_or] at st
        go_wp2_with fail
        go_quiet (fail)
        go_wp2
        exact ⟨⟨n + nq, k + 1, by omega, rfl, by simp, by rw [st]⟩, by simp [intOf]; omega⟩
    · obtain rfl : k = 11 := by omega
      rw [allK_mem, show knownB kDev = true from rfl]
      clear lc0
      go_wp2
      go_loopw [11] (fun vi wr => ∃ n k : Nat, (k : Int) ≤ (sl : Int) ∧ wr = x0.drewN n ∧ vi = .int .i64 (k : Int) ∧ Hid (∀ j (h : j < seen.length), j < k → ¬ seen[j] = kDev)) (fun vi wr => ((sl : Int) - intOf vi).toNat)
      case atStart => exact ⟨n, 0, by omega, rfl, rfl, fun j _ h => (by cases h)⟩
      case round =>
        obtain ⟨n, k, hk, rfl, rfl, no⟩ := hrel
        by_cases hlt : k < sl
        · have hki : (k : Int) < (sl : Int) := by omega
          have hks : k < seen.length := by have := hsl2.out; omega
          rcases hs.out with ⟨_, hnil⟩ | ⟨gs, os, cs', e1, hin, hgs⟩
          · rw [hnil] at hks; cases hks
          injection e1 with e1 e2 e3
          subst e1
          subst e3
          clear e2
          have l1 := kp LM0.out.b (hin k hks)
          have wk : IntKind.i64.wrap ((k : Int) + 1) = (k : Int) + 1 := by simp only [IntKind.wrap_i64]; omega
          obtain ⟨ak, hak⟩ : ∃ ak, seen[k] = ak := ⟨_, rfl⟩
          rw [hak] at l1
          have cmp : (txt ak == ⟨#[100, 101, 118, 105, 99, 101]⟩) = decide (ak = kDev) := txt_beq _ kDev
          have c2 : ((txt ak).toList == [100, 101, 118, 105, 99, 101]) = decide (ak = kDev) := by
            rw [Bool.eq_iff_iff, decide_eq_true_iff, beq_iff_eq, ByteArray.toList_eq]
            exact ⟨fun h => h, fun h => by rw [h]; rfl⟩
          cases hd : decide (ak = kDev)
          · rw [hd] at cmp c2
            have no2 : Hid (∀ j (h : j < seen.length), j < k + 1 → ¬ seen[j] = kDev) := fun j h hj => by
              by_cases hjk : j = k
              · subst hjk; rw [hak]; simpa using hd
              · exact no.out j h (by omega)
            clear hin hak no hd LM0
            go_wp2_with fail
            go_quiet (fail)
            go_wp2
            exact ⟨⟨n + nq, k + 1, by omega, rfl, by simp, no2⟩, by simp [intOf]; omega⟩
          · rw [hd] at cmp c2
            have e8 : Hid (stepM d seen (kDev :: a) = .error 8) := by
              have hm : kDev ∈ seen := by
                have : ak = kDev := by simpa using hd
                rw [← this, ← hak]; exact List.getElem_mem hks
              unfold Hid stepM
              simp only [show knownB kDev = true from rfl]
              rw [if_neg (by decide), if_pos ⟨by decide, hm⟩]
            clear hin hak no hd
            go_wp2_with fail
            go_quiet (fail)
            go_upto_region 15 with fail
            have LM : Hid (LineM w ((x0.drewN n).drewN nq) d (.slice pf nf cf) (.slice pq mq cq)) := LM0.out.below (below_drewN (below_drewN (Below.refl _ _) _) _)
            generalize (x0.drewN n).drewN nq = y at *
            obtain ⟨dc0, df0⟩ := LM.out.cells.1 0 _ rfl
            obtain ⟨dc1, df1⟩ := LM.out.cells.1 1 _ rfl
            obtain ⟨dc2, df2⟩ := LM.out.cells.1 2 _ rfl
            obtain ⟨dc3, df3⟩ := LM.out.cells.1 3 _ rfl
            obtain ⟨dc4, df4⟩ := LM.out.cells.1 4 _ rfl
            obtain ⟨dc5, df5⟩ := LM.out.cells.1 5 _ rfl
            obtain ⟨dc6, df6⟩ := LM.out.cells.1 6 _ rfl
            obtain ⟨dc7, df7⟩ := LM.out.cells.1 7 _ rfl
            obtain ⟨dc8, df8⟩ := LM.out.cells.1 8 _ rfl
            obtain ⟨dc9, df9⟩ := LM.out.cells.1 9 _ rfl
            obtain ⟨dc10, df10⟩ := LM.out.cells.1 10 _ rfl
            obtain ⟨dc11, df11⟩ := LM.out.cells.1 11 _ rfl
            obtain ⟨zc0, zf0⟩ := LM.out.cells.2 0 _ rfl
            obtain ⟨zc1, zf1⟩ := LM.out.cells.2 1 _ rfl
            obtain ⟨zc2, zf2⟩ := LM.out.cells.2 2 _ rfl
            obtain ⟨zc3, zf3⟩ := LM.out.cells.2 3 _ rfl
            obtain ⟨zc4, zf4⟩ := LM.out.cells.2 4 _ rfl
            obtain ⟨zc5, zf5⟩ := LM.out.cells.2 5 _ rfl
            obtain ⟨zc6, zf6⟩ := LM.out.cells.2 6 _ rfl
            obtain ⟨zc7, zf7⟩ := LM.out.cells.2 7 _ rfl
            obtain ⟨zc8, zf8⟩ := LM.out.cells.2 8 _ rfl
            obtain ⟨zc9, zf9⟩ := LM.out.cells.2 9 _ rfl
            obtain ⟨zc10, zf10⟩ := LM.out.cells.2 10 _ rfl
            obtain ⟨zc11, zf11⟩ := LM.out.cells.2 11 _ rfl
            clear LM0
            go_wp2
            change bodyPost _ _ _ _ _ (put12 y (w.heap.size + 1) (.string (txt d.nm)) (.int .i64 d.st) (.int .i64 d.es) (.int .i64 d.mx) (.int .i64 d.sz) (.string (txt d.sm)) (.slice pf nf cf) (.slice pq mq cq) (.int .i64 d.po) (.int .i64 d.ti) (.int .i64 d.re) (.int .i64 d.ag))
            have pa := put12_at (y := y) LM.out.rc (.string (txt d.nm)) (.int .i64 d.st) (.int .i64 d.es) (.int .i64 d.mx) (.int .i64 d.sz) (.string (txt d.sm)) (.slice pf nf cf) (.slice pq mq cq) (.int .i64 d.po) (.int .i64 d.ti) (.int .i64 d.re) (.int .i64 d.ag)
            have pb := put12_below LM.out.b (show w.heap.size ≤ w.heap.size + 1 by omega) (.string (txt d.nm)) (.int .i64 d.st) (.int .i64 d.es) (.int .i64 d.mx) (.int .i64 d.sz) (.string (txt d.sm)) (.slice pf nf cf) (.slice pq mq cq) (.int .i64 d.po) (.int .i64 d.ti) (.int .i64 d.re) (.int .i64 d.ag)
            generalize put12 y (w.heap.size + 1) (.string (txt d.nm)) (.int .i64 d.st) (.int .i64 d.es) (.int .i64 d.mx) (.int .i64 d.sz) (.string (txt d.sm)) (.slice pf nf cf) (.slice pq mq cq) (.int .i64 d.po) (.int .i64 d.ti) (.int .i64 d.re) (.int .i64 d.ag) = yy at *
            refine bodyPost_ret (res_dev2 Tryd.results18 rfl rfl pa) rfl ?_
            exact ⟨d, pf, nf, cf, pq, mq, cq, by rw [e8.out]; rfl, pb, fun d' hd => by rw [e8.out] at hd; cases hd⟩
        · obtain rfl : k = sl := by omega
          have hns : ¬ kDev ∈ seen := fun hm => by
            obtain ⟨j, hj, hj2⟩ := List.mem_iff_getElem.1 hm
            exact no.out j hj (by have := hsl2.out; omega) hj2
          have st : Hid (stepM d seen (kDev :: a) = match updM kDev a with | none => .error 6 | some u => .ok (u d)) := step_nf rfl (by decide) hns
          have LM : Hid (LineM w (x0.drewN n) d (.slice pf nf cf) (.slice pq mq cq)) := LM0.out.below (below_drewN (Below.refl _ _) _)
          have hcy : (x0.drewN n).cell? ⟨g, o, none⟩ = some (.string ⟨#[100, 101, 118, 105, 99, 101]⟩) := hc0
          generalize x0.drewN n = y at *
          obtain ⟨dc0, df0⟩ := LM.out.cells.1 0 _ rfl
          obtain ⟨dc1, df1⟩ := LM.out.cells.1 1 _ rfl
          obtain ⟨dc2, df2⟩ := LM.out.cells.1 2 _ rfl
          obtain ⟨dc3, df3⟩ := LM.out.cells.1 3 _ rfl
          obtain ⟨dc4, df4⟩ := LM.out.cells.1 4 _ rfl
          obtain ⟨dc5, df5⟩ := LM.out.cells.1 5 _ rfl
          obtain ⟨dc6, df6⟩ := LM.out.cells.1 6 _ rfl
          obtain ⟨dc7, df7⟩ := LM.out.cells.1 7 _ rfl
          obtain ⟨dc8, df8⟩ := LM.out.cells.1 8 _ rfl
          obtain ⟨dc9, df9⟩ := LM.out.cells.1 9 _ rfl
          obtain ⟨dc10, df10⟩ := LM.out.cells.1 10 _ rfl
          obtain ⟨dc11, df11⟩ := LM.out.cells.1 11 _ rfl
          obtain ⟨zc0, zf0⟩ := LM.out.cells.2 0 _ rfl
          obtain ⟨zc1, zf1⟩ := LM.out.cells.2 1 _ rfl
          obtain ⟨zc2, zf2⟩ := LM.out.cells.2 2 _ rfl
          obtain ⟨zc3, zf3⟩ := LM.out.cells.2 3 _ rfl
          obtain ⟨zc4, zf4⟩ := LM.out.cells.2 4 _ rfl
          obtain ⟨zc5, zf5⟩ := LM.out.cells.2 5 _ rfl
          obtain ⟨zc6, zf6⟩ := LM.out.cells.2 6 _ rfl
          obtain ⟨zc7, zf7⟩ := LM.out.cells.2 7 _ rfl
          obtain ⟨zc8, zf8⟩ := LM.out.cells.2 8 _ rfl
          obtain ⟨zc9, zf9⟩ := LM.out.cells.2 9 _ rfl
          obtain ⟨zc10, zf10⟩ := LM.out.cells.2 10 _ rfl
          obtain ⟨zc11, zf11⟩ := LM.out.cells.2 11 _ rfl
          clear LM0 no hns hc0
          by_cases h1 : a.length = 1
          · obtain ⟨z, rfl⟩ := len_one h1
            have hc1 : y.cell? ⟨g, o + 1, none⟩ = some (.string (txt z)) := kp LM.out.b (wi.out 1 (by simp))
            have fn : Hid (∀ w, Calls Tryd.prog 29 #[.string (txt z)] w fun e w' => e = .returned (.bool (nameB z)) ∧ w' = w) := fun w => rname_any (txt z) w
            have hm : updM kDev [z] = if nameB z = true then some (fun d => { d with nm := z }) else none := rfl
            rw [hm] at st
            cases hN : nameB z
            · rw [hN] at fn st
              replace st : Hid (stepM d seen [kDev, z] = .error 6) := st
              go_wp2_with fail
              refine (fn.out _).mono ?_
              rintro e yA ⟨rfl, rfl⟩
              clear fn
              go_wp2
              change bodyPost _ _ _ _ _ (put12 yA (w.heap.size + 1) (.string (txt d.nm)) (.int .i64 d.st) (.int .i64 d.es) (.int .i64 d.mx) (.int .i64 d.sz) (.string (txt d.sm)) (.slice pf nf cf) (.slice pq mq cq) (.int .i64 d.po) (.int .i64 d.ti) (.int .i64 d.re) (.int .i64 d.ag))
              have pa := put12_at (y := yA) LM.out.rc (.string (txt d.nm)) (.int .i64 d.st) (.int .i64 d.es) (.int .i64 d.mx) (.int .i64 d.sz) (.string (txt d.sm)) (.slice pf nf cf) (.slice pq mq cq) (.int .i64 d.po) (.int .i64 d.ti) (.int .i64 d.re) (.int .i64 d.ag)
              have pb := put12_below LM.out.b (show w.heap.size ≤ w.heap.size + 1 by omega) (.string (txt d.nm)) (.int .i64 d.st) (.int .i64 d.es) (.int .i64 d.mx) (.int .i64 d.sz) (.string (txt d.sm)) (.slice pf nf cf) (.slice pq mq cq) (.int .i64 d.po) (.int .i64 d.ti) (.int .i64 d.re) (.int .i64 d.ag)
              generalize put12 yA (w.heap.size + 1) (.string (txt d.nm)) (.int .i64 d.st) (.int .i64 d.es) (.int .i64 d.mx) (.int .i64 d.sz) (.string (txt d.sm)) (.slice pf nf cf) (.slice pq mq cq) (.int .i64 d.po) (.int .i64 d.ti) (.int .i64 d.re) (.int .i64 d.ag) = yy at *
              refine bodyPost_ret (res_dev2 Tryd.results18 rfl rfl pa) rfl ?_
              exact ⟨d, pf, nf, cf, pq, mq, cq, by rw [st.out]; rfl, pb, fun d' hd => by rw [st.out] at hd; cases hd⟩
            · rw [hN] at fn st
              replace st : Hid (stepM d seen [kDev, z] = .ok { d with nm := z }) := st
              go_wp2_with fail
              refine (fn.out _).mono ?_
              rintro e yA ⟨rfl, rfl⟩
              clear fn
              go_wp2
              have LR : (yA.setCell ⟨w.heap.size, 0, none⟩ (.string (txt z))).heap[w.heap.size + 1]? = some (.cells dz 36 (0, 0)) := (Below.heap_setCell _ _ _ _ (show w.heap.size + 1 ≠ w.heap.size by omega)).trans LM.out.rc
              have LB : Below w.heap.size w (yA.setCell ⟨w.heap.size, 0, none⟩ (.string (txt z))) := LM.out.b.setCell (p := ⟨w.heap.size, 0, none⟩) (Nat.le_refl _) _
              generalize (yA.setCell ⟨w.heap.size, 0, none⟩ (.string (txt z))) = y2 at *
              change bodyPost _ _ _ _ _ (put12 y2 (w.heap.size + 1) (.string (txt z)) (.int .i64 d.st) (.int .i64 d.es) (.int .i64 d.mx) (.int .i64 d.sz) (.string (txt d.sm)) (.slice pf nf cf) (.slice pq mq cq) (.int .i64 d.po) (.int .i64 d.ti) (.int .i64 d.re) (.int .i64 d.ag))
              have pa := put12_at (y := y2) LR (.string (txt z)) (.int .i64 d.st) (.int .i64 d.es) (.int .i64 d.mx) (.int .i64 d.sz) (.string (txt d.sm)) (.slice pf nf cf) (.slice pq mq cq) (.int .i64 d.po) (.int .i64 d.ti) (.int .i64 d.re) (.int .i64 d.ag)
              have pb := put12_below LB (show w.heap.size ≤ w.heap.size + 1 by omega) (.string (txt z)) (.int .i64 d.st) (.int .i64 d.es) (.int .i64 d.mx) (.int .i64 d.sz) (.string (txt d.sm)) (.slice pf nf cf) (.slice pq mq cq) (.int .i64 d.po) (.int .i64 d.ti) (.int .i64 d.re) (.int .i64 d.ag)
              have FQ2 := fq_put FQ0.out LB (show w.heap.size ≤ w.heap.size + 1 by omega) (.string (txt z)) (.int .i64 d.st) (.int .i64 d.es) (.int .i64 d.mx) (.int .i64 d.sz) (.string (txt d.sm)) (.slice pf nf cf) (.slice pq mq cq) (.int .i64 d.po) (.int .i64 d.ti) (.int .i64 d.re) (.int .i64 d.ag)
              generalize put12 y2 (w.heap.size + 1) (.string (txt z)) (.int .i64 d.st) (.int .i64 d.es) (.int .i64 d.mx) (.int .i64 d.sz) (.string (txt d.sm)) (.slice pf nf cf) (.slice pq mq cq) (.int .i64 d.po) (.int .i64 d.ti) (.int .i64 d.re) (.int .i64 d.ag) = yy at *
              refine bodyPost_ret (res_dev2 Tryd.results18 rfl rfl pa) rfl ?_
              refine ⟨{ d with nm := z }, pf, nf, cf, pq, mq, cq, by rw [st.out]; rfl, pb, fun d' hd => ?_⟩
              rw [st.out] at hd
              cases hd
              exact ⟨rfl, FQ2.1, FQ2.2, .inl rfl, .inl rfl⟩
          · have n2 : ((a.length : Int) + 1 != 2) = true := bne_iff_ne.2 (by omega)
            have hm : updM kDev a = none := mName_len h1 _
            rw [hm] at st
            replace st : Hid (stepM d seen (kDev :: a) = .error 6) := st
            go_wp2
            change bodyPost _ _ _ _ _ (put12 y (w.heap.size + 1) (.string (txt d.nm)) (.int .i64 d.st) (.int .i64 d.es) (.int .i64 d.mx) (.int .i64 d.sz) (.string (txt d.sm)) (.slice pf nf cf) (.slice pq mq cq) (.int .i64 d.po) (.int .i64 d.ti) (.int .i64 d.re) (.int .i64 d.ag))
            have pa := put12_at (y := y) LM.out.rc (.string (txt d.nm)) (.int .i64 d.st) (.int .i64 d.es) (.int .i64 d.mx) (.int .i64 d.sz) (.string (txt d.sm)) (.slice pf nf cf) (.slice pq mq cq) (.int .i64 d.po) (.int .i64 d.ti) (.int .i64 d.re) (.int .i64 d.ag)
            have pb := put12_below LM.out.b (show w.heap.size ≤ w.heap.size + 1 by omega) (.string (txt d.nm)) (.int .i64 d.st) (.int .i64 d.es) (.int .i64 d.mx) (.int .i64 d.sz) (.string (txt d.sm)) (.slice pf nf cf) (.slice pq mq cq) (.int .i64 d.po) (.int .i64 d.ti) (.int .i64 d.re) (.int .i64 d.ag)
            generalize put12 y (w.heap.size + 1) (.string (txt d.nm)) (.int .i64 d.st) (.int .i64 d.es) (.int .i64 d.mx) (.int .i64 d.sz) (.string (txt d.sm)) (.slice pf nf cf) (.slice pq mq cq) (.int .i64 d.po) (.int .i64 d.ti) (.int .i64 d.re) (.int .i64 d.ag) = yy at *
            refine bodyPost_ret (res_dev2 Tryd.results18 rfl rfl pa) rfl ?_
            exact ⟨d, pf, nf, cf, pq, mq, cq, by rw [st.out]; rfl, pb, fun d' hd => by rw [st.out] at hd; cases hd⟩
end Go.Proofs.YtagkgneijdbkoaaDoor
/-
  The document's own line, of a first word (layer 8). Conditions: at most 5000 words, of at most 5000 bytes each; as it says.
-/
namespace Go.Proofs.YtagkgneijdbkoaaDoor
open Go.RowKit
set_option linter.unusedVariables false

set_option maxRecDepth 100000 in
set_option maxHeartbeats 8000000 in
theorem line_sta (a : List Wd) (d : Dv) (pf : Option Addr) (nf cf : Nat) (pq : Option Addr) (mq cq : Nat) (g o cap : Nat) (w : World) (hi : StrsIn w g o (kSta :: a)) (hgw : g < w.heap.size) (hl : (a.length : Int) ≤ 5000) (hz : ∀ z ∈ a, (z.length : Int) ≤ 5000) (ps : Option Addr) (cs : Nat) (seen : List Wd) (hs : StrsAt w (.slice ps seen.length cs) seen) (hsl : (seen.length : Int) ≤ 5000) (hfl : FldsAt w (.slice pf nf cf) d.fs) (hrq : BytesAt w (.slice pq mq cq) d.rq) :
    Calls Tryd.prog 18 #[dvV d (.slice pf nf cf) (.slice pq mq cq), .slice (some ⟨g, o, none⟩) (a.length + 1) cap, .slice ps seen.length cs] w (LineQ w d (.slice pf nf cf) (.slice pq mq cq) seen (kSta :: a)) := by
  have m0 := lineM_first w d (.slice pf nf cf) (.slice pq mq cq)
  have n0 : ((a.length : Int) + 1 == 0) = false := beq_eq_false_iff_ne.2 (by omega)
  have FQ0 : Hid (FldsAt w (.slice pf nf cf) d.fs ∧ BytesAt w (.slice pq mq cq) d.rq) := ⟨hfl, hrq⟩
  have wi : Hid (StrsIn w g o (kSta :: a)) := hi
  replace hs : Hid (StrsAt w (.slice ps seen.length cs) seen) := hs
  replace hz : Hid (∀ z ∈ a, (z.length : Int) ≤ 5000) := hz
  obtain ⟨sl, hsl2⟩ : ∃ sl, seen.length = sl := ⟨_, rfl⟩
  rw [hsl2] at hs hsl ⊢
  replace hsl2 : Hid (seen.length = sl) := hsl2
  clear hfl hrq hi
  go_enter Tryd.func18, Tryd.ntmps18
  go_upto_region 5 with fail
  change Code.wp Tryd.prog _ _ _ (LineW w d (.slice pf nf cf) (.slice pq mq cq))
  have LM0 : Hid (LineM w (LineW w d (.slice pf nf cf) (.slice pq mq cq)) d (.slice pf nf cf) (.slice pq mq cq)) := m0.1
  have lc0 : Hid (∀ (i : Nat) (h : i < 11), (LineW w d (.slice pf nf cf) (.slice pq mq cq)).cell? ⟨w.heap.size + 1 + 1, i, none⟩ = some (.string (txt (allK[i]'h)))) := fun i h => (rd_cell m0.2 i).1.trans (allC_at i h)
  have hc0 : (LineW w d (.slice pf nf cf) (.slice pq mq cq)).cell? ⟨g, o, none⟩ = some (.string ⟨#[115, 116, 97, 114, 116]⟩) := kp m0.1.b (wi.out 0 (by simp))
  clear m0
  generalize LineW w d (.slice pf nf cf) (.slice pq mq cq) = x0 at *
  go_wp2
  go_loopw [8, 10] (fun vk vi wr => ∃ n k : Nat, (k : Int) ≤ 11 ∧ wr = x0.drewN n ∧ vi = .int .i64 (k : Int) ∧ vk = .bool (decide (kSta ∈ allK.take k))) (fun vk vi wr => (11 - intOf vi).toNat)
  case atStart => exact ⟨0, 0, by omega, rfl, rfl, by simp⟩
  case round =>
    obtain ⟨n, k, hk11, rfl, rfl, rfl⟩ := hrel
    by_cases hlt : k < 11
    · have hki : (k : Int) < 11 := by omega
      have st := allK_step kSta k hlt
      have l1 := lc0.out k hlt
      have wk : IntKind.i64.wrap ((k : Int) + 1) = (k : Int) + 1 := by simp only [IntKind.wrap_i64]; omega
      have cmp : (txt (allK[k]'hlt) == ⟨#[115, 116, 97, 114, 116]⟩) = decide (allK[k]'hlt = kSta) := txt_beq _ kSta
      generalize allK[k]'hlt = ak at *
      clear lc0 LM0
      cases hd : decide (kSta ∈ allK.take k)
      · rw [hd, Bool.false_or] at st
        have c2 : ((txt ak).toList == [115, 116, 97, 114, 116]) = decide (ak = kSta) := by
          rw [Bool.eq_iff_iff, decide_eq_true_iff, beq_iff_eq, ByteArray.toList_eq]
          exact ⟨fun h => h, fun h => by rw [h]; rfl⟩
        generalize decide (ak = kSta) = R at *
        go_wp2_with fail
        go_quiet (fail)
        go_wp2
        exact ⟨⟨n + nq, k + 1, by omega, rfl, by simp, by rw [st]⟩, by simp [intOf]; omega⟩
      · rw [hd, Bool.true_or] at st
        go_wp2_with fail
        go_quiet (fail)
        go_wp2
        exact ⟨⟨n + nq, k + 1, by omega, rfl, by simp, by rw [st]⟩, by simp [intOf]; omega⟩
    · obtain rfl : k = 11 := by omega
      rw [allK_mem, show knownB kSta = true from rfl]
      clear lc0
      go_wp2
      go_loopw [11] (fun vi wr => ∃ n k : Nat, (k : Int) ≤ (sl : Int) ∧ wr = x0.drewN n ∧ vi = .int .i64 (k : Int) ∧ Hid (∀ j (h : j < seen.length), j < k → ¬ seen[j] = kSta)) (fun vi wr => ((sl : Int) - intOf vi).toNat)
      case atStart => exact ⟨n, 0, by omega, rfl, rfl, fun j _ h => (by cases h)⟩
      case round =>
        obtain ⟨n, k, hk, rfl, rfl, no⟩ := hrel
        by_cases hlt : k < sl
        · have hki : (k : Int) < (sl : Int) := by omega
          have hks : k < seen.length := by have := hsl2.out; omega
          rcases hs.out with ⟨_, hnil⟩ | ⟨gs, os, cs', e1, hin, hgs⟩
          · rw [hnil] at hks; cases hks
          injection e1 with e1 e2 e3
          subst e1
          subst e3
          clear e2
          have l1 := kp LM0.out.b (hin k hks)
          have wk : IntKind.i64.wrap ((k : Int) + 1) = (k : Int) + 1 := by simp only [IntKind.wrap_i64]; omega
          obtain ⟨ak, hak⟩ : ∃ ak, seen[k] = ak := ⟨_, rfl⟩
          rw [hak] at l1
          have cmp : (txt ak == ⟨#[115, 116, 97, 114, 116]⟩) = decide (ak = kSta) := txt_beq _ kSta
          have c2 : ((txt ak).toList == [115, 116, 97, 114, 116]) = decide (ak = kSta) := by
            rw [Bool.eq_iff_iff, decide_eq_true_iff, beq_iff_eq, ByteArray.toList_eq]
            exact ⟨fun h => h, fun h => by rw [h]; rfl⟩
          cases hd : decide (ak = kSta)
          · rw [hd] at cmp c2
            have no2 : Hid (∀ j (h : j < seen.length), j < k + 1 → ¬ seen[j] = kSta) := fun j h hj => by
              by_cases hjk : j = k
              · subst hjk; rw [hak]; simpa using hd
              · exact no.out j h (by omega)
            clear hin hak no hd LM0
            go_wp2_with fail
            go_quiet (fail)
            go_wp2
            exact ⟨⟨n + nq, k + 1, by omega, rfl, by simp, no2⟩, by simp [intOf]; omega⟩
          · rw [hd] at cmp c2
            have e8 : Hid (stepM d seen (kSta :: a) = .error 8) := by
              have hm : kSta ∈ seen := by
                have : ak = kSta := by simpa using hd
                rw [← this, ← hak]; exact List.getElem_mem hks
              unfold Hid stepM
              simp only [show knownB kSta = true from rfl]
              rw [if_neg (by decide), if_pos ⟨by decide, hm⟩]
            clear hin hak no hd
            go_wp2_with fail
            go_quiet (fail)
            go_upto_region 15 with fail
            have LM : Hid (LineM w ((x0.drewN n).drewN nq) d (.slice pf nf cf) (.slice pq mq cq)) := LM0.out.below (below_drewN (below_drewN (Below.refl _ _) _) _)
            generalize (x0.drewN n).drewN nq = y at *
            obtain ⟨dc0, df0⟩ := LM.out.cells.1 0 _ rfl
            obtain ⟨dc1, df1⟩ := LM.out.cells.1 1 _ rfl
            obtain ⟨dc2, df2⟩ := LM.out.cells.1 2 _ rfl
            obtain ⟨dc3, df3⟩ := LM.out.cells.1 3 _ rfl
            obtain ⟨dc4, df4⟩ := LM.out.cells.1 4 _ rfl
            obtain ⟨dc5, df5⟩ := LM.out.cells.1 5 _ rfl
            obtain ⟨dc6, df6⟩ := LM.out.cells.1 6 _ rfl
            obtain ⟨dc7, df7⟩ := LM.out.cells.1 7 _ rfl
            obtain ⟨dc8, df8⟩ := LM.out.cells.1 8 _ rfl
            obtain ⟨dc9, df9⟩ := LM.out.cells.1 9 _ rfl
            obtain ⟨dc10, df10⟩ := LM.out.cells.1 10 _ rfl
            obtain ⟨dc11, df11⟩ := LM.out.cells.1 11 _ rfl
            obtain ⟨zc0, zf0⟩ := LM.out.cells.2 0 _ rfl
            obtain ⟨zc1, zf1⟩ := LM.out.cells.2 1 _ rfl
            obtain ⟨zc2, zf2⟩ := LM.out.cells.2 2 _ rfl
            obtain ⟨zc3, zf3⟩ := LM.out.cells.2 3 _ rfl
            obtain ⟨zc4, zf4⟩ := LM.out.cells.2 4 _ rfl
            obtain ⟨zc5, zf5⟩ := LM.out.cells.2 5 _ rfl
            obtain ⟨zc6, zf6⟩ := LM.out.cells.2 6 _ rfl
            obtain ⟨zc7, zf7⟩ := LM.out.cells.2 7 _ rfl
            obtain ⟨zc8, zf8⟩ := LM.out.cells.2 8 _ rfl
            obtain ⟨zc9, zf9⟩ := LM.out.cells.2 9 _ rfl
            obtain ⟨zc10, zf10⟩ := LM.out.cells.2 10 _ rfl
            obtain ⟨zc11, zf11⟩ := LM.out.cells.2 11 _ rfl
            clear LM0
            go_wp2
            change bodyPost _ _ _ _ _ (put12 y (w.heap.size + 1) (.string (txt d.nm)) (.int .i64 d.st) (.int .i64 d.es) (.int .i64 d.mx) (.int .i64 d.sz) (.string (txt d.sm)) (.slice pf nf cf) (.slice pq mq cq) (.int .i64 d.po) (.int .i64 d.ti) (.int .i64 d.re) (.int .i64 d.ag))
            have pa := put12_at (y := y) LM.out.rc (.string (txt d.nm)) (.int .i64 d.st) (.int .i64 d.es) (.int .i64 d.mx) (.int .i64 d.sz) (.string (txt d.sm)) (.slice pf nf cf) (.slice pq mq cq) (.int .i64 d.po) (.int .i64 d.ti) (.int .i64 d.re) (.int .i64 d.ag)
            have pb := put12_below LM.out.b (show w.heap.size ≤ w.heap.size + 1 by omega) (.string (txt d.nm)) (.int .i64 d.st) (.int .i64 d.es) (.int .i64 d.mx) (.int .i64 d.sz) (.string (txt d.sm)) (.slice pf nf cf) (.slice pq mq cq) (.int .i64 d.po) (.int .i64 d.ti) (.int .i64 d.re) (.int .i64 d.ag)
            generalize put12 y (w.heap.size + 1) (.string (txt d.nm)) (.int .i64 d.st) (.int .i64 d.es) (.int .i64 d.mx) (.int .i64 d.sz) (.string (txt d.sm)) (.slice pf nf cf) (.slice pq mq cq) (.int .i64 d.po) (.int .i64 d.ti) (.int .i64 d.re) (.int .i64 d.ag) = yy at *
            refine bodyPost_ret (res_dev2 Tryd.results18 rfl rfl pa) rfl ?_
            exact ⟨d, pf, nf, cf, pq, mq, cq, by rw [e8.out]; rfl, pb, fun d' hd => by rw [e8.out] at hd; cases hd⟩
        · obtain rfl : k = sl := by omega
          have hns : ¬ kSta ∈ seen := fun hm => by
            obtain ⟨j, hj, hj2⟩ := List.mem_iff_getElem.1 hm
            exact no.out j hj (by have := hsl2.out; omega) hj2
          have st : Hid (stepM d seen (kSta :: a) = match updM kSta a with | none => .error 6 | some u => .ok (u d)) := step_nf rfl (by decide) hns
          have LM : Hid (LineM w (x0.drewN n) d (.slice pf nf cf) (.slice pq mq cq)) := LM0.out.below (below_drewN (Below.refl _ _) _)
          have hcy : (x0.drewN n).cell? ⟨g, o, none⟩ = some (.string ⟨#[115, 116, 97, 114, 116]⟩) := hc0
          generalize x0.drewN n = y at *
          clear LM0 no hns hc0
          by_cases h1 : a.length = 1
          · obtain ⟨z, rfl⟩ := len_one h1
            have hc1 : y.cell? ⟨g, o + 1, none⟩ = some (.string (txt z)) := kp LM.out.b (wi.out 1 (by simp))
            have fo : Hid (∀ w, Calls Tryd.prog 30 #[.string (txt z)] w fun e w' => e = .returned (.int .i64 (octI z)) ∧ Below w.heap.size w w') := fun w => roct_any (txt z) w (by rw [txt_size]; have := hz.out z (by simp); omega)
            have hm : updM kSta [z] = Option.map (fun (b : Nat) (d : Dv) => { d with st := (b : Int) }) (octO z) := rfl
            rw [hm] at st
            cases hO : octO z with
            | none =>
              have eO : octI z = -1 := by unfold octI; rw [hO]
              rw [eO] at fo
              rw [hO] at st
              replace st : Hid (stepM d seen [kSta, z] = .error 6) := st
              go_wp2_with fail
              refine (fo.out _).mono ?_
              clear fo
              rintro e yA ⟨rfl, hb⟩
              replace LM : Hid (LineM w yA d (.slice pf nf cf) (.slice pq mq cq)) := LM.out.below hb
              replace hcy : yA.cell? ⟨g, o, none⟩ = some (.string ⟨#[115, 116, 97, 114, 116]⟩) := kp hb hcy
              replace hc1 : yA.cell? ⟨g, o + 1, none⟩ = some (.string (txt z)) := kp hb hc1
              clear hb
              obtain ⟨dc0, df0⟩ := LM.out.cells.1 0 _ rfl
              obtain ⟨dc1, df1⟩ := LM.out.cells.1 1 _ rfl
              obtain ⟨dc2, df2⟩ := LM.out.cells.1 2 _ rfl
              obtain ⟨dc3, df3⟩ := LM.out.cells.1 3 _ rfl
              obtain ⟨dc4, df4⟩ := LM.out.cells.1 4 _ rfl
              obtain ⟨dc5, df5⟩ := LM.out.cells.1 5 _ rfl
              obtain ⟨dc6, df6⟩ := LM.out.cells.1 6 _ rfl
              obtain ⟨dc7, df7⟩ := LM.out.cells.1 7 _ rfl
              obtain ⟨dc8, df8⟩ := LM.out.cells.1 8 _ rfl
              obtain ⟨dc9, df9⟩ := LM.out.cells.1 9 _ rfl
              obtain ⟨dc10, df10⟩ := LM.out.cells.1 10 _ rfl
              obtain ⟨dc11, df11⟩ := LM.out.cells.1 11 _ rfl
              obtain ⟨zc0, zf0⟩ := LM.out.cells.2 0 _ rfl
              obtain ⟨zc1, zf1⟩ := LM.out.cells.2 1 _ rfl
              obtain ⟨zc2, zf2⟩ := LM.out.cells.2 2 _ rfl
              obtain ⟨zc3, zf3⟩ := LM.out.cells.2 3 _ rfl
              obtain ⟨zc4, zf4⟩ := LM.out.cells.2 4 _ rfl
              obtain ⟨zc5, zf5⟩ := LM.out.cells.2 5 _ rfl
              obtain ⟨zc6, zf6⟩ := LM.out.cells.2 6 _ rfl
              obtain ⟨zc7, zf7⟩ := LM.out.cells.2 7 _ rfl
              obtain ⟨zc8, zf8⟩ := LM.out.cells.2 8 _ rfl
              obtain ⟨zc9, zf9⟩ := LM.out.cells.2 9 _ rfl
              obtain ⟨zc10, zf10⟩ := LM.out.cells.2 10 _ rfl
              obtain ⟨zc11, zf11⟩ := LM.out.cells.2 11 _ rfl
              replace LM : Hid (LineM w (yA.setCell ⟨w.heap.size, 1, none⟩ (.int .i64 (-1))) { d with st := -1 } (.slice pf nf cf) (.slice pq mq cq)) := LM.out.set 1 (.int .i64 (-1)) rfl
              go_wp2
              change bodyPost _ _ _ _ _ (LineZ w (yA.setCell ⟨w.heap.size, 1, none⟩ (.int .i64 (-1))) { d with st := -1 } (.slice pf nf cf) (.slice pq mq cq))
              refine bodyPost_ret (res_dev2 Tryd.results18 rfl rfl LM.out.res) rfl ?_
              exact LM.out.quit st.out _ rfl
            | some b =>
              have eO : octI z = (b : Int) := by unfold octI; rw [hO]
              have nb : decide ((b : Int) < 0) = false := decide_eq_false (by omega)
              rw [eO] at fo
              rw [hO] at st
              replace st : Hid (stepM d seen [kSta, z] = .ok { d with st := (b : Int) }) := st
              go_wp2_with fail
              refine (fo.out _).mono ?_
              clear fo
              rintro e yA ⟨rfl, hb⟩
              replace LM : Hid (LineM w yA d (.slice pf nf cf) (.slice pq mq cq)) := LM.out.below hb
              replace hcy : yA.cell? ⟨g, o, none⟩ = some (.string ⟨#[115, 116, 97, 114, 116]⟩) := kp hb hcy
              replace hc1 : yA.cell? ⟨g, o + 1, none⟩ = some (.string (txt z)) := kp hb hc1
              clear hb
              obtain ⟨dc0, df0⟩ := LM.out.cells.1 0 _ rfl
              obtain ⟨dc1, df1⟩ := LM.out.cells.1 1 _ rfl
              obtain ⟨dc2, df2⟩ := LM.out.cells.1 2 _ rfl
              obtain ⟨dc3, df3⟩ := LM.out.cells.1 3 _ rfl
              obtain ⟨dc4, df4⟩ := LM.out.cells.1 4 _ rfl
              obtain ⟨dc5, df5⟩ := LM.out.cells.1 5 _ rfl
              obtain ⟨dc6, df6⟩ := LM.out.cells.1 6 _ rfl
              obtain ⟨dc7, df7⟩ := LM.out.cells.1 7 _ rfl
              obtain ⟨dc8, df8⟩ := LM.out.cells.1 8 _ rfl
              obtain ⟨dc9, df9⟩ := LM.out.cells.1 9 _ rfl
              obtain ⟨dc10, df10⟩ := LM.out.cells.1 10 _ rfl
              obtain ⟨dc11, df11⟩ := LM.out.cells.1 11 _ rfl
              obtain ⟨zc0, zf0⟩ := LM.out.cells.2 0 _ rfl
              obtain ⟨zc1, zf1⟩ := LM.out.cells.2 1 _ rfl
              obtain ⟨zc2, zf2⟩ := LM.out.cells.2 2 _ rfl
              obtain ⟨zc3, zf3⟩ := LM.out.cells.2 3 _ rfl
              obtain ⟨zc4, zf4⟩ := LM.out.cells.2 4 _ rfl
              obtain ⟨zc5, zf5⟩ := LM.out.cells.2 5 _ rfl
              obtain ⟨zc6, zf6⟩ := LM.out.cells.2 6 _ rfl
              obtain ⟨zc7, zf7⟩ := LM.out.cells.2 7 _ rfl
              obtain ⟨zc8, zf8⟩ := LM.out.cells.2 8 _ rfl
              obtain ⟨zc9, zf9⟩ := LM.out.cells.2 9 _ rfl
              obtain ⟨zc10, zf10⟩ := LM.out.cells.2 10 _ rfl
              obtain ⟨zc11, zf11⟩ := LM.out.cells.2 11 _ rfl
              replace LM : Hid (LineM w (yA.setCell ⟨w.heap.size, 1, none⟩ (.int .i64 (b : Int))) { d with st := (b : Int) } (.slice pf nf cf) (.slice pq mq cq)) := LM.out.set 1 (.int .i64 (b : Int)) rfl
              go_wp2
              change bodyPost _ _ _ _ _ (LineZ w (yA.setCell ⟨w.heap.size, 1, none⟩ (.int .i64 (b : Int))) { d with st := (b : Int) } (.slice pf nf cf) (.slice pq mq cq))
              refine bodyPost_ret (res_dev2 Tryd.results18 rfl rfl LM.out.res) rfl ?_
              exact LM.out.done st.out (LM.out.old FQ0.out).1 (LM.out.old FQ0.out).2 (.inl rfl) (.inl rfl)
          · have n2 : ((a.length : Int) + 1 != 2) = true := bne_iff_ne.2 (by omega)
            have hm : updM kSta a = none := mSta_len h1
            rw [hm] at st
            replace st : Hid (stepM d seen (kSta :: a) = .error 6) := st
            obtain ⟨dc0, df0⟩ := LM.out.cells.1 0 _ rfl
            obtain ⟨dc1, df1⟩ := LM.out.cells.1 1 _ rfl
            obtain ⟨dc2, df2⟩ := LM.out.cells.1 2 _ rfl
            obtain ⟨dc3, df3⟩ := LM.out.cells.1 3 _ rfl
            obtain ⟨dc4, df4⟩ := LM.out.cells.1 4 _ rfl
            obtain ⟨dc5, df5⟩ := LM.out.cells.1 5 _ rfl
            obtain ⟨dc6, df6⟩ := LM.out.cells.1 6 _ rfl
            obtain ⟨dc7, df7⟩ := LM.out.cells.1 7 _ rfl
            obtain ⟨dc8, df8⟩ := LM.out.cells.1 8 _ rfl
            obtain ⟨dc9, df9⟩ := LM.out.cells.1 9 _ rfl
            obtain ⟨dc10, df10⟩ := LM.out.cells.1 10 _ rfl
            obtain ⟨dc11, df11⟩ := LM.out.cells.1 11 _ rfl
            obtain ⟨zc0, zf0⟩ := LM.out.cells.2 0 _ rfl
            obtain ⟨zc1, zf1⟩ := LM.out.cells.2 1 _ rfl
            obtain ⟨zc2, zf2⟩ := LM.out.cells.2 2 _ rfl
            obtain ⟨zc3, zf3⟩ := LM.out.cells.2 3 _ rfl
            obtain ⟨zc4, zf4⟩ := LM.out.cells.2 4 _ rfl
            obtain ⟨zc5, zf5⟩ := LM.out.cells.2 5 _ rfl
            obtain ⟨zc6, zf6⟩ := LM.out.cells.2 6 _ rfl
            obtain ⟨zc7, zf7⟩ := LM.out.cells.2 7 _ rfl
            obtain ⟨zc8, zf8⟩ := LM.out.cells.2 8 _ rfl
            obtain ⟨zc9, zf9⟩ := LM.out.cells.2 9 _ rfl
            obtain ⟨zc10, zf10⟩ := LM.out.cells.2 10 _ rfl
            obtain ⟨zc11, zf11⟩ := LM.out.cells.2 11 _ rfl
            go_wp2
            change bodyPost _ _ _ _ _ (LineZ w y d (.slice pf nf cf) (.slice pq mq cq))
            refine bodyPost_ret (res_dev2 Tryd.results18 rfl rfl LM.out.res) rfl ?_
            exact LM.out.quit st.out _ rfl
end Go.Proofs.YtagkgneijdbkoaaDoor
/-
  The document's own line, of a first word (layer 8). Conditions: at most 5000 words, of at most 5000 bytes each; as it says.
-/
namespace Go.Proofs.YtagkgneijdbkoaaDoor
open Go.RowKit
set_option linter.unusedVariables false

set_option maxRecDepth 100000 in
set_option maxHeartbeats 8000000 in
theorem line_esc (a : List Wd) (d : Dv) (pf : Option Addr) (nf cf : Nat) (pq : Option Addr) (mq cq : Nat) (g o cap : Nat) (w : World) (hi : StrsIn w g o (kEsc :: a)) (hgw : g < w.heap.size) (hl : (a.length : Int) ≤ 5000) (hz : ∀ z ∈ a, (z.length : Int) ≤ 5000) (ps : Option Addr) (cs : Nat) (seen : List Wd) (hs : StrsAt w (.slice ps seen.length cs) seen) (hsl : (seen.length : Int) ≤ 5000) (hfl : FldsAt w (.slice pf nf cf) d.fs) (hrq : BytesAt w (.slice pq mq cq) d.rq) :
    Calls Tryd.prog 18 #[dvV d (.slice pf nf cf) (.slice pq mq cq), .slice (some ⟨g, o, none⟩) (a.length + 1) cap, .slice ps seen.length cs] w (LineQ w d (.slice pf nf cf) (.slice pq mq cq) seen (kEsc :: a)) := by
  have m0 := lineM_first w d (.slice pf nf cf) (.slice pq mq cq)
  have n0 : ((a.length : Int) + 1 == 0) = false := beq_eq_false_iff_ne.2 (by omega)
  have FQ0 : Hid (FldsAt w (.slice pf nf cf) d.fs ∧ BytesAt w (.slice pq mq cq) d.rq) := ⟨hfl, hrq⟩
  have wi : Hid (StrsIn w g o (kEsc :: a)) := hi
  replace hs : Hid (StrsAt w (.slice ps seen.length cs) seen) := hs
  replace hz : Hid (∀ z ∈ a, (z.length : Int) ≤ 5000) := hz
  obtain ⟨sl, hsl2⟩ : ∃ sl, seen.length = sl := ⟨_, rfl⟩
  rw [hsl2] at hs hsl ⊢
  replace hsl2 : Hid (seen.length = sl) := hsl2
  clear hfl hrq hi
  go_enter Tryd.func18, Tryd.ntmps18
  go_upto_region 5 with fail
  change Code.wp Tryd.prog _ _ _ (LineW w d (.slice pf nf cf) (.slice pq mq cq))
  have LM0 : Hid (LineM w (LineW w d (.slice pf nf cf) (.slice pq mq cq)) d (.slice pf nf cf) (.slice pq mq cq)) := m0.1
  have lc0 : Hid (∀ (i : Nat) (h : i < 11), (LineW w d (.slice pf nf cf) (.slice pq mq cq)).cell? ⟨w.heap.size + 1 + 1, i, none⟩ = some (.string (txt (allK[i]'h)))) := fun i h => (rd_cell m0.2 i).1.trans (allC_at i h)
  have hc0 : (LineW w d (.slice pf nf cf) (.slice pq mq cq)).cell? ⟨g, o, none⟩ = some (.string ⟨#[101, 115, 99, 97, 112, 101]⟩) := kp m0.1.b (wi.out 0 (by simp))
  clear m0
  generalize LineW w d (.slice pf nf cf) (.slice pq mq cq) = x0 at *
  go_wp2
  go_loopw [8, 10] (fun vk vi wr => ∃ n k : Nat, (k : Int) ≤ 11 ∧ wr = x0.drewN n ∧ vi = .int .i64 (k : Int) ∧ vk = .bool (decide (kEsc ∈ allK.take k))) (fun vk vi wr => (11 - intOf vi).toNat)
  case atStart => exact ⟨0, 0, by omega, rfl, rfl, by simp⟩
  case round =>
    obtain ⟨n, k, hk11, rfl, rfl, rfl⟩ := hrel
    by_cases hlt : k < 11
    · have hki : (k : Int) < 11 := by omega
      have st := allK_step kEsc k hlt
      have l1 := lc0.out k hlt
      have wk : IntKind.i64.wrap ((k : Int) + 1) = (k : Int) + 1 := by simp only [IntKind.wrap_i64]; omega
      have cmp : (txt (allK[k]'hlt) == ⟨#[101, 115, 99, 97, 112, 101]⟩) = decide (allK[k]'hlt = kEsc) := txt_beq _ kEsc
      generalize allK[k]'hlt = ak at *
      clear lc0 LM0
      cases hd : decide (kEsc ∈ allK.take k)
      · rw [hd, Bool.false_or] at st
        have c2 : ((txt ak).toList == [101, 115, 99, 97, 112, 101]) = decide (ak = kEsc) := by
          rw [Bool.eq_iff_iff, decide_eq_true_iff, beq_iff_eq, ByteArray.toList_eq]
          exact ⟨fun h => h, fun h => by rw [h]; rfl⟩
        generalize decide (ak = kEsc) = R at *
        go_wp2_with fail
        go_quiet (fail)
        go_wp2
        exact ⟨⟨n + nq, k + 1, by omega, rfl, by simp, by rw [st]⟩, by simp [intOf]; omega⟩
      · rw [hd, Bool.true_or] at st
        go_wp2_with fail
        go_quiet (fail)
        go_wp2
        exact ⟨⟨n + nq, k + 1, by omega, rfl, by simp, by rw [st]⟩, by simp [intOf]; omega⟩
    · obtain rfl : k = 11 := by omega
      rw [allK_mem, show knownB kEsc = true from rfl]
      clear lc0
      go_wp2
      go_loopw [11] (fun vi wr => ∃ n k : Nat, (k : Int) ≤ (sl : Int) ∧ wr = x0.drewN n ∧ vi = .int .i64 (k : Int) ∧ Hid (∀ j (h : j < seen.length), j < k → ¬ seen[j] = kEsc)) (fun vi wr => ((sl : Int) - intOf vi).toNat)
      case atStart => exact ⟨n, 0, by omega, rfl, rfl, fun j _ h => (by cases h)⟩
      case round =>
        obtain ⟨n, k, hk, rfl, rfl, no⟩ := hrel
        by_cases hlt : k < sl
        · have hki : (k : Int) < (sl : Int) := by omega
          have hks : k < seen.length := by have := hsl2.out; omega
          rcases hs.out with ⟨_, hnil⟩ | ⟨gs, os, cs', e1, hin, hgs⟩
          · rw [hnil] at hks; cases hks
          injection e1 with e1 e2 e3
          subst e1
          subst e3
          clear e2
          have l1 := kp LM0.out.b (hin k hks)
          have wk : IntKind.i64.wrap ((k : Int) + 1) = (k : Int) + 1 := by simp only [IntKind.wrap_i64]; omega
          obtain ⟨ak, hak⟩ : ∃ ak, seen[k] = ak := ⟨_, rfl⟩
          rw [hak] at l1
          have cmp : (txt ak == ⟨#[101, 115, 99, 97, 112, 101]⟩) = decide (ak = kEsc) := txt_beq _ kEsc
          have c2 : ((txt ak).toList == [101, 115, 99, 97, 112, 101]) = decide (ak = kEsc) := by
            rw [Bool.eq_iff_iff, decide_eq_true_iff, beq_iff_eq, ByteArray.toList_eq]
            exact ⟨fun h => h, fun h => by rw [h]; rfl⟩
          cases hd : decide (ak = kEsc)
          · rw [hd] at cmp c2
            have no2 : Hid (∀ j (h : j < seen.length), j < k + 1 → ¬ seen[j] = kEsc) := fun j h hj => by
              by_cases hjk : j = k
              · subst hjk; rw [hak]; simpa using hd
              · exact no.out j h (by omega)
            clear hin hak no hd LM0
            go_wp2_with fail
            go_quiet (fail)
            go_wp2
            exact ⟨⟨n + nq, k + 1, by omega, rfl, by simp, no2⟩, by simp [intOf]; omega⟩
          · rw [hd] at cmp c2
            have e8 : Hid (stepM d seen (kEsc :: a) = .error 8) := by
              have hm : kEsc ∈ seen := by
                have : ak = kEsc := by simpa using hd
                rw [← this, ← hak]; exact List.getElem_mem hks
              unfold Hid stepM
              simp only [show knownB kEsc = true from rfl]
              rw [if_neg (by decide), if_pos ⟨by decide, hm⟩]
            clear hin hak no hd
            go_wp2_with fail
            go_quiet (fail)
            go_upto_region 15 with fail
            have LM : Hid (LineM w ((x0.drewN n).drewN nq) d (.slice pf nf cf) (.slice pq mq cq)) := LM0.out.below (below_drewN (below_drewN (Below.refl _ _) _) _)
            generalize (x0.drewN n).drewN nq = y at *
            obtain ⟨dc0, df0⟩ := LM.out.cells.1 0 _ rfl
            obtain ⟨dc1, df1⟩ := LM.out.cells.1 1 _ rfl
            obtain ⟨dc2, df2⟩ := LM.out.cells.1 2 _ rfl
            obtain ⟨dc3, df3⟩ := LM.out.cells.1 3 _ rfl
            obtain ⟨dc4, df4⟩ := LM.out.cells.1 4 _ rfl
            obtain ⟨dc5, df5⟩ := LM.out.cells.1 5 _ rfl
            obtain ⟨dc6, df6⟩ := LM.out.cells.1 6 _ rfl
            obtain ⟨dc7, df7⟩ := LM.out.cells.1 7 _ rfl
            obtain ⟨dc8, df8⟩ := LM.out.cells.1 8 _ rfl
            obtain ⟨dc9, df9⟩ := LM.out.cells.1 9 _ rfl
            obtain ⟨dc10, df10⟩ := LM.out.cells.1 10 _ rfl
            obtain ⟨dc11, df11⟩ := LM.out.cells.1 11 _ rfl
            obtain ⟨zc0, zf0⟩ := LM.out.cells.2 0 _ rfl
            obtain ⟨zc1, zf1⟩ := LM.out.cells.2 1 _ rfl
            obtain ⟨zc2, zf2⟩ := LM.out.cells.2 2 _ rfl
            obtain ⟨zc3, zf3⟩ := LM.out.cells.2 3 _ rfl
            obtain ⟨zc4, zf4⟩ := LM.out.cells.2 4 _ rfl
            obtain ⟨zc5, zf5⟩ := LM.out.cells.2 5 _ rfl
            obtain ⟨zc6, zf6⟩ := LM.out.cells.2 6 _ rfl
            obtain ⟨zc7, zf7⟩ := LM.out.cells.2 7 _ rfl
            obtain ⟨zc8, zf8⟩ := LM.out.cells.2 8 _ rfl
            obtain ⟨zc9, zf9⟩ := LM.out.cells.2 9 _ rfl
            obtain ⟨zc10, zf10⟩ := LM.out.cells.2 10 _ rfl
            obtain ⟨zc11, zf11⟩ := LM.out.cells.2 11 _ rfl
            clear LM0
            go_wp2
            change bodyPost _ _ _ _ _ (put12 y (w.heap.size + 1) (.string (txt d.nm)) (.int .i64 d.st) (.int .i64 d.es) (.int .i64 d.mx) (.int .i64 d.sz) (.string (txt d.sm)) (.slice pf nf cf) (.slice pq mq cq) (.int .i64 d.po) (.int .i64 d.ti) (.int .i64 d.re) (.int .i64 d.ag))
            have pa := put12_at (y := y) LM.out.rc (.string (txt d.nm)) (.int .i64 d.st) (.int .i64 d.es) (.int .i64 d.mx) (.int .i64 d.sz) (.string (txt d.sm)) (.slice pf nf cf) (.slice pq mq cq) (.int .i64 d.po) (.int .i64 d.ti) (.int .i64 d.re) (.int .i64 d.ag)
            have pb := put12_below LM.out.b (show w.heap.size ≤ w.heap.size + 1 by omega) (.string (txt d.nm)) (.int .i64 d.st) (.int .i64 d.es) (.int .i64 d.mx) (.int .i64 d.sz) (.string (txt d.sm)) (.slice pf nf cf) (.slice pq mq cq) (.int .i64 d.po) (.int .i64 d.ti) (.int .i64 d.re) (.int .i64 d.ag)
            generalize put12 y (w.heap.size + 1) (.string (txt d.nm)) (.int .i64 d.st) (.int .i64 d.es) (.int .i64 d.mx) (.int .i64 d.sz) (.string (txt d.sm)) (.slice pf nf cf) (.slice pq mq cq) (.int .i64 d.po) (.int .i64 d.ti) (.int .i64 d.re) (.int .i64 d.ag) = yy at *
            refine bodyPost_ret (res_dev2 Tryd.results18 rfl rfl pa) rfl ?_
            exact ⟨d, pf, nf, cf, pq, mq, cq, by rw [e8.out]; rfl, pb, fun d' hd => by rw [e8.out] at hd; cases hd⟩
        · obtain rfl : k = sl := by omega
          have hns : ¬ kEsc ∈ seen := fun hm => by
            obtain ⟨j, hj, hj2⟩ := List.mem_iff_getElem.1 hm
            exact no.out j hj (by have := hsl2.out; omega) hj2
          have st : Hid (stepM d seen (kEsc :: a) = match updM kEsc a with | none => .error 6 | some u => .ok (u d)) := step_nf rfl (by decide) hns
          have LM : Hid (LineM w (x0.drewN n) d (.slice pf nf cf) (.slice pq mq cq)) := LM0.out.below (below_drewN (Below.refl _ _) _)
          have hcy : (x0.drewN n).cell? ⟨g, o, none⟩ = some (.string ⟨#[101, 115, 99, 97, 112, 101]⟩) := hc0
          generalize x0.drewN n = y at *
          clear LM0 no hns hc0
          by_cases h1 : a.length = 2
          · obtain ⟨z, t, rfl⟩ := len_two h1
            have hc1 : y.cell? ⟨g, o + 1, none⟩ = some (.string (txt z)) := kp LM.out.b (wi.out 1 (by simp))
            have hc2 : y.cell? ⟨g, o + 2, none⟩ = some (.string (txt t)) := kp LM.out.b (wi.out 2 (by simp))
            have fo1 : Hid (∀ w, Calls Tryd.prog 30 #[.string (txt z)] w fun e w' => e = .returned (.int .i64 (octI z)) ∧ Below w.heap.size w w') := fun w => roct_any (txt z) w (by rw [txt_size]; have := hz.out z (by simp); omega)
            have fo2 : Hid (∀ w, Calls Tryd.prog 30 #[.string (txt t)] w fun e w' => e = .returned (.int .i64 (octI t)) ∧ Below w.heap.size w w') := fun w => roct_any (txt t) w (by rw [txt_size]; have := hz.out t (by simp); omega)
            have hm : updM kEsc [z, t] = (octO z).bind fun (b : Nat) => Option.map (fun (c : Nat) (d : Dv) => { d with es := (b : Int), mx := (c : Int) }) (octO t) := rfl
            rw [hm] at st
            cases hO : octO z with
            | none =>
              have eO : octI z = -1 := by unfold octI; rw [hO]
              rw [eO] at fo1
              rw [hO] at st
              replace st : Hid (stepM d seen [kEsc, z, t] = .error 6) := st
              go_wp2_with fail
              refine (fo1.out _).mono ?_
              clear fo1 fo2
              rintro e yA ⟨rfl, hb⟩
              replace LM : Hid (LineM w yA d (.slice pf nf cf) (.slice pq mq cq)) := LM.out.below hb
              replace hcy : yA.cell? ⟨g, o, none⟩ = some (.string ⟨#[101, 115, 99, 97, 112, 101]⟩) := kp hb hcy
              replace hc1 : yA.cell? ⟨g, o + 1, none⟩ = some (.string (txt z)) := kp hb hc1
              replace hc2 : yA.cell? ⟨g, o + 2, none⟩ = some (.string (txt t)) := kp hb hc2
              clear hb
              obtain ⟨dc0, df0⟩ := LM.out.cells.1 0 _ rfl
              obtain ⟨dc1, df1⟩ := LM.out.cells.1 1 _ rfl
              obtain ⟨dc2, df2⟩ := LM.out.cells.1 2 _ rfl
              obtain ⟨dc3, df3⟩ := LM.out.cells.1 3 _ rfl
              obtain ⟨dc4, df4⟩ := LM.out.cells.1 4 _ rfl
              obtain ⟨dc5, df5⟩ := LM.out.cells.1 5 _ rfl
              obtain ⟨dc6, df6⟩ := LM.out.cells.1 6 _ rfl
              obtain ⟨dc7, df7⟩ := LM.out.cells.1 7 _ rfl
              obtain ⟨dc8, df8⟩ := LM.out.cells.1 8 _ rfl
              obtain ⟨dc9, df9⟩ := LM.out.cells.1 9 _ rfl
              obtain ⟨dc10, df10⟩ := LM.out.cells.1 10 _ rfl
              obtain ⟨dc11, df11⟩ := LM.out.cells.1 11 _ rfl
              obtain ⟨zc0, zf0⟩ := LM.out.cells.2 0 _ rfl
              obtain ⟨zc1, zf1⟩ := LM.out.cells.2 1 _ rfl
              obtain ⟨zc2, zf2⟩ := LM.out.cells.2 2 _ rfl
              obtain ⟨zc3, zf3⟩ := LM.out.cells.2 3 _ rfl
              obtain ⟨zc4, zf4⟩ := LM.out.cells.2 4 _ rfl
              obtain ⟨zc5, zf5⟩ := LM.out.cells.2 5 _ rfl
              obtain ⟨zc6, zf6⟩ := LM.out.cells.2 6 _ rfl
              obtain ⟨zc7, zf7⟩ := LM.out.cells.2 7 _ rfl
              obtain ⟨zc8, zf8⟩ := LM.out.cells.2 8 _ rfl
              obtain ⟨zc9, zf9⟩ := LM.out.cells.2 9 _ rfl
              obtain ⟨zc10, zf10⟩ := LM.out.cells.2 10 _ rfl
              obtain ⟨zc11, zf11⟩ := LM.out.cells.2 11 _ rfl
              go_wp2
              change bodyPost _ _ _ _ _ (LineZ w yA d (.slice pf nf cf) (.slice pq mq cq))
              refine bodyPost_ret (res_dev2 Tryd.results18 rfl rfl LM.out.res) rfl ?_
              exact LM.out.quit st.out _ rfl
            | some b =>
              have eO : octI z = (b : Int) := by unfold octI; rw [hO]
              have nb : decide ((b : Int) < 0) = false := decide_eq_false (by omega)
              rw [eO] at fo1
              rw [hO] at st
              go_wp2_with fail
              refine (fo1.out _).mono ?_
              rintro e yA ⟨rfl, hb⟩
              replace LM : Hid (LineM w yA d (.slice pf nf cf) (.slice pq mq cq)) := LM.out.below hb
              replace hcy : yA.cell? ⟨g, o, none⟩ = some (.string ⟨#[101, 115, 99, 97, 112, 101]⟩) := kp hb hcy
              replace hc1 : yA.cell? ⟨g, o + 1, none⟩ = some (.string (txt z)) := kp hb hc1
              replace hc2 : yA.cell? ⟨g, o + 2, none⟩ = some (.string (txt t)) := kp hb hc2
              clear hb
              cases hP : octO t with
              | none =>
                have eP : octI t = -1 := by unfold octI; rw [hP]
                rw [eP] at fo2
                rw [hP] at st
                replace st : Hid (stepM d seen [kEsc, z, t] = .error 6) := st
                go_wp2_with fail
                refine (fo2.out _).mono ?_
                clear fo1 fo2
                rintro e yB ⟨rfl, hb⟩
                replace LM : Hid (LineM w yB d (.slice pf nf cf) (.slice pq mq cq)) := LM.out.below hb
                replace hcy : yB.cell? ⟨g, o, none⟩ = some (.string ⟨#[101, 115, 99, 97, 112, 101]⟩) := kp hb hcy
                replace hc1 : yB.cell? ⟨g, o + 1, none⟩ = some (.string (txt z)) := kp hb hc1
                replace hc2 : yB.cell? ⟨g, o + 2, none⟩ = some (.string (txt t)) := kp hb hc2
                clear hb
                obtain ⟨dc0, df0⟩ := LM.out.cells.1 0 _ rfl
                obtain ⟨dc1, df1⟩ := LM.out.cells.1 1 _ rfl
                obtain ⟨dc2, df2⟩ := LM.out.cells.1 2 _ rfl
                obtain ⟨dc3, df3⟩ := LM.out.cells.1 3 _ rfl
                obtain ⟨dc4, df4⟩ := LM.out.cells.1 4 _ rfl
                obtain ⟨dc5, df5⟩ := LM.out.cells.1 5 _ rfl
                obtain ⟨dc6, df6⟩ := LM.out.cells.1 6 _ rfl
                obtain ⟨dc7, df7⟩ := LM.out.cells.1 7 _ rfl
                obtain ⟨dc8, df8⟩ := LM.out.cells.1 8 _ rfl
                obtain ⟨dc9, df9⟩ := LM.out.cells.1 9 _ rfl
                obtain ⟨dc10, df10⟩ := LM.out.cells.1 10 _ rfl
                obtain ⟨dc11, df11⟩ := LM.out.cells.1 11 _ rfl
                obtain ⟨zc0, zf0⟩ := LM.out.cells.2 0 _ rfl
                obtain ⟨zc1, zf1⟩ := LM.out.cells.2 1 _ rfl
                obtain ⟨zc2, zf2⟩ := LM.out.cells.2 2 _ rfl
                obtain ⟨zc3, zf3⟩ := LM.out.cells.2 3 _ rfl
                obtain ⟨zc4, zf4⟩ := LM.out.cells.2 4 _ rfl
                obtain ⟨zc5, zf5⟩ := LM.out.cells.2 5 _ rfl
                obtain ⟨zc6, zf6⟩ := LM.out.cells.2 6 _ rfl
                obtain ⟨zc7, zf7⟩ := LM.out.cells.2 7 _ rfl
                obtain ⟨zc8, zf8⟩ := LM.out.cells.2 8 _ rfl
                obtain ⟨zc9, zf9⟩ := LM.out.cells.2 9 _ rfl
                obtain ⟨zc10, zf10⟩ := LM.out.cells.2 10 _ rfl
                obtain ⟨zc11, zf11⟩ := LM.out.cells.2 11 _ rfl
                go_wp2
                change bodyPost _ _ _ _ _ (LineZ w yB d (.slice pf nf cf) (.slice pq mq cq))
                refine bodyPost_ret (res_dev2 Tryd.results18 rfl rfl LM.out.res) rfl ?_
                exact LM.out.quit st.out _ rfl
              | some c =>
                have eP : octI t = (c : Int) := by unfold octI; rw [hP]
                have nc : decide ((c : Int) < 0) = false := decide_eq_false (by omega)
                rw [eP] at fo2
                rw [hP] at st
                replace st : Hid (stepM d seen [kEsc, z, t] = .ok { d with es := (b : Int), mx := (c : Int) }) := st
                go_wp2_with fail
                refine (fo2.out _).mono ?_
                rintro e yB ⟨rfl, hb⟩
                replace LM : Hid (LineM w yB d (.slice pf nf cf) (.slice pq mq cq)) := LM.out.below hb
                replace hcy : yB.cell? ⟨g, o, none⟩ = some (.string ⟨#[101, 115, 99, 97, 112, 101]⟩) := kp hb hcy
                replace hc1 : yB.cell? ⟨g, o + 1, none⟩ = some (.string (txt z)) := kp hb hc1
                replace hc2 : yB.cell? ⟨g, o + 2, none⟩ = some (.string (txt t)) := kp hb hc2
                clear hb
                go_wp2_with fail
                refine (fo1.out _).mono ?_
                rintro e yC ⟨rfl, hb⟩
                replace LM : Hid (LineM w yC d (.slice pf nf cf) (.slice pq mq cq)) := LM.out.below hb
                replace hcy : yC.cell? ⟨g, o, none⟩ = some (.string ⟨#[101, 115, 99, 97, 112, 101]⟩) := kp hb hcy
                replace hc1 : yC.cell? ⟨g, o + 1, none⟩ = some (.string (txt z)) := kp hb hc1
                replace hc2 : yC.cell? ⟨g, o + 2, none⟩ = some (.string (txt t)) := kp hb hc2
                clear hb
                obtain ⟨dc0, df0⟩ := LM.out.cells.1 0 _ rfl
                obtain ⟨dc1, df1⟩ := LM.out.cells.1 1 _ rfl
                obtain ⟨dc2, df2⟩ := LM.out.cells.1 2 _ rfl
                obtain ⟨dc3, df3⟩ := LM.out.cells.1 3 _ rfl
                obtain ⟨dc4, df4⟩ := LM.out.cells.1 4 _ rfl
                obtain ⟨dc5, df5⟩ := LM.out.cells.1 5 _ rfl
                obtain ⟨dc6, df6⟩ := LM.out.cells.1 6 _ rfl
                obtain ⟨dc7, df7⟩ := LM.out.cells.1 7 _ rfl
                obtain ⟨dc8, df8⟩ := LM.out.cells.1 8 _ rfl
                obtain ⟨dc9, df9⟩ := LM.out.cells.1 9 _ rfl
                obtain ⟨dc10, df10⟩ := LM.out.cells.1 10 _ rfl
                obtain ⟨dc11, df11⟩ := LM.out.cells.1 11 _ rfl
                obtain ⟨zc0, zf0⟩ := LM.out.cells.2 0 _ rfl
                obtain ⟨zc1, zf1⟩ := LM.out.cells.2 1 _ rfl
                obtain ⟨zc2, zf2⟩ := LM.out.cells.2 2 _ rfl
                obtain ⟨zc3, zf3⟩ := LM.out.cells.2 3 _ rfl
                obtain ⟨zc4, zf4⟩ := LM.out.cells.2 4 _ rfl
                obtain ⟨zc5, zf5⟩ := LM.out.cells.2 5 _ rfl
                obtain ⟨zc6, zf6⟩ := LM.out.cells.2 6 _ rfl
                obtain ⟨zc7, zf7⟩ := LM.out.cells.2 7 _ rfl
                obtain ⟨zc8, zf8⟩ := LM.out.cells.2 8 _ rfl
                obtain ⟨zc9, zf9⟩ := LM.out.cells.2 9 _ rfl
                obtain ⟨zc10, zf10⟩ := LM.out.cells.2 10 _ rfl
                obtain ⟨zc11, zf11⟩ := LM.out.cells.2 11 _ rfl
                go_wp2_with fail
                replace LM : Hid (LineM w (yC.setCell ⟨w.heap.size, 2, none⟩ (.int .i64 (b : Int))) { d with es := (b : Int) } (.slice pf nf cf) (.slice pq mq cq)) := LM.out.set 2 (.int .i64 (b : Int)) rfl
                have hne : g ≠ w.heap.size := by omega
                replace hcy : (yC.setCell ⟨w.heap.size, 2, none⟩ (.int .i64 (b : Int))).cell? ⟨g, o, none⟩ = some (.string ⟨#[101, 115, 99, 97, 112, 101]⟩) := (World.cell?_of_block (a := ⟨g, o, none⟩) (Below.heap_setCell _ _ _ _ hne)).trans hcy
                replace hc1 : (yC.setCell ⟨w.heap.size, 2, none⟩ (.int .i64 (b : Int))).cell? ⟨g, o + 1, none⟩ = some (.string (txt z)) := (World.cell?_of_block (a := ⟨g, o + 1, none⟩) (Below.heap_setCell _ _ _ _ hne)).trans hc1
                replace hc2 : (yC.setCell ⟨w.heap.size, 2, none⟩ (.int .i64 (b : Int))).cell? ⟨g, o + 2, none⟩ = some (.string (txt t)) := (World.cell?_of_block (a := ⟨g, o + 2, none⟩) (Below.heap_setCell _ _ _ _ hne)).trans hc2
                clear dc0 dc1 dc2 dc3 dc4 dc5 dc6 dc7 dc8 dc9 dc10 dc11 df0 df1 df2 df3 df4 df5 df6 df7 df8 df9 df10 df11 zc0 zc1 zc2 zc3 zc4 zc5 zc6 zc7 zc8 zc9 zc10 zc11 zf0 zf1 zf2 zf3 zf4 zf5 zf6 zf7 zf8 zf9 zf10 zf11
                generalize yC.setCell ⟨w.heap.size, 2, none⟩ (.int .i64 (b : Int)) = yD at *
                refine (fo2.out _).mono ?_
                rintro e yE ⟨rfl, hb⟩
                replace LM : Hid (LineM w yE { d with es := (b : Int) } (.slice pf nf cf) (.slice pq mq cq)) := LM.out.below hb
                replace hcy : yE.cell? ⟨g, o, none⟩ = some (.string ⟨#[101, 115, 99, 97, 112, 101]⟩) := kp hb hcy
                replace hc1 : yE.cell? ⟨g, o + 1, none⟩ = some (.string (txt z)) := kp hb hc1
                replace hc2 : yE.cell? ⟨g, o + 2, none⟩ = some (.string (txt t)) := kp hb hc2
                clear hb
                obtain ⟨dc0, df0⟩ := LM.out.cells.1 0 _ rfl
                obtain ⟨dc1, df1⟩ := LM.out.cells.1 1 _ rfl
                obtain ⟨dc2, df2⟩ := LM.out.cells.1 2 _ rfl
                obtain ⟨dc3, df3⟩ := LM.out.cells.1 3 _ rfl
                obtain ⟨dc4, df4⟩ := LM.out.cells.1 4 _ rfl
                obtain ⟨dc5, df5⟩ := LM.out.cells.1 5 _ rfl
                obtain ⟨dc6, df6⟩ := LM.out.cells.1 6 _ rfl
                obtain ⟨dc7, df7⟩ := LM.out.cells.1 7 _ rfl
                obtain ⟨dc8, df8⟩ := LM.out.cells.1 8 _ rfl
                obtain ⟨dc9, df9⟩ := LM.out.cells.1 9 _ rfl
                obtain ⟨dc10, df10⟩ := LM.out.cells.1 10 _ rfl
                obtain ⟨dc11, df11⟩ := LM.out.cells.1 11 _ rfl
                obtain ⟨zc0, zf0⟩ := LM.out.cells.2 0 _ rfl
                obtain ⟨zc1, zf1⟩ := LM.out.cells.2 1 _ rfl
                obtain ⟨zc2, zf2⟩ := LM.out.cells.2 2 _ rfl
                obtain ⟨zc3, zf3⟩ := LM.out.cells.2 3 _ rfl
                obtain ⟨zc4, zf4⟩ := LM.out.cells.2 4 _ rfl
                obtain ⟨zc5, zf5⟩ := LM.out.cells.2 5 _ rfl
                obtain ⟨zc6, zf6⟩ := LM.out.cells.2 6 _ rfl
                obtain ⟨zc7, zf7⟩ := LM.out.cells.2 7 _ rfl
                obtain ⟨zc8, zf8⟩ := LM.out.cells.2 8 _ rfl
                obtain ⟨zc9, zf9⟩ := LM.out.cells.2 9 _ rfl
                obtain ⟨zc10, zf10⟩ := LM.out.cells.2 10 _ rfl
                obtain ⟨zc11, zf11⟩ := LM.out.cells.2 11 _ rfl
                replace LM : Hid (LineM w (yE.setCell ⟨w.heap.size, 3, none⟩ (.int .i64 (c : Int))) { d with es := (b : Int), mx := (c : Int) } (.slice pf nf cf) (.slice pq mq cq)) := LM.out.set 3 (.int .i64 (c : Int)) rfl
                go_wp2
                change bodyPost _ _ _ _ _ (LineZ w (yE.setCell ⟨w.heap.size, 3, none⟩ (.int .i64 (c : Int))) { d with es := (b : Int), mx := (c : Int) } (.slice pf nf cf) (.slice pq mq cq))
                refine bodyPost_ret (res_dev2 Tryd.results18 rfl rfl LM.out.res) rfl ?_
                exact LM.out.done st.out (LM.out.old FQ0.out).1 (LM.out.old FQ0.out).2 (.inl rfl) (.inl rfl)
          · have n2 : ((a.length : Int) + 1 != 3) = true := bne_iff_ne.2 (by omega)
            have hm : updM kEsc a = none := mEsc_len h1
            rw [hm] at st
            replace st : Hid (stepM d seen (kEsc :: a) = .error 6) := st
            obtain ⟨dc0, df0⟩ := LM.out.cells.1 0 _ rfl
            obtain ⟨dc1, df1⟩ := LM.out.cells.1 1 _ rfl
            obtain ⟨dc2, df2⟩ := LM.out.cells.1 2 _ rfl
            obtain ⟨dc3, df3⟩ := LM.out.cells.1 3 _ rfl
            obtain ⟨dc4, df4⟩ := LM.out.cells.1 4 _ rfl
            obtain ⟨dc5, df5⟩ := LM.out.cells.1 5 _ rfl
            obtain ⟨dc6, df6⟩ := LM.out.cells.1 6 _ rfl
            obtain ⟨dc7, df7⟩ := LM.out.cells.1 7 _ rfl
            obtain ⟨dc8, df8⟩ := LM.out.cells.1 8 _ rfl
            obtain ⟨dc9, df9⟩ := LM.out.cells.1 9 _ rfl
            obtain ⟨dc10, df10⟩ := LM.out.cells.1 10 _ rfl
            obtain ⟨dc11, df11⟩ := LM.out.cells.1 11 _ rfl
            obtain ⟨zc0, zf0⟩ := LM.out.cells.2 0 _ rfl
            obtain ⟨zc1, zf1⟩ := LM.out.cells.2 1 _ rfl
            obtain ⟨zc2, zf2⟩ := LM.out.cells.2 2 _ rfl
            obtain ⟨zc3, zf3⟩ := LM.out.cells.2 3 _ rfl
            obtain ⟨zc4, zf4⟩ := LM.out.cells.2 4 _ rfl
            obtain ⟨zc5, zf5⟩ := LM.out.cells.2 5 _ rfl
            obtain ⟨zc6, zf6⟩ := LM.out.cells.2 6 _ rfl
            obtain ⟨zc7, zf7⟩ := LM.out.cells.2 7 _ rfl
            obtain ⟨zc8, zf8⟩ := LM.out.cells.2 8 _ rfl
            obtain ⟨zc9, zf9⟩ := LM.out.cells.2 9 _ rfl
            obtain ⟨zc10, zf10⟩ := LM.out.cells.2 10 _ rfl
            obtain ⟨zc11, zf11⟩ := LM.out.cells.2 11 _ rfl
            go_wp2
            change bodyPost _ _ _ _ _ (LineZ w y d (.slice pf nf cf) (.slice pq mq cq))
            refine bodyPost_ret (res_dev2 Tryd.results18 rfl rfl LM.out.res) rfl ?_
            exact LM.out.quit st.out _ rfl
end Go.Proofs.YtagkgneijdbkoaaDoor
/-
  The document's own line, of a first word (layer 8). Conditions: at most 5000 words, of at most 5000 bytes each; as it says.
-/
namespace Go.Proofs.YtagkgneijdbkoaaDoor
open Go.RowKit
set_option linter.unusedVariables false

set_option maxRecDepth 100000 in
set_option maxHeartbeats 8000000 in
theorem line_siz (a : List Wd) (d : Dv) (pf : Option Addr) (nf cf : Nat) (pq : Option Addr) (mq cq : Nat) (g o cap : Nat) (w : World) (hi : StrsIn w g o (kSiz :: a)) (hgw : g < w.heap.size) (hl : (a.length : Int) ≤ 5000) (hz : ∀ z ∈ a, (z.length : Int) ≤ 5000) (ps : Option Addr) (cs : Nat) (seen : List Wd) (hs : StrsAt w (.slice ps seen.length cs) seen) (hsl : (seen.length : Int) ≤ 5000) (hfl : FldsAt w (.slice pf nf cf) d.fs) (hrq : BytesAt w (.slice pq mq cq) d.rq) :
    Calls Tryd.prog 18 #[dvV d (.slice pf nf cf) (.slice pq mq cq), .slice (some ⟨g, o, none⟩) (a.length + 1) cap, .slice ps seen.length cs] w (LineQ w d (.slice pf nf cf) (.slice pq mq cq) seen (kSiz :: a)) := by
  have m0 := lineM_first w d (.slice pf nf cf) (.slice pq mq cq)
  have n0 : ((a.length : Int) + 1 == 0) = false := beq_eq_false_iff_ne.2 (by omega)
  have FQ0 : Hid (FldsAt w (.slice pf nf cf) d.fs ∧ BytesAt w (.slice pq mq cq) d.rq) := ⟨hfl, hrq⟩
  have wi : Hid (StrsIn w g o (kSiz :: a)) := hi
  replace hs : Hid (StrsAt w (.slice ps seen.length cs) seen) := hs
  replace hz : Hid (∀ z ∈ a, (z.length : Int) ≤ 5000) := hz
  obtain ⟨sl, hsl2⟩ : ∃ sl, seen.length = sl := ⟨_, rfl⟩
  rw [hsl2] at hs hsl ⊢
  replace hsl2 : Hid (seen.length = sl) := hsl2
  clear hfl hrq hi
  go_enter Tryd.func18, Tryd.ntmps18
  go_upto_region 5 with fail
  change Code.wp Tryd.prog _ _ _ (LineW w d (.slice pf nf cf) (.slice pq mq cq))
  have LM0 : Hid (LineM w (LineW w d (.slice pf nf cf) (.slice pq mq cq)) d (.slice pf nf cf) (.slice pq mq cq)) := m0.1
  have lc0 : Hid (∀ (i : Nat) (h : i < 11), (LineW w d (.slice pf nf cf) (.slice pq mq cq)).cell? ⟨w.heap.size + 1 + 1, i, none⟩ = some (.string (txt (allK[i]'h)))) := fun i h => (rd_cell m0.2 i).1.trans (allC_at i h)
  have hc0 : (LineW w d (.slice pf nf cf) (.slice pq mq cq)).cell? ⟨g, o, none⟩ = some (.string ⟨#[115, 105, 122, 101]⟩) := kp m0.1.b (wi.out 0 (by simp))
  clear m0
  generalize LineW w d (.slice pf nf cf) (.slice pq mq cq) = x0 at *
  go_wp2
  go_loopw [8, 10] (fun vk vi wr => ∃ n k : Nat, (k : Int) ≤ 11 ∧ wr = x0.drewN n ∧ vi = .int .i64 (k : Int) ∧ vk = .bool (decide (kSiz ∈ allK.take k))) (fun vk vi wr => (11 - intOf vi).toNat)
  case atStart => exact ⟨0, 0, by omega, rfl, rfl, by simp⟩
  case round =>
    obtain ⟨n, k, hk11, rfl, rfl, rfl⟩ := hrel
    by_cases hlt : k < 11
    · have hki : (k : Int) < 11 := by omega
      have st := allK_step kSiz k hlt
      have l1 := lc0.out k hlt
      have wk : IntKind.i64.wrap ((k : Int) + 1) = (k : Int) + 1 := by simp only [IntKind.wrap_i64]; omega
      have cmp : (txt (allK[k]'hlt) == ⟨#[115, 105, 122, 101]⟩) = decide (allK[k]'hlt = kSiz) := txt_beq _ kSiz
      generalize allK[k]'hlt = ak at *
      clear lc0 LM0
      cases hd : decide (kSiz ∈ allK.take k)
      · rw [hd, Bool.false_or] at st
        have c2 : ((txt ak).toList == [115, 105, 122, 101]) = decide (ak = kSiz) := by
          rw [Bool.eq_iff_iff, decide_eq_true_iff, beq_iff_eq, ByteArray.toList_eq]
          exact ⟨fun h => h, fun h => by rw [h]; rfl⟩
        generalize decide (ak = kSiz) = R at *
        go_wp2_with fail
        go_quiet (fail)
        go_wp2
        exact ⟨⟨n + nq, k + 1, by omega, rfl, by simp, by rw [st]⟩, by simp [intOf]; omega⟩
      · rw [hd, Bool.true_or] at st
        go_wp2_with fail
        go_quiet (fail)
        go_wp2
        exact ⟨⟨n + nq, k + 1, by omega, rfl, by simp, by rw [st]⟩, by simp [intOf]; omega⟩
    · obtain rfl : k = 11 := by omega
      rw [allK_mem, show knownB kSiz = true from rfl]
      clear lc0
      go_wp2
      go_loopw [11] (fun vi wr => ∃ n k : Nat, (k : Int) ≤ (sl : Int) ∧ wr = x0.drewN n ∧ vi = .int .i64 (k : Int) ∧ Hid (∀ j (h : j < seen.length), j < k → ¬ seen[j] = kSiz)) (fun vi wr => ((sl : Int) - intOf vi).toNat)
      case atStart => exact ⟨n, 0, by omega, rfl, rfl, fun j _ h => (by cases h)⟩
      case round =>
        obtain ⟨n, k, hk, rfl, rfl, no⟩ := hrel
        by_cases hlt : k < sl
        · have hki : (k : Int) < (sl : Int) := by omega
          have hks : k < seen.length := by have := hsl2.out; omega
          rcases hs.out with ⟨_, hnil⟩ | ⟨gs, os, cs', e1, hin, hgs⟩
          · rw [hnil] at hks; cases hks
          injection e1 with e1 e2 e3
          subst e1
          subst e3
          clear e2
          have l1 := kp LM0.out.b (hin k hks)
          have wk : IntKind.i64.wrap ((k : Int) + 1) = (k : Int) + 1 := by simp only [IntKind.wrap_i64]; omega
          obtain ⟨ak, hak⟩ : ∃ ak, seen[k] = ak := ⟨_, rfl⟩
          rw [hak] at l1
          have cmp : (txt ak == ⟨#[115, 105, 122, 101]⟩) = decide (ak = kSiz) := txt_beq _ kSiz
          have c2 : ((txt ak).toList == [115, 105, 122, 101]) = decide (ak = kSiz) := by
            rw [Bool.eq_iff_iff, decide_eq_true_iff, beq_iff_eq, ByteArray.toList_eq]
            exact ⟨fun h => h, fun h => by rw [h]; rfl⟩
          cases hd : decide (ak = kSiz)
          · rw [hd] at cmp c2
            have no2 : Hid (∀ j (h : j < seen.length), j < k + 1 → ¬ seen[j] = kSiz) := fun j h hj => by
              by_cases hjk : j = k
              · subst hjk; rw [hak]; simpa using hd
              · exact no.out j h (by omega)
            clear hin hak no hd LM0
            go_wp2_with fail
            go_quiet (fail)
            go_wp2
            exact ⟨⟨n + nq, k + 1, by omega, rfl, by simp, no2⟩, by simp [intOf]; omega⟩
          · rw [hd] at cmp c2
            have e8 : Hid (stepM d seen (kSiz :: a) = .error 8) := by
              have hm : kSiz ∈ seen := by
                have : ak = kSiz := by simpa using hd
                rw [← this, ← hak]; exact List.getElem_mem hks
              unfold Hid stepM
              simp only [show knownB kSiz = true from rfl]
              rw [if_neg (by decide), if_pos ⟨by decide, hm⟩]
            clear hin hak no hd
            go_wp2_with fail
            go_quiet (fail)
            go_upto_region 15 with fail
            have LM : Hid (LineM w ((x0.drewN n).drewN nq) d (.slice pf nf cf) (.slice pq mq cq)) := LM0.out.below (below_drewN (below_drewN (Below.refl _ _) _) _)
            generalize (x0.drewN n).drewN nq = y at *
            obtain ⟨dc0, df0⟩ := LM.out.cells.1 0 _ rfl
            obtain ⟨dc1, df1⟩ := LM.out.cells.1 1 _ rfl
            obtain ⟨dc2, df2⟩ := LM.out.cells.1 2 _ rfl
            obtain ⟨dc3, df3⟩ := LM.out.cells.1 3 _ rfl
            obtain ⟨dc4, df4⟩ := LM.out.cells.1 4 _ rfl
            obtain ⟨dc5, df5⟩ := LM.out.cells.1 5 _ rfl
            obtain ⟨dc6, df6⟩ := LM.out.cells.1 6 _ rfl
            obtain ⟨dc7, df7⟩ := LM.out.cells.1 7 _ rfl
            obtain ⟨dc8, df8⟩ := LM.out.cells.1 8 _ rfl
            obtain ⟨dc9, df9⟩ := LM.out.cells.1 9 _ rfl
            obtain ⟨dc10, df10⟩ := LM.out.cells.1 10 _ rfl
            obtain ⟨dc11, df11⟩ := LM.out.cells.1 11 _ rfl
            obtain ⟨zc0, zf0⟩ := LM.out.cells.2 0 _ rfl
            obtain ⟨zc1, zf1⟩ := LM.out.cells.2 1 _ rfl
            obtain ⟨zc2, zf2⟩ := LM.out.cells.2 2 _ rfl
            obtain ⟨zc3, zf3⟩ := LM.out.cells.2 3 _ rfl
            obtain ⟨zc4, zf4⟩ := LM.out.cells.2 4 _ rfl
            obtain ⟨zc5, zf5⟩ := LM.out.cells.2 5 _ rfl
            obtain ⟨zc6, zf6⟩ := LM.out.cells.2 6 _ rfl
            obtain ⟨zc7, zf7⟩ := LM.out.cells.2 7 _ rfl
            obtain ⟨zc8, zf8⟩ := LM.out.cells.2 8 _ rfl
            obtain ⟨zc9, zf9⟩ := LM.out.cells.2 9 _ rfl
            obtain ⟨zc10, zf10⟩ := LM.out.cells.2 10 _ rfl
            obtain ⟨zc11, zf11⟩ := LM.out.cells.2 11 _ rfl
            clear LM0
            go_wp2
            change bodyPost _ _ _ _ _ (put12 y (w.heap.size + 1) (.string (txt d.nm)) (.int .i64 d.st) (.int .i64 d.es) (.int .i64 d.mx) (.int .i64 d.sz) (.string (txt d.sm)) (.slice pf nf cf) (.slice pq mq cq) (.int .i64 d.po) (.int .i64 d.ti) (.int .i64 d.re) (.int .i64 d.ag))
            have pa := put12_at (y := y) LM.out.rc (.string (txt d.nm)) (.int .i64 d.st) (.int .i64 d.es) (.int .i64 d.mx) (.int .i64 d.sz) (.string (txt d.sm)) (.slice pf nf cf) (.slice pq mq cq) (.int .i64 d.po) (.int .i64 d.ti) (.int .i64 d.re) (.int .i64 d.ag)
            have pb := put12_below LM.out.b (show w.heap.size ≤ w.heap.size + 1 by omega) (.string (txt d.nm)) (.int .i64 d.st) (.int .i64 d.es) (.int .i64 d.mx) (.int .i64 d.sz) (.string (txt d.sm)) (.slice pf nf cf) (.slice pq mq cq) (.int .i64 d.po) (.int .i64 d.ti) (.int .i64 d.re) (.int .i64 d.ag)
            generalize put12 y (w.heap.size + 1) (.string (txt d.nm)) (.int .i64 d.st) (.int .i64 d.es) (.int .i64 d.mx) (.int .i64 d.sz) (.string (txt d.sm)) (.slice pf nf cf) (.slice pq mq cq) (.int .i64 d.po) (.int .i64 d.ti) (.int .i64 d.re) (.int .i64 d.ag) = yy at *
            refine bodyPost_ret (res_dev2 Tryd.results18 rfl rfl pa) rfl ?_
            exact ⟨d, pf, nf, cf, pq, mq, cq, by rw [e8.out]; rfl, pb, fun d' hd => by rw [e8.out] at hd; cases hd⟩
        · obtain rfl : k = sl := by omega
          have hns : ¬ kSiz ∈ seen := fun hm => by
            obtain ⟨j, hj, hj2⟩ := List.mem_iff_getElem.1 hm
            exact no.out j hj (by have := hsl2.out; omega) hj2
          have st : Hid (stepM d seen (kSiz :: a) = match updM kSiz a with | none => .error 6 | some u => .ok (u d)) := step_nf rfl (by decide) hns
          have LM : Hid (LineM w (x0.drewN n) d (.slice pf nf cf) (.slice pq mq cq)) := LM0.out.below (below_drewN (Below.refl _ _) _)
          have hcy : (x0.drewN n).cell? ⟨g, o, none⟩ = some (.string ⟨#[115, 105, 122, 101]⟩) := hc0
          generalize x0.drewN n = y at *
          obtain ⟨dc0, df0⟩ := LM.out.cells.1 0 _ rfl
          obtain ⟨dc1, df1⟩ := LM.out.cells.1 1 _ rfl
          obtain ⟨dc2, df2⟩ := LM.out.cells.1 2 _ rfl
          obtain ⟨dc3, df3⟩ := LM.out.cells.1 3 _ rfl
          obtain ⟨dc4, df4⟩ := LM.out.cells.1 4 _ rfl
          obtain ⟨dc5, df5⟩ := LM.out.cells.1 5 _ rfl
          obtain ⟨dc6, df6⟩ := LM.out.cells.1 6 _ rfl
          obtain ⟨dc7, df7⟩ := LM.out.cells.1 7 _ rfl
          obtain ⟨dc8, df8⟩ := LM.out.cells.1 8 _ rfl
          obtain ⟨dc9, df9⟩ := LM.out.cells.1 9 _ rfl
          obtain ⟨dc10, df10⟩ := LM.out.cells.1 10 _ rfl
          obtain ⟨dc11, df11⟩ := LM.out.cells.1 11 _ rfl
          obtain ⟨zc0, zf0⟩ := LM.out.cells.2 0 _ rfl
          obtain ⟨zc1, zf1⟩ := LM.out.cells.2 1 _ rfl
          obtain ⟨zc2, zf2⟩ := LM.out.cells.2 2 _ rfl
          obtain ⟨zc3, zf3⟩ := LM.out.cells.2 3 _ rfl
          obtain ⟨zc4, zf4⟩ := LM.out.cells.2 4 _ rfl
          obtain ⟨zc5, zf5⟩ := LM.out.cells.2 5 _ rfl
          obtain ⟨zc6, zf6⟩ := LM.out.cells.2 6 _ rfl
          obtain ⟨zc7, zf7⟩ := LM.out.cells.2 7 _ rfl
          obtain ⟨zc8, zf8⟩ := LM.out.cells.2 8 _ rfl
          obtain ⟨zc9, zf9⟩ := LM.out.cells.2 9 _ rfl
          obtain ⟨zc10, zf10⟩ := LM.out.cells.2 10 _ rfl
          obtain ⟨zc11, zf11⟩ := LM.out.cells.2 11 _ rfl
          clear LM0 no hns hc0
          by_cases h1 : a.length = 1
          · obtain ⟨z, rfl⟩ := len_one h1
            have hc1 : y.cell? ⟨g, o + 1, none⟩ = some (.string (txt z)) := kp LM.out.b (wi.out 1 (by simp))
            have hz5 := hz.out z (by simp)
            have fn : Hid (∀ w, Calls Tryd.prog 27 #[.string (txt z), .int .i64 1, .int .i64 32] w fun e w' => e = .returned (.tuple #[.int .i64 (numV z 1 32), .bool (numB z 1 32)]) ∧ w' = w) := fun w => rnum_any (txt z) w (by rw [txt_size]; unfold maxLen; omega) _ _
            have hm : updM kSiz [z] = if numB z 1 32 = true then some (fun d => { d with sz := readV z }) else none := rfl
            rw [hm] at st
            cases hN : numB z 1 32
            · rw [hN] at fn st
              replace st : Hid (stepM d seen [kSiz, z] = .error 6) := st
              generalize numV z 1 32 = V at *
              go_wp2_with fail
              refine (fn.out _).mono ?_
              rintro e yA ⟨rfl, rfl⟩
              clear fn
              go_wp2
              change bodyPost _ _ _ _ _ (put12 yA (w.heap.size + 1) (.string (txt d.nm)) (.int .i64 d.st) (.int .i64 d.es) (.int .i64 d.mx) (.int .i64 d.sz) (.string (txt d.sm)) (.slice pf nf cf) (.slice pq mq cq) (.int .i64 d.po) (.int .i64 d.ti) (.int .i64 d.re) (.int .i64 d.ag))
              have pa := put12_at (y := yA) LM.out.rc (.string (txt d.nm)) (.int .i64 d.st) (.int .i64 d.es) (.int .i64 d.mx) (.int .i64 d.sz) (.string (txt d.sm)) (.slice pf nf cf) (.slice pq mq cq) (.int .i64 d.po) (.int .i64 d.ti) (.int .i64 d.re) (.int .i64 d.ag)
              have pb := put12_below LM.out.b (show w.heap.size ≤ w.heap.size + 1 by omega) (.string (txt d.nm)) (.int .i64 d.st) (.int .i64 d.es) (.int .i64 d.mx) (.int .i64 d.sz) (.string (txt d.sm)) (.slice pf nf cf) (.slice pq mq cq) (.int .i64 d.po) (.int .i64 d.ti) (.int .i64 d.re) (.int .i64 d.ag)
              generalize put12 yA (w.heap.size + 1) (.string (txt d.nm)) (.int .i64 d.st) (.int .i64 d.es) (.int .i64 d.mx) (.int .i64 d.sz) (.string (txt d.sm)) (.slice pf nf cf) (.slice pq mq cq) (.int .i64 d.po) (.int .i64 d.ti) (.int .i64 d.re) (.int .i64 d.ag) = yy at *
              refine bodyPost_ret (res_dev2 Tryd.results18 rfl rfl pa) rfl ?_
              exact ⟨d, pf, nf, cf, pq, mq, cq, by rw [st.out]; rfl, pb, fun d' hd => by rw [st.out] at hd; cases hd⟩
            · have nv : numV z 1 32 = readV z := by unfold numV; rw [if_pos hN]
              rw [hN, nv] at fn
              rw [hN] at st
              replace st : Hid (stepM d seen [kSiz, z] = .ok { d with sz := readV z }) := st
              go_wp2_with fail
              refine (fn.out _).mono ?_
              rintro e yA ⟨rfl, rfl⟩
              clear fn
              go_wp2
              have LR : (yA.setCell ⟨w.heap.size, 4, none⟩ (.int .i64 (readV z))).heap[w.heap.size + 1]? = some (.cells dz 36 (0, 0)) := (Below.heap_setCell _ _ _ _ (show w.heap.size + 1 ≠ w.heap.size by omega)).trans LM.out.rc
              have LB : Below w.heap.size w (yA.setCell ⟨w.heap.size, 4, none⟩ (.int .i64 (readV z))) := LM.out.b.setCell (p := ⟨w.heap.size, 4, none⟩) (Nat.le_refl _) _
              generalize (yA.setCell ⟨w.heap.size, 4, none⟩ (.int .i64 (readV z))) = y2 at *
              change bodyPost _ _ _ _ _ (put12 y2 (w.heap.size + 1) (.string (txt d.nm)) (.int .i64 d.st) (.int .i64 d.es) (.int .i64 d.mx) (.int .i64 (readV z)) (.string (txt d.sm)) (.slice pf nf cf) (.slice pq mq cq) (.int .i64 d.po) (.int .i64 d.ti) (.int .i64 d.re) (.int .i64 d.ag))
              have pa := put12_at (y := y2) LR (.string (txt d.nm)) (.int .i64 d.st) (.int .i64 d.es) (.int .i64 d.mx) (.int .i64 (readV z)) (.string (txt d.sm)) (.slice pf nf cf) (.slice pq mq cq) (.int .i64 d.po) (.int .i64 d.ti) (.int .i64 d.re) (.int .i64 d.ag)
              have pb := put12_below LB (show w.heap.size ≤ w.heap.size + 1 by omega) (.string (txt d.nm)) (.int .i64 d.st) (.int .i64 d.es) (.int .i64 d.mx) (.int .i64 (readV z)) (.string (txt d.sm)) (.slice pf nf cf) (.slice pq mq cq) (.int .i64 d.po) (.int .i64 d.ti) (.int .i64 d.re) (.int .i64 d.ag)
              have FQ2 := fq_put FQ0.out LB (show w.heap.size ≤ w.heap.size + 1 by omega) (.string (txt d.nm)) (.int .i64 d.st) (.int .i64 d.es) (.int .i64 d.mx) (.int .i64 (readV z)) (.string (txt d.sm)) (.slice pf nf cf) (.slice pq mq cq) (.int .i64 d.po) (.int .i64 d.ti) (.int .i64 d.re) (.int .i64 d.ag)
              generalize put12 y2 (w.heap.size + 1) (.string (txt d.nm)) (.int .i64 d.st) (.int .i64 d.es) (.int .i64 d.mx) (.int .i64 (readV z)) (.string (txt d.sm)) (.slice pf nf cf) (.slice pq mq cq) (.int .i64 d.po) (.int .i64 d.ti) (.int .i64 d.re) (.int .i64 d.ag) = yy at *
              refine bodyPost_ret (res_dev2 Tryd.results18 rfl rfl pa) rfl ?_
              refine ⟨{ d with sz := readV z }, pf, nf, cf, pq, mq, cq, by rw [st.out]; rfl, pb, fun d' hd => ?_⟩
              rw [st.out] at hd
              cases hd
              exact ⟨rfl, FQ2.1, FQ2.2, .inl rfl, .inl rfl⟩
          · have n2 : ((a.length : Int) + 1 != 2) = true := bne_iff_ne.2 (by omega)
            have hm : updM kSiz a = none := (upd_siz a).trans (mNum_len h1 _ _ _)
            rw [hm] at st
            replace st : Hid (stepM d seen (kSiz :: a) = .error 6) := st
            go_wp2
            change bodyPost _ _ _ _ _ (put12 y (w.heap.size + 1) (.string (txt d.nm)) (.int .i64 d.st) (.int .i64 d.es) (.int .i64 d.mx) (.int .i64 d.sz) (.string (txt d.sm)) (.slice pf nf cf) (.slice pq mq cq) (.int .i64 d.po) (.int .i64 d.ti) (.int .i64 d.re) (.int .i64 d.ag))
            have pa := put12_at (y := y) LM.out.rc (.string (txt d.nm)) (.int .i64 d.st) (.int .i64 d.es) (.int .i64 d.mx) (.int .i64 d.sz) (.string (txt d.sm)) (.slice pf nf cf) (.slice pq mq cq) (.int .i64 d.po) (.int .i64 d.ti) (.int .i64 d.re) (.int .i64 d.ag)
            have pb := put12_below LM.out.b (show w.heap.size ≤ w.heap.size + 1 by omega) (.string (txt d.nm)) (.int .i64 d.st) (.int .i64 d.es) (.int .i64 d.mx) (.int .i64 d.sz) (.string (txt d.sm)) (.slice pf nf cf) (.slice pq mq cq) (.int .i64 d.po) (.int .i64 d.ti) (.int .i64 d.re) (.int .i64 d.ag)
            generalize put12 y (w.heap.size + 1) (.string (txt d.nm)) (.int .i64 d.st) (.int .i64 d.es) (.int .i64 d.mx) (.int .i64 d.sz) (.string (txt d.sm)) (.slice pf nf cf) (.slice pq mq cq) (.int .i64 d.po) (.int .i64 d.ti) (.int .i64 d.re) (.int .i64 d.ag) = yy at *
            refine bodyPost_ret (res_dev2 Tryd.results18 rfl rfl pa) rfl ?_
            exact ⟨d, pf, nf, cf, pq, mq, cq, by rw [st.out]; rfl, pb, fun d' hd => by rw [st.out] at hd; cases hd⟩
end Go.Proofs.YtagkgneijdbkoaaDoor
/-
  The document's own line, of a first word (layer 8). Conditions: at most 5000 words, of at most 5000 bytes each; as it says.
-/
namespace Go.Proofs.YtagkgneijdbkoaaDoor
open Go.RowKit
set_option linter.unusedVariables false

set_option maxRecDepth 100000 in
set_option maxHeartbeats 8000000 in
theorem line_sum (a : List Wd) (d : Dv) (pf : Option Addr) (nf cf : Nat) (pq : Option Addr) (mq cq : Nat) (g o cap : Nat) (w : World) (hi : StrsIn w g o (kSum :: a)) (hgw : g < w.heap.size) (hl : (a.length : Int) ≤ 5000) (hz : ∀ z ∈ a, (z.length : Int) ≤ 5000) (ps : Option Addr) (cs : Nat) (seen : List Wd) (hs : StrsAt w (.slice ps seen.length cs) seen) (hsl : (seen.length : Int) ≤ 5000) (hfl : FldsAt w (.slice pf nf cf) d.fs) (hrq : BytesAt w (.slice pq mq cq) d.rq) :
    Calls Tryd.prog 18 #[dvV d (.slice pf nf cf) (.slice pq mq cq), .slice (some ⟨g, o, none⟩) (a.length + 1) cap, .slice ps seen.length cs] w (LineQ w d (.slice pf nf cf) (.slice pq mq cq) seen (kSum :: a)) := by
  have m0 := lineM_first w d (.slice pf nf cf) (.slice pq mq cq)
  have n0 : ((a.length : Int) + 1 == 0) = false := beq_eq_false_iff_ne.2 (by omega)
  have FQ0 : Hid (FldsAt w (.slice pf nf cf) d.fs ∧ BytesAt w (.slice pq mq cq) d.rq) := ⟨hfl, hrq⟩
  have wi : Hid (StrsIn w g o (kSum :: a)) := hi
  replace hs : Hid (StrsAt w (.slice ps seen.length cs) seen) := hs
  replace hz : Hid (∀ z ∈ a, (z.length : Int) ≤ 5000) := hz
  obtain ⟨sl, hsl2⟩ : ∃ sl, seen.length = sl := ⟨_, rfl⟩
  rw [hsl2] at hs hsl ⊢
  replace hsl2 : Hid (seen.length = sl) := hsl2
  clear hfl hrq hi
  go_enter Tryd.func18, Tryd.ntmps18
  go_upto_region 5 with fail
  change Code.wp Tryd.prog _ _ _ (LineW w d (.slice pf nf cf) (.slice pq mq cq))
  have LM0 : Hid (LineM w (LineW w d (.slice pf nf cf) (.slice pq mq cq)) d (.slice pf nf cf) (.slice pq mq cq)) := m0.1
  have lc0 : Hid (∀ (i : Nat) (h : i < 11), (LineW w d (.slice pf nf cf) (.slice pq mq cq)).cell? ⟨w.heap.size + 1 + 1, i, none⟩ = some (.string (txt (allK[i]'h)))) := fun i h => (rd_cell m0.2 i).1.trans (allC_at i h)
  have hc0 : (LineW w d (.slice pf nf cf) (.slice pq mq cq)).cell? ⟨g, o, none⟩ = some (.string ⟨#[115, 117, 109]⟩) := kp m0.1.b (wi.out 0 (by simp))
  clear m0
  generalize LineW w d (.slice pf nf cf) (.slice pq mq cq) = x0 at *
  go_wp2
  go_loopw [8, 10] (fun vk vi wr => ∃ n k : Nat, (k : Int) ≤ 11 ∧ wr = x0.drewN n ∧ vi = .int .i64 (k : Int) ∧ vk = .bool (decide (kSum ∈ allK.take k))) (fun vk vi wr => (11 - intOf vi).toNat)
  case atStart => exact ⟨0, 0, by omega, rfl, rfl, by simp⟩
  case round =>
    obtain ⟨n, k, hk11, rfl, rfl, rfl⟩ := hrel
    by_cases hlt : k < 11
    · have hki : (k : Int) < 11 := by omega
      have st := allK_step kSum k hlt
      have l1 := lc0.out k hlt
      have wk : IntKind.i64.wrap ((k : Int) + 1) = (k : Int) + 1 := by simp only [IntKind.wrap_i64]; omega
      have cmp : (txt (allK[k]'hlt) == ⟨#[115, 117, 109]⟩) = decide (allK[k]'hlt = kSum) := txt_beq _ kSum
      generalize allK[k]'hlt = ak at *
      clear lc0 LM0
      cases hd : decide (kSum ∈ allK.take k)
      · rw [hd, Bool.false_or] at st
        have c2 : ((txt ak).toList == [115, 117, 109]) = decide (ak = kSum) := by
          rw [Bool.eq_iff_iff, decide_eq_true_iff, beq_iff_eq, ByteArray.toList_eq]
          exact ⟨fun h => h, fun h => by rw [h]; rfl⟩
        generalize decide (ak = kSum) = R at *
        go_wp2_with fail
        go_quiet (fail)
        go_wp2
        exact ⟨⟨n + nq, k + 1, by omega, rfl, by simp, by rw [st]⟩, by simp [intOf]; omega⟩
      · rw [hd, Bool.true_or] at st
        go_wp2_with fail
        go_quiet (fail)
        go_wp2
        exact ⟨⟨n + nq, k + 1, by omega, rfl, by simp, by rw [st]⟩, by simp [intOf]; omega⟩
    · obtain rfl : k = 11 := by omega
      rw [allK_mem, show knownB kSum = true from rfl]
      clear lc0
      go_wp2
      go_loopw [11] (fun vi wr => ∃ n k : Nat, (k : Int) ≤ (sl : Int) ∧ wr = x0.drewN n ∧ vi = .int .i64 (k : Int) ∧ Hid (∀ j (h : j < seen.length), j < k → ¬ seen[j] = kSum)) (fun vi wr => ((sl : Int) - intOf vi).toNat)
      case atStart => exact ⟨n, 0, by omega, rfl, rfl, fun j _ h => (by cases h)⟩
      case round =>
        obtain ⟨n, k, hk, rfl, rfl, no⟩ := hrel
        by_cases hlt : k < sl
        · have hki : (k : Int) < (sl : Int) := by omega
          have hks : k < seen.length := by have := hsl2.out; omega
          rcases hs.out with ⟨_, hnil⟩ | ⟨gs, os, cs', e1, hin, hgs⟩
          · rw [hnil] at hks; cases hks
          injection e1 with e1 e2 e3
          subst e1
          subst e3
          clear e2
          have l1 := kp LM0.out.b (hin k hks)
          have wk : IntKind.i64.wrap ((k : Int) + 1) = (k : Int) + 1 := by simp only [IntKind.wrap_i64]; omega
          obtain ⟨ak, hak⟩ : ∃ ak, seen[k] = ak := ⟨_, rfl⟩
          rw [hak] at l1
          have cmp : (txt ak == ⟨#[115, 117, 109]⟩) = decide (ak = kSum) := txt_beq _ kSum
          have c2 : ((txt ak).toList == [115, 117, 109]) = decide (ak = kSum) := by
            rw [Bool.eq_iff_iff, decide_eq_true_iff, beq_iff_eq, ByteArray.toList_eq]
            exact ⟨fun h => h, fun h => by rw [h]; rfl⟩
          cases hd : decide (ak = kSum)
          · rw [hd] at cmp c2
            have no2 : Hid (∀ j (h : j < seen.length), j < k + 1 → ¬ seen[j] = kSum) := fun j h hj => by
              by_cases hjk : j = k
              · subst hjk; rw [hak]; simpa using hd
              · exact no.out j h (by omega)
            clear hin hak no hd LM0
            go_wp2_with fail
            go_quiet (fail)
            go_wp2
            exact ⟨⟨n + nq, k + 1, by omega, rfl, by simp, no2⟩, by simp [intOf]; omega⟩
          · rw [hd] at cmp c2
            have e8 : Hid (stepM d seen (kSum :: a) = .error 8) := by
              have hm : kSum ∈ seen := by
                have : ak = kSum := by simpa using hd
                rw [← this, ← hak]; exact List.getElem_mem hks
              unfold Hid stepM
              simp only [show knownB kSum = true from rfl]
              rw [if_neg (by decide), if_pos ⟨by decide, hm⟩]
            clear hin hak no hd
            go_wp2_with fail
            go_quiet (fail)
            go_upto_region 15 with fail
            have LM : Hid (LineM w ((x0.drewN n).drewN nq) d (.slice pf nf cf) (.slice pq mq cq)) := LM0.out.below (below_drewN (below_drewN (Below.refl _ _) _) _)
            generalize (x0.drewN n).drewN nq = y at *
            obtain ⟨dc0, df0⟩ := LM.out.cells.1 0 _ rfl
            obtain ⟨dc1, df1⟩ := LM.out.cells.1 1 _ rfl
            obtain ⟨dc2, df2⟩ := LM.out.cells.1 2 _ rfl
            obtain ⟨dc3, df3⟩ := LM.out.cells.1 3 _ rfl
            obtain ⟨dc4, df4⟩ := LM.out.cells.1 4 _ rfl
            obtain ⟨dc5, df5⟩ := LM.out.cells.1 5 _ rfl
            obtain ⟨dc6, df6⟩ := LM.out.cells.1 6 _ rfl
            obtain ⟨dc7, df7⟩ := LM.out.cells.1 7 _ rfl
            obtain ⟨dc8, df8⟩ := LM.out.cells.1 8 _ rfl
            obtain ⟨dc9, df9⟩ := LM.out.cells.1 9 _ rfl
            obtain ⟨dc10, df10⟩ := LM.out.cells.1 10 _ rfl
            obtain ⟨dc11, df11⟩ := LM.out.cells.1 11 _ rfl
            obtain ⟨zc0, zf0⟩ := LM.out.cells.2 0 _ rfl
            obtain ⟨zc1, zf1⟩ := LM.out.cells.2 1 _ rfl
            obtain ⟨zc2, zf2⟩ := LM.out.cells.2 2 _ rfl
            obtain ⟨zc3, zf3⟩ := LM.out.cells.2 3 _ rfl
            obtain ⟨zc4, zf4⟩ := LM.out.cells.2 4 _ rfl
            obtain ⟨zc5, zf5⟩ := LM.out.cells.2 5 _ rfl
            obtain ⟨zc6, zf6⟩ := LM.out.cells.2 6 _ rfl
            obtain ⟨zc7, zf7⟩ := LM.out.cells.2 7 _ rfl
            obtain ⟨zc8, zf8⟩ := LM.out.cells.2 8 _ rfl
            obtain ⟨zc9, zf9⟩ := LM.out.cells.2 9 _ rfl
            obtain ⟨zc10, zf10⟩ := LM.out.cells.2 10 _ rfl
            obtain ⟨zc11, zf11⟩ := LM.out.cells.2 11 _ rfl
            clear LM0
            go_wp2
            change bodyPost _ _ _ _ _ (put12 y (w.heap.size + 1) (.string (txt d.nm)) (.int .i64 d.st) (.int .i64 d.es) (.int .i64 d.mx) (.int .i64 d.sz) (.string (txt d.sm)) (.slice pf nf cf) (.slice pq mq cq) (.int .i64 d.po) (.int .i64 d.ti) (.int .i64 d.re) (.int .i64 d.ag))
            have pa := put12_at (y := y) LM.out.rc (.string (txt d.nm)) (.int .i64 d.st) (.int .i64 d.es) (.int .i64 d.mx) (.int .i64 d.sz) (.string (txt d.sm)) (.slice pf nf cf) (.slice pq mq cq) (.int .i64 d.po) (.int .i64 d.ti) (.int .i64 d.re) (.int .i64 d.ag)
            have pb := put12_below LM.out.b (show w.heap.size ≤ w.heap.size + 1 by omega) (.string (txt d.nm)) (.int .i64 d.st) (.int .i64 d.es) (.int .i64 d.mx) (.int .i64 d.sz) (.string (txt d.sm)) (.slice pf nf cf) (.slice pq mq cq) (.int .i64 d.po) (.int .i64 d.ti) (.int .i64 d.re) (.int .i64 d.ag)
            generalize put12 y (w.heap.size + 1) (.string (txt d.nm)) (.int .i64 d.st) (.int .i64 d.es) (.int .i64 d.mx) (.int .i64 d.sz) (.string (txt d.sm)) (.slice pf nf cf) (.slice pq mq cq) (.int .i64 d.po) (.int .i64 d.ti) (.int .i64 d.re) (.int .i64 d.ag) = yy at *
            refine bodyPost_ret (res_dev2 Tryd.results18 rfl rfl pa) rfl ?_
            exact ⟨d, pf, nf, cf, pq, mq, cq, by rw [e8.out]; rfl, pb, fun d' hd => by rw [e8.out] at hd; cases hd⟩
        · obtain rfl : k = sl := by omega
          have hns : ¬ kSum ∈ seen := fun hm => by
            obtain ⟨j, hj, hj2⟩ := List.mem_iff_getElem.1 hm
            exact no.out j hj (by have := hsl2.out; omega) hj2
          have st : Hid (stepM d seen (kSum :: a) = match updM kSum a with | none => .error 6 | some u => .ok (u d)) := step_nf rfl (by decide) hns
          have LM : Hid (LineM w (x0.drewN n) d (.slice pf nf cf) (.slice pq mq cq)) := LM0.out.below (below_drewN (Below.refl _ _) _)
          have hcy : (x0.drewN n).cell? ⟨g, o, none⟩ = some (.string ⟨#[115, 117, 109]⟩) := hc0
          generalize x0.drewN n = y at *
          obtain ⟨dc0, df0⟩ := LM.out.cells.1 0 _ rfl
          obtain ⟨dc1, df1⟩ := LM.out.cells.1 1 _ rfl
          obtain ⟨dc2, df2⟩ := LM.out.cells.1 2 _ rfl
          obtain ⟨dc3, df3⟩ := LM.out.cells.1 3 _ rfl
          obtain ⟨dc4, df4⟩ := LM.out.cells.1 4 _ rfl
          obtain ⟨dc5, df5⟩ := LM.out.cells.1 5 _ rfl
          obtain ⟨dc6, df6⟩ := LM.out.cells.1 6 _ rfl
          obtain ⟨dc7, df7⟩ := LM.out.cells.1 7 _ rfl
          obtain ⟨dc8, df8⟩ := LM.out.cells.1 8 _ rfl
          obtain ⟨dc9, df9⟩ := LM.out.cells.1 9 _ rfl
          obtain ⟨dc10, df10⟩ := LM.out.cells.1 10 _ rfl
          obtain ⟨dc11, df11⟩ := LM.out.cells.1 11 _ rfl
          obtain ⟨zc0, zf0⟩ := LM.out.cells.2 0 _ rfl
          obtain ⟨zc1, zf1⟩ := LM.out.cells.2 1 _ rfl
          obtain ⟨zc2, zf2⟩ := LM.out.cells.2 2 _ rfl
          obtain ⟨zc3, zf3⟩ := LM.out.cells.2 3 _ rfl
          obtain ⟨zc4, zf4⟩ := LM.out.cells.2 4 _ rfl
          obtain ⟨zc5, zf5⟩ := LM.out.cells.2 5 _ rfl
          obtain ⟨zc6, zf6⟩ := LM.out.cells.2 6 _ rfl
          obtain ⟨zc7, zf7⟩ := LM.out.cells.2 7 _ rfl
          obtain ⟨zc8, zf8⟩ := LM.out.cells.2 8 _ rfl
          obtain ⟨zc9, zf9⟩ := LM.out.cells.2 9 _ rfl
          obtain ⟨zc10, zf10⟩ := LM.out.cells.2 10 _ rfl
          obtain ⟨zc11, zf11⟩ := LM.out.cells.2 11 _ rfl
          clear LM0 no hns hc0
          by_cases h1 : a.length = 1
          · obtain ⟨z, rfl⟩ := len_one h1
            have hc1 : y.cell? ⟨g, o + 1, none⟩ = some (.string (txt z)) := kp LM.out.b (wi.out 1 (by simp))
            have fn : Hid (∀ w, Calls Tryd.prog 29 #[.string (txt z)] w fun e w' => e = .returned (.bool (nameB z)) ∧ w' = w) := fun w => rname_any (txt z) w
            have hm : updM kSum [z] = if nameB z = true then some (fun d => { d with sm := z }) else none := rfl
            rw [hm] at st
            cases hN : nameB z
            · rw [hN] at fn st
              replace st : Hid (stepM d seen [kSum, z] = .error 6) := st
              go_wp2_with fail
              refine (fn.out _).mono ?_
              rintro e yA ⟨rfl, rfl⟩
              clear fn
              go_wp2
              change bodyPost _ _ _ _ _ (put12 yA (w.heap.size + 1) (.string (txt d.nm)) (.int .i64 d.st) (.int .i64 d.es) (.int .i64 d.mx) (.int .i64 d.sz) (.string (txt d.sm)) (.slice pf nf cf) (.slice pq mq cq) (.int .i64 d.po) (.int .i64 d.ti) (.int .i64 d.re) (.int .i64 d.ag))
              have pa := put12_at (y := yA) LM.out.rc (.string (txt d.nm)) (.int .i64 d.st) (.int .i64 d.es) (.int .i64 d.mx) (.int .i64 d.sz) (.string (txt d.sm)) (.slice pf nf cf) (.slice pq mq cq) (.int .i64 d.po) (.int .i64 d.ti) (.int .i64 d.re) (.int .i64 d.ag)
              have pb := put12_below LM.out.b (show w.heap.size ≤ w.heap.size + 1 by omega) (.string (txt d.nm)) (.int .i64 d.st) (.int .i64 d.es) (.int .i64 d.mx) (.int .i64 d.sz) (.string (txt d.sm)) (.slice pf nf cf) (.slice pq mq cq) (.int .i64 d.po) (.int .i64 d.ti) (.int .i64 d.re) (.int .i64 d.ag)
              generalize put12 yA (w.heap.size + 1) (.string (txt d.nm)) (.int .i64 d.st) (.int .i64 d.es) (.int .i64 d.mx) (.int .i64 d.sz) (.string (txt d.sm)) (.slice pf nf cf) (.slice pq mq cq) (.int .i64 d.po) (.int .i64 d.ti) (.int .i64 d.re) (.int .i64 d.ag) = yy at *
              refine bodyPost_ret (res_dev2 Tryd.results18 rfl rfl pa) rfl ?_
              exact ⟨d, pf, nf, cf, pq, mq, cq, by rw [st.out]; rfl, pb, fun d' hd => by rw [st.out] at hd; cases hd⟩
            · rw [hN] at fn st
              replace st : Hid (stepM d seen [kSum, z] = .ok { d with sm := z }) := st
              go_wp2_with fail
              refine (fn.out _).mono ?_
              rintro e yA ⟨rfl, rfl⟩
              clear fn
              go_wp2
              have LR : (yA.setCell ⟨w.heap.size, 5, none⟩ (.string (txt z))).heap[w.heap.size + 1]? = some (.cells dz 36 (0, 0)) := (Below.heap_setCell _ _ _ _ (show w.heap.size + 1 ≠ w.heap.size by omega)).trans LM.out.rc
              have LB : Below w.heap.size w (yA.setCell ⟨w.heap.size, 5, none⟩ (.string (txt z))) := LM.out.b.setCell (p := ⟨w.heap.size, 5, none⟩) (Nat.le_refl _) _
              generalize (yA.setCell ⟨w.heap.size, 5, none⟩ (.string (txt z))) = y2 at *
              change bodyPost _ _ _ _ _ (put12 y2 (w.heap.size + 1) (.string (txt d.nm)) (.int .i64 d.st) (.int .i64 d.es) (.int .i64 d.mx) (.int .i64 d.sz) (.string (txt z)) (.slice pf nf cf) (.slice pq mq cq) (.int .i64 d.po) (.int .i64 d.ti) (.int .i64 d.re) (.int .i64 d.ag))
              have pa := put12_at (y := y2) LR (.string (txt d.nm)) (.int .i64 d.st) (.int .i64 d.es) (.int .i64 d.mx) (.int .i64 d.sz) (.string (txt z)) (.slice pf nf cf) (.slice pq mq cq) (.int .i64 d.po) (.int .i64 d.ti) (.int .i64 d.re) (.int .i64 d.ag)
              have pb := put12_below LB (show w.heap.size ≤ w.heap.size + 1 by omega) (.string (txt d.nm)) (.int .i64 d.st) (.int .i64 d.es) (.int .i64 d.mx) (.int .i64 d.sz) (.string (txt z)) (.slice pf nf cf) (.slice pq mq cq) (.int .i64 d.po) (.int .i64 d.ti) (.int .i64 d.re) (.int .i64 d.ag)
              have FQ2 := fq_put FQ0.out LB (show w.heap.size ≤ w.heap.size + 1 by omega) (.string (txt d.nm)) (.int .i64 d.st) (.int .i64 d.es) (.int .i64 d.mx) (.int .i64 d.sz) (.string (txt z)) (.slice pf nf cf) (.slice pq mq cq) (.int .i64 d.po) (.int .i64 d.ti) (.int .i64 d.re) (.int .i64 d.ag)
              generalize put12 y2 (w.heap.size + 1) (.string (txt d.nm)) (.int .i64 d.st) (.int .i64 d.es) (.int .i64 d.mx) (.int .i64 d.sz) (.string (txt z)) (.slice pf nf cf) (.slice pq mq cq) (.int .i64 d.po) (.int .i64 d.ti) (.int .i64 d.re) (.int .i64 d.ag) = yy at *
              refine bodyPost_ret (res_dev2 Tryd.results18 rfl rfl pa) rfl ?_
              refine ⟨{ d with sm := z }, pf, nf, cf, pq, mq, cq, by rw [st.out]; rfl, pb, fun d' hd => ?_⟩
              rw [st.out] at hd
              cases hd
              exact ⟨rfl, FQ2.1, FQ2.2, .inl rfl, .inl rfl⟩
          · have n2 : ((a.length : Int) + 1 != 2) = true := bne_iff_ne.2 (by omega)
            have hm : updM kSum a = none := mName_len h1 _
            rw [hm] at st
            replace st : Hid (stepM d seen (kSum :: a) = .error 6) := st
            go_wp2
            change bodyPost _ _ _ _ _ (put12 y (w.heap.size + 1) (.string (txt d.nm)) (.int .i64 d.st) (.int .i64 d.es) (.int .i64 d.mx) (.int .i64 d.sz) (.string (txt d.sm)) (.slice pf nf cf) (.slice pq mq cq) (.int .i64 d.po) (.int .i64 d.ti) (.int .i64 d.re) (.int .i64 d.ag))
            have pa := put12_at (y := y) LM.out.rc (.string (txt d.nm)) (.int .i64 d.st) (.int .i64 d.es) (.int .i64 d.mx) (.int .i64 d.sz) (.string (txt d.sm)) (.slice pf nf cf) (.slice pq mq cq) (.int .i64 d.po) (.int .i64 d.ti) (.int .i64 d.re) (.int .i64 d.ag)
            have pb := put12_below LM.out.b (show w.heap.size ≤ w.heap.size + 1 by omega) (.string (txt d.nm)) (.int .i64 d.st) (.int .i64 d.es) (.int .i64 d.mx) (.int .i64 d.sz) (.string (txt d.sm)) (.slice pf nf cf) (.slice pq mq cq) (.int .i64 d.po) (.int .i64 d.ti) (.int .i64 d.re) (.int .i64 d.ag)
            generalize put12 y (w.heap.size + 1) (.string (txt d.nm)) (.int .i64 d.st) (.int .i64 d.es) (.int .i64 d.mx) (.int .i64 d.sz) (.string (txt d.sm)) (.slice pf nf cf) (.slice pq mq cq) (.int .i64 d.po) (.int .i64 d.ti) (.int .i64 d.re) (.int .i64 d.ag) = yy at *
            refine bodyPost_ret (res_dev2 Tryd.results18 rfl rfl pa) rfl ?_
            exact ⟨d, pf, nf, cf, pq, mq, cq, by rw [st.out]; rfl, pb, fun d' hd => by rw [st.out] at hd; cases hd⟩
end Go.Proofs.YtagkgneijdbkoaaDoor
/-
  The document's own line, of a first word (layer 8). Conditions: at most 5000 words, of at most 5000 bytes each; as it says.
-/
namespace Go.Proofs.YtagkgneijdbkoaaDoor
open Go.RowKit
set_option linter.unusedVariables false

def RHx (z : Wd) (R : Option (List Nat)) : Prop := ∀ w, Calls Tryd.prog 31 #[.string (txt z)] w fun e w' => ∃ v, e = .returned (.tuple #[v, .bool R.isSome]) ∧ BytesAt w' v (R.getD []) ∧ Below w.heap.size w w' ∧ ∀ q, v.ownBlock = some q → w.heap.size ≤ q
def ReqE (d : Dv) (seen : List Wd) (z : Wd) (bs : List Nat) : Prop := stepM d seen [kReq, z] = match (if bs.length ≤ 16 then some fun (d : Dv) => { d with rq := bs } else none) with | none => .error 6 | some u => .ok (u d)
set_option maxRecDepth 100000 in
set_option maxHeartbeats 8000000 in
theorem line_req (a : List Wd) (d : Dv) (pf : Option Addr) (nf cf : Nat) (pq : Option Addr) (mq cq : Nat) (g o cap : Nat) (w : World) (hi : StrsIn w g o (kReq :: a)) (hgw : g < w.heap.size) (hl : (a.length : Int) ≤ 5000) (hz : ∀ z ∈ a, (z.length : Int) ≤ 5000) (ps : Option Addr) (cs : Nat) (seen : List Wd) (hs : StrsAt w (.slice ps seen.length cs) seen) (hsl : (seen.length : Int) ≤ 5000) (hfl : FldsAt w (.slice pf nf cf) d.fs) (hrq : BytesAt w (.slice pq mq cq) d.rq) :
    Calls Tryd.prog 18 #[dvV d (.slice pf nf cf) (.slice pq mq cq), .slice (some ⟨g, o, none⟩) (a.length + 1) cap, .slice ps seen.length cs] w (LineQ w d (.slice pf nf cf) (.slice pq mq cq) seen (kReq :: a)) := by
  have m0 := lineM_first w d (.slice pf nf cf) (.slice pq mq cq)
  have n0 : ((a.length : Int) + 1 == 0) = false := beq_eq_false_iff_ne.2 (by omega)
  have FQ0 : Hid (FldsAt w (.slice pf nf cf) d.fs ∧ BytesAt w (.slice pq mq cq) d.rq) := ⟨hfl, hrq⟩
  have wi : Hid (StrsIn w g o (kReq :: a)) := hi
  replace hs : Hid (StrsAt w (.slice ps seen.length cs) seen) := hs
  replace hz : Hid (∀ z ∈ a, (z.length : Int) ≤ 5000) := hz
  obtain ⟨sl, hsl2⟩ : ∃ sl, seen.length = sl := ⟨_, rfl⟩
  rw [hsl2] at hs hsl ⊢
  replace hsl2 : Hid (seen.length = sl) := hsl2
  clear hfl hrq hi
  go_enter Tryd.func18, Tryd.ntmps18
  go_upto_region 5 with fail
  change Code.wp Tryd.prog _ _ _ (LineW w d (.slice pf nf cf) (.slice pq mq cq))
  have LM0 : Hid (LineM w (LineW w d (.slice pf nf cf) (.slice pq mq cq)) d (.slice pf nf cf) (.slice pq mq cq)) := m0.1
  have lc0 : Hid (∀ (i : Nat) (h : i < 11), (LineW w d (.slice pf nf cf) (.slice pq mq cq)).cell? ⟨w.heap.size + 1 + 1, i, none⟩ = some (.string (txt (allK[i]'h)))) := fun i h => (rd_cell m0.2 i).1.trans (allC_at i h)
  have hc0 : (LineW w d (.slice pf nf cf) (.slice pq mq cq)).cell? ⟨g, o, none⟩ = some (.string ⟨#[114, 101, 113, 117, 101, 115, 116]⟩) := kp m0.1.b (wi.out 0 (by simp))
  clear m0
  generalize LineW w d (.slice pf nf cf) (.slice pq mq cq) = x0 at *
  go_wp2
  go_loopw [8, 10] (fun vk vi wr => ∃ n k : Nat, (k : Int) ≤ 11 ∧ wr = x0.drewN n ∧ vi = .int .i64 (k : Int) ∧ vk = .bool (decide (kReq ∈ allK.take k))) (fun vk vi wr => (11 - intOf vi).toNat)
  case atStart => exact ⟨0, 0, by omega, rfl, rfl, by simp⟩
  case round =>
    obtain ⟨n, k, hk11, rfl, rfl, rfl⟩ := hrel
    by_cases hlt : k < 11
    · have hki : (k : Int) < 11 := by omega
      have st := allK_step kReq k hlt
      have l1 := lc0.out k hlt
      have wk : IntKind.i64.wrap ((k : Int) + 1) = (k : Int) + 1 := by simp only [IntKind.wrap_i64]; omega
      have cmp : (txt (allK[k]'hlt) == ⟨#[114, 101, 113, 117, 101, 115, 116]⟩) = decide (allK[k]'hlt = kReq) := txt_beq _ kReq
      generalize allK[k]'hlt = ak at *
      clear lc0 LM0
      cases hd : decide (kReq ∈ allK.take k)
      · rw [hd, Bool.false_or] at st
        have c2 : ((txt ak).toList == [114, 101, 113, 117, 101, 115, 116]) = decide (ak = kReq) := by
          rw [Bool.eq_iff_iff, decide_eq_true_iff, beq_iff_eq, ByteArray.toList_eq]
          exact ⟨fun h => h, fun h => by rw [h]; rfl⟩
        generalize decide (ak = kReq) = R at *
        go_wp2_with fail
        go_quiet (fail)
        go_wp2
        exact ⟨⟨n + nq, k + 1, by omega, rfl, by simp, by rw [st]⟩, by simp [intOf]; omega⟩
      · rw [hd, Bool.true_or] at st
        go_wp2_with fail
        go_quiet (fail)
        go_wp2
        exact ⟨⟨n + nq, k + 1, by omega, rfl, by simp, by rw [st]⟩, by simp [intOf]; omega⟩
    · obtain rfl : k = 11 := by omega
      rw [allK_mem, show knownB kReq = true from rfl]
      clear lc0
      go_wp2
      go_loopw [11] (fun vi wr => ∃ n k : Nat, (k : Int) ≤ (sl : Int) ∧ wr = x0.drewN n ∧ vi = .int .i64 (k : Int) ∧ Hid (∀ j (h : j < seen.length), j < k → ¬ seen[j] = kReq)) (fun vi wr => ((sl : Int) - intOf vi).toNat)
      case atStart => exact ⟨n, 0, by omega, rfl, rfl, fun j _ h => (by cases h)⟩
      case round =>
        obtain ⟨n, k, hk, rfl, rfl, no⟩ := hrel
        by_cases hlt : k < sl
        · have hki : (k : Int) < (sl : Int) := by omega
          have hks : k < seen.length := by have := hsl2.out; omega
          rcases hs.out with ⟨_, hnil⟩ | ⟨gs, os, cs', e1, hin, hgs⟩
          · rw [hnil] at hks; cases hks
          injection e1 with e1 e2 e3
          subst e1
          subst e3
          clear e2
          have l1 := kp LM0.out.b (hin k hks)
          have wk : IntKind.i64.wrap ((k : Int) + 1) = (k : Int) + 1 := by simp only [IntKind.wrap_i64]; omega
          obtain ⟨ak, hak⟩ : ∃ ak, seen[k] = ak := ⟨_, rfl⟩
          rw [hak] at l1
          have cmp : (txt ak == ⟨#[114, 101, 113, 117, 101, 115, 116]⟩) = decide (ak = kReq) := txt_beq _ kReq
          have c2 : ((txt ak).toList == [114, 101, 113, 117, 101, 115, 116]) = decide (ak = kReq) := by
            rw [Bool.eq_iff_iff, decide_eq_true_iff, beq_iff_eq, ByteArray.toList_eq]
            exact ⟨fun h => h, fun h => by rw [h]; rfl⟩
          cases hd : decide (ak = kReq)
          · rw [hd] at cmp c2
            have no2 : Hid (∀ j (h : j < seen.length), j < k + 1 → ¬ seen[j] = kReq) := fun j h hj => by
              by_cases hjk : j = k
              · subst hjk; rw [hak]; simpa using hd
              · exact no.out j h (by omega)
            clear hin hak no hd LM0
            go_wp2_with fail
            go_quiet (fail)
            go_wp2
            exact ⟨⟨n + nq, k + 1, by omega, rfl, by simp, no2⟩, by simp [intOf]; omega⟩
          · rw [hd] at cmp c2
            have e8 : Hid (stepM d seen (kReq :: a) = .error 8) := by
              have hm : kReq ∈ seen := by
                have : ak = kReq := by simpa using hd
                rw [← this, ← hak]; exact List.getElem_mem hks
              unfold Hid stepM
              simp only [show knownB kReq = true from rfl]
              rw [if_neg (by decide), if_pos ⟨by decide, hm⟩]
            clear hin hak no hd
            go_wp2_with fail
            go_quiet (fail)
            go_upto_region 15 with fail
            have LM : Hid (LineM w ((x0.drewN n).drewN nq) d (.slice pf nf cf) (.slice pq mq cq)) := LM0.out.below (below_drewN (below_drewN (Below.refl _ _) _) _)
            generalize (x0.drewN n).drewN nq = y at *
            obtain ⟨dc0, df0⟩ := LM.out.cells.1 0 _ rfl
            obtain ⟨dc1, df1⟩ := LM.out.cells.1 1 _ rfl
            obtain ⟨dc2, df2⟩ := LM.out.cells.1 2 _ rfl
            obtain ⟨dc3, df3⟩ := LM.out.cells.1 3 _ rfl
            obtain ⟨dc4, df4⟩ := LM.out.cells.1 4 _ rfl
            obtain ⟨dc5, df5⟩ := LM.out.cells.1 5 _ rfl
            obtain ⟨dc6, df6⟩ := LM.out.cells.1 6 _ rfl
            obtain ⟨dc7, df7⟩ := LM.out.cells.1 7 _ rfl
            obtain ⟨dc8, df8⟩ := LM.out.cells.1 8 _ rfl
            obtain ⟨dc9, df9⟩ := LM.out.cells.1 9 _ rfl
            obtain ⟨dc10, df10⟩ := LM.out.cells.1 10 _ rfl
            obtain ⟨dc11, df11⟩ := LM.out.cells.1 11 _ rfl
            obtain ⟨zc0, zf0⟩ := LM.out.cells.2 0 _ rfl
            obtain ⟨zc1, zf1⟩ := LM.out.cells.2 1 _ rfl
            obtain ⟨zc2, zf2⟩ := LM.out.cells.2 2 _ rfl
            obtain ⟨zc3, zf3⟩ := LM.out.cells.2 3 _ rfl
            obtain ⟨zc4, zf4⟩ := LM.out.cells.2 4 _ rfl
            obtain ⟨zc5, zf5⟩ := LM.out.cells.2 5 _ rfl
            obtain ⟨zc6, zf6⟩ := LM.out.cells.2 6 _ rfl
            obtain ⟨zc7, zf7⟩ := LM.out.cells.2 7 _ rfl
            obtain ⟨zc8, zf8⟩ := LM.out.cells.2 8 _ rfl
            obtain ⟨zc9, zf9⟩ := LM.out.cells.2 9 _ rfl
            obtain ⟨zc10, zf10⟩ := LM.out.cells.2 10 _ rfl
            obtain ⟨zc11, zf11⟩ := LM.out.cells.2 11 _ rfl
            clear LM0
            go_wp2
            change bodyPost _ _ _ _ _ (put12 y (w.heap.size + 1) (.string (txt d.nm)) (.int .i64 d.st) (.int .i64 d.es) (.int .i64 d.mx) (.int .i64 d.sz) (.string (txt d.sm)) (.slice pf nf cf) (.slice pq mq cq) (.int .i64 d.po) (.int .i64 d.ti) (.int .i64 d.re) (.int .i64 d.ag))
            have pa := put12_at (y := y) LM.out.rc (.string (txt d.nm)) (.int .i64 d.st) (.int .i64 d.es) (.int .i64 d.mx) (.int .i64 d.sz) (.string (txt d.sm)) (.slice pf nf cf) (.slice pq mq cq) (.int .i64 d.po) (.int .i64 d.ti) (.int .i64 d.re) (.int .i64 d.ag)
            have pb := put12_below LM.out.b (show w.heap.size ≤ w.heap.size + 1 by omega) (.string (txt d.nm)) (.int .i64 d.st) (.int .i64 d.es) (.int .i64 d.mx) (.int .i64 d.sz) (.string (txt d.sm)) (.slice pf nf cf) (.slice pq mq cq) (.int .i64 d.po) (.int .i64 d.ti) (.int .i64 d.re) (.int .i64 d.ag)
            generalize put12 y (w.heap.size + 1) (.string (txt d.nm)) (.int .i64 d.st) (.int .i64 d.es) (.int .i64 d.mx) (.int .i64 d.sz) (.string (txt d.sm)) (.slice pf nf cf) (.slice pq mq cq) (.int .i64 d.po) (.int .i64 d.ti) (.int .i64 d.re) (.int .i64 d.ag) = yy at *
            refine bodyPost_ret (res_dev2 Tryd.results18 rfl rfl pa) rfl ?_
            exact ⟨d, pf, nf, cf, pq, mq, cq, by rw [e8.out]; rfl, pb, fun d' hd => by rw [e8.out] at hd; cases hd⟩
        · obtain rfl : k = sl := by omega
          have hns : ¬ kReq ∈ seen := fun hm => by
            obtain ⟨j, hj, hj2⟩ := List.mem_iff_getElem.1 hm
            exact no.out j hj (by have := hsl2.out; omega) hj2
          have st : Hid (stepM d seen (kReq :: a) = match updM kReq a with | none => .error 6 | some u => .ok (u d)) := step_nf rfl (by decide) hns
          have LM : Hid (LineM w (x0.drewN n) d (.slice pf nf cf) (.slice pq mq cq)) := LM0.out.below (below_drewN (Below.refl _ _) _)
          have hcy : (x0.drewN n).cell? ⟨g, o, none⟩ = some (.string ⟨#[114, 101, 113, 117, 101, 115, 116]⟩) := hc0
          generalize x0.drewN n = y at *
          clear LM0 no hns hc0
          by_cases h1 : a.length = 1
          · obtain ⟨z, rfl⟩ := len_one h1
            have hc1 : y.cell? ⟨g, o + 1, none⟩ = some (.string (txt z)) := kp LM.out.b (wi.out 1 (by simp))
            have fo : Hid (RHx z (hexR z)) := fun w => rhex_new (txt z) w (by rw [txt_size]; have := hz.out z (by simp); omega)
            have hm : updM kReq [z] = (hexR z).bind fun b => if b.length ≤ 16 then some fun d => { d with rq := b } else none := rfl
            rw [hm] at st
            cases hO : hexR z with
            | none =>
              rw [hO] at fo st
              replace st : Hid (stepM d seen [kReq, z] = .error 6) := st
              go_wp2_with fail
              refine (fo.out _).mono ?_
              clear fo
              rintro e yA ⟨v, rfl, hv, hb, hnew⟩
              obtain ⟨p2, n2, c2, rfl⟩ := hv.form
              have hyl := LM.out.b.size
              have hrl : w.heap.size + 1 < y.heap.size := (Array.getElem?_eq_some_iff.1 LM.out.rc).1
              replace hv : Hid (BytesAt yA (.slice p2 n2 c2) []) := hv
              replace hnew : Hid (NewP p2 y.heap.size) := fun a ha => hnew a.block (by rw [ha]; rfl)
              replace LM : Hid (LineM w yA d (.slice pf nf cf) (.slice pq mq cq)) := LM.out.below hb
              replace hcy : yA.cell? ⟨g, o, none⟩ = some (.string ⟨#[114, 101, 113, 117, 101, 115, 116]⟩) := kp hb hcy
              replace hc1 : yA.cell? ⟨g, o + 1, none⟩ = some (.string (txt z)) := kp hb hc1
              clear hb
              obtain ⟨dc0, df0⟩ := LM.out.cells.1 0 _ rfl
              obtain ⟨dc1, df1⟩ := LM.out.cells.1 1 _ rfl
              obtain ⟨dc2, df2⟩ := LM.out.cells.1 2 _ rfl
              obtain ⟨dc3, df3⟩ := LM.out.cells.1 3 _ rfl
              obtain ⟨dc4, df4⟩ := LM.out.cells.1 4 _ rfl
              obtain ⟨dc5, df5⟩ := LM.out.cells.1 5 _ rfl
              obtain ⟨dc6, df6⟩ := LM.out.cells.1 6 _ rfl
              obtain ⟨dc7, df7⟩ := LM.out.cells.1 7 _ rfl
              obtain ⟨dc8, df8⟩ := LM.out.cells.1 8 _ rfl
              obtain ⟨dc9, df9⟩ := LM.out.cells.1 9 _ rfl
              obtain ⟨dc10, df10⟩ := LM.out.cells.1 10 _ rfl
              obtain ⟨dc11, df11⟩ := LM.out.cells.1 11 _ rfl
              obtain ⟨zc0, zf0⟩ := LM.out.cells.2 0 _ rfl
              obtain ⟨zc1, zf1⟩ := LM.out.cells.2 1 _ rfl
              obtain ⟨zc2, zf2⟩ := LM.out.cells.2 2 _ rfl
              obtain ⟨zc3, zf3⟩ := LM.out.cells.2 3 _ rfl
              obtain ⟨zc4, zf4⟩ := LM.out.cells.2 4 _ rfl
              obtain ⟨zc5, zf5⟩ := LM.out.cells.2 5 _ rfl
              obtain ⟨zc6, zf6⟩ := LM.out.cells.2 6 _ rfl
              obtain ⟨zc7, zf7⟩ := LM.out.cells.2 7 _ rfl
              obtain ⟨zc8, zf8⟩ := LM.out.cells.2 8 _ rfl
              obtain ⟨zc9, zf9⟩ := LM.out.cells.2 9 _ rfl
              obtain ⟨zc10, zf10⟩ := LM.out.cells.2 10 _ rfl
              obtain ⟨zc11, zf11⟩ := LM.out.cells.2 11 _ rfl
              replace LM : Hid (LineM w (yA.setCell ⟨w.heap.size, 7, none⟩ (.slice p2 n2 c2)) { d with rq := [] } (.slice pf nf cf) (.slice p2 n2 c2)) := LM.out.set 7 (.slice p2 n2 c2) rfl
              go_wp2
              change bodyPost _ _ _ _ _ (LineZ w (yA.setCell ⟨w.heap.size, 7, none⟩ (.slice p2 n2 c2)) { d with rq := [] } (.slice pf nf cf) (.slice p2 n2 c2))
              refine bodyPost_ret (res_dev2 Tryd.results18 rfl rfl LM.out.res) rfl ?_
              exact LM.out.quit st.out _ rfl
            | some bs =>
              rw [hO] at fo st
              replace st : Hid (ReqE d seen z bs) := st
              have hbl : (bs.length : Int) ≤ 5000 := by
                have h5 := hz.out z (by simp)
                have := (hexR_b hO).2
                omega
              go_wp2_with fail
              refine (fo.out _).mono ?_
              clear fo
              rintro e yA ⟨v, rfl, hv, hb, hnew⟩
              obtain ⟨p2, n2, c2, rfl⟩ := hv.form
              have hyl := LM.out.b.size
              have hrl : w.heap.size + 1 < y.heap.size := (Array.getElem?_eq_some_iff.1 LM.out.rc).1
              replace hv : Hid (BytesAt yA (.slice p2 n2 c2) bs) := hv
              replace hnew : Hid (NewP p2 y.heap.size) := fun a ha => hnew a.block (by rw [ha]; rfl)
              replace LM : Hid (LineM w yA d (.slice pf nf cf) (.slice pq mq cq)) := LM.out.below hb
              replace hcy : yA.cell? ⟨g, o, none⟩ = some (.string ⟨#[114, 101, 113, 117, 101, 115, 116]⟩) := kp hb hcy
              replace hc1 : yA.cell? ⟨g, o + 1, none⟩ = some (.string (txt z)) := kp hb hc1
              clear hb
              obtain ⟨dc0, df0⟩ := LM.out.cells.1 0 _ rfl
              obtain ⟨dc1, df1⟩ := LM.out.cells.1 1 _ rfl
              obtain ⟨dc2, df2⟩ := LM.out.cells.1 2 _ rfl
              obtain ⟨dc3, df3⟩ := LM.out.cells.1 3 _ rfl
              obtain ⟨dc4, df4⟩ := LM.out.cells.1 4 _ rfl
              obtain ⟨dc5, df5⟩ := LM.out.cells.1 5 _ rfl
              obtain ⟨dc6, df6⟩ := LM.out.cells.1 6 _ rfl
              obtain ⟨dc7, df7⟩ := LM.out.cells.1 7 _ rfl
              obtain ⟨dc8, df8⟩ := LM.out.cells.1 8 _ rfl
              obtain ⟨dc9, df9⟩ := LM.out.cells.1 9 _ rfl
              obtain ⟨dc10, df10⟩ := LM.out.cells.1 10 _ rfl
              obtain ⟨dc11, df11⟩ := LM.out.cells.1 11 _ rfl
              obtain ⟨zc0, zf0⟩ := LM.out.cells.2 0 _ rfl
              obtain ⟨zc1, zf1⟩ := LM.out.cells.2 1 _ rfl
              obtain ⟨zc2, zf2⟩ := LM.out.cells.2 2 _ rfl
              obtain ⟨zc3, zf3⟩ := LM.out.cells.2 3 _ rfl
              obtain ⟨zc4, zf4⟩ := LM.out.cells.2 4 _ rfl
              obtain ⟨zc5, zf5⟩ := LM.out.cells.2 5 _ rfl
              obtain ⟨zc6, zf6⟩ := LM.out.cells.2 6 _ rfl
              obtain ⟨zc7, zf7⟩ := LM.out.cells.2 7 _ rfl
              obtain ⟨zc8, zf8⟩ := LM.out.cells.2 8 _ rfl
              obtain ⟨zc9, zf9⟩ := LM.out.cells.2 9 _ rfl
              obtain ⟨zc10, zf10⟩ := LM.out.cells.2 10 _ rfl
              obtain ⟨zc11, zf11⟩ := LM.out.cells.2 11 _ rfl
              replace LM : Hid (LineM w (yA.setCell ⟨w.heap.size, 7, none⟩ (.slice p2 n2 c2)) { d with rq := bs } (.slice pf nf cf) (.slice p2 n2 c2)) := LM.out.set 7 (.slice p2 n2 c2) rfl
              have hn : n2 = bs.length := hv.out.len
              have hn5 : (n2 : Int) ≤ 5000 := by omega
              by_cases h16 : bs.length ≤ 16
              · replace st : Hid (stepM d seen [kReq, z] = .ok { d with rq := bs }) := by have h := st.out; unfold ReqE at h; rw [if_pos h16] at h; exact h
                have n16 : (n2 : Int) ≤ 16 := by omega
                clear hn h16 hbl hO
                have BZ : Hid (BytesAt (LineZ w (yA.setCell ⟨w.heap.size, 7, none⟩ (.slice p2 n2 c2)) { d with rq := bs } (.slice pf nf cf) (.slice p2 n2 c2)) (.slice p2 n2 c2) bs) := by
                  refine BytesAt.z ?_ (fun a ha => by have := hnew.out a ha; omega) LineZ.size
                  exact hv.out.set (fun a ha => by have := hnew.out a ha; omega)
                go_wp2
                change bodyPost _ _ _ _ _ (LineZ w (yA.setCell ⟨w.heap.size, 7, none⟩ (.slice p2 n2 c2)) { d with rq := bs } (.slice pf nf cf) (.slice p2 n2 c2))
                refine bodyPost_ret (res_dev2 Tryd.results18 rfl rfl LM.out.res) rfl ?_
                exact LM.out.done st.out (LM.out.old FQ0.out).1 BZ.out (.inl rfl) (hnew.out.b hyl)
              · replace st : Hid (stepM d seen [kReq, z] = .error 6) := by have h := st.out; unfold ReqE at h; rw [if_neg h16] at h; exact h
                have n16 : (16 : Int) < (n2 : Int) := by omega
                clear hn h16 hbl hO
                go_wp2
                change bodyPost _ _ _ _ _ (LineZ w (yA.setCell ⟨w.heap.size, 7, none⟩ (.slice p2 n2 c2)) { d with rq := bs } (.slice pf nf cf) (.slice p2 n2 c2))
                refine bodyPost_ret (res_dev2 Tryd.results18 rfl rfl LM.out.res) rfl ?_
                exact LM.out.quit st.out _ rfl
          · have n2 : ((a.length : Int) + 1 != 2) = true := bne_iff_ne.2 (by omega)
            have hm : updM kReq a = none := mReq_len h1
            rw [hm] at st
            replace st : Hid (stepM d seen (kReq :: a) = .error 6) := st
            obtain ⟨dc0, df0⟩ := LM.out.cells.1 0 _ rfl
            obtain ⟨dc1, df1⟩ := LM.out.cells.1 1 _ rfl
            obtain ⟨dc2, df2⟩ := LM.out.cells.1 2 _ rfl
            obtain ⟨dc3, df3⟩ := LM.out.cells.1 3 _ rfl
            obtain ⟨dc4, df4⟩ := LM.out.cells.1 4 _ rfl
            obtain ⟨dc5, df5⟩ := LM.out.cells.1 5 _ rfl
            obtain ⟨dc6, df6⟩ := LM.out.cells.1 6 _ rfl
            obtain ⟨dc7, df7⟩ := LM.out.cells.1 7 _ rfl
            obtain ⟨dc8, df8⟩ := LM.out.cells.1 8 _ rfl
            obtain ⟨dc9, df9⟩ := LM.out.cells.1 9 _ rfl
            obtain ⟨dc10, df10⟩ := LM.out.cells.1 10 _ rfl
            obtain ⟨dc11, df11⟩ := LM.out.cells.1 11 _ rfl
            obtain ⟨zc0, zf0⟩ := LM.out.cells.2 0 _ rfl
            obtain ⟨zc1, zf1⟩ := LM.out.cells.2 1 _ rfl
            obtain ⟨zc2, zf2⟩ := LM.out.cells.2 2 _ rfl
            obtain ⟨zc3, zf3⟩ := LM.out.cells.2 3 _ rfl
            obtain ⟨zc4, zf4⟩ := LM.out.cells.2 4 _ rfl
            obtain ⟨zc5, zf5⟩ := LM.out.cells.2 5 _ rfl
            obtain ⟨zc6, zf6⟩ := LM.out.cells.2 6 _ rfl
            obtain ⟨zc7, zf7⟩ := LM.out.cells.2 7 _ rfl
            obtain ⟨zc8, zf8⟩ := LM.out.cells.2 8 _ rfl
            obtain ⟨zc9, zf9⟩ := LM.out.cells.2 9 _ rfl
            obtain ⟨zc10, zf10⟩ := LM.out.cells.2 10 _ rfl
            obtain ⟨zc11, zf11⟩ := LM.out.cells.2 11 _ rfl
            go_wp2
            change bodyPost _ _ _ _ _ (LineZ w y d (.slice pf nf cf) (.slice pq mq cq))
            refine bodyPost_ret (res_dev2 Tryd.results18 rfl rfl LM.out.res) rfl ?_
            exact LM.out.quit st.out _ rfl
end Go.Proofs.YtagkgneijdbkoaaDoor
/-
  The document's own line, of a first word (layer 8). Conditions: at most 5000 words, of at most 5000 bytes each; as it says.
-/
namespace Go.Proofs.YtagkgneijdbkoaaDoor
open Go.RowKit
set_option linter.unusedVariables false

set_option maxRecDepth 100000 in
set_option maxHeartbeats 8000000 in
theorem line_pol (a : List Wd) (d : Dv) (pf : Option Addr) (nf cf : Nat) (pq : Option Addr) (mq cq : Nat) (g o cap : Nat) (w : World) (hi : StrsIn w g o (kPol :: a)) (hgw : g < w.heap.size) (hl : (a.length : Int) ≤ 5000) (hz : ∀ z ∈ a, (z.length : Int) ≤ 5000) (ps : Option Addr) (cs : Nat) (seen : List Wd) (hs : StrsAt w (.slice ps seen.length cs) seen) (hsl : (seen.length : Int) ≤ 5000) (hfl : FldsAt w (.slice pf nf cf) d.fs) (hrq : BytesAt w (.slice pq mq cq) d.rq) :
    Calls Tryd.prog 18 #[dvV d (.slice pf nf cf) (.slice pq mq cq), .slice (some ⟨g, o, none⟩) (a.length + 1) cap, .slice ps seen.length cs] w (LineQ w d (.slice pf nf cf) (.slice pq mq cq) seen (kPol :: a)) := by
  have m0 := lineM_first w d (.slice pf nf cf) (.slice pq mq cq)
  have n0 : ((a.length : Int) + 1 == 0) = false := beq_eq_false_iff_ne.2 (by omega)
  have FQ0 : Hid (FldsAt w (.slice pf nf cf) d.fs ∧ BytesAt w (.slice pq mq cq) d.rq) := ⟨hfl, hrq⟩
  have wi : Hid (StrsIn w g o (kPol :: a)) := hi
  replace hs : Hid (StrsAt w (.slice ps seen.length cs) seen) := hs
  replace hz : Hid (∀ z ∈ a, (z.length : Int) ≤ 5000) := hz
  obtain ⟨sl, hsl2⟩ : ∃ sl, seen.length = sl := ⟨_, rfl⟩
  rw [hsl2] at hs hsl ⊢
  replace hsl2 : Hid (seen.length = sl) := hsl2
  clear hfl hrq hi
  go_enter Tryd.func18, Tryd.ntmps18
  go_upto_region 5 with fail
  change Code.wp Tryd.prog _ _ _ (LineW w d (.slice pf nf cf) (.slice pq mq cq))
  have LM0 : Hid (LineM w (LineW w d (.slice pf nf cf) (.slice pq mq cq)) d (.slice pf nf cf) (.slice pq mq cq)) := m0.1
  have lc0 : Hid (∀ (i : Nat) (h : i < 11), (LineW w d (.slice pf nf cf) (.slice pq mq cq)).cell? ⟨w.heap.size + 1 + 1, i, none⟩ = some (.string (txt (allK[i]'h)))) := fun i h => (rd_cell m0.2 i).1.trans (allC_at i h)
  have hc0 : (LineW w d (.slice pf nf cf) (.slice pq mq cq)).cell? ⟨g, o, none⟩ = some (.string ⟨#[112, 111, 108, 108]⟩) := kp m0.1.b (wi.out 0 (by simp))
  clear m0
  generalize LineW w d (.slice pf nf cf) (.slice pq mq cq) = x0 at *
  go_wp2
  go_loopw [8, 10] (fun vk vi wr => ∃ n k : Nat, (k : Int) ≤ 11 ∧ wr = x0.drewN n ∧ vi = .int .i64 (k : Int) ∧ vk = .bool (decide (kPol ∈ allK.take k))) (fun vk vi wr => (11 - intOf vi).toNat)
  case atStart => exact ⟨0, 0, by omega, rfl, rfl, by simp⟩
  case round =>
    obtain ⟨n, k, hk11, rfl, rfl, rfl⟩ := hrel
    by_cases hlt : k < 11
    · have hki : (k : Int) < 11 := by omega
      have st := allK_step kPol k hlt
      have l1 := lc0.out k hlt
      have wk : IntKind.i64.wrap ((k : Int) + 1) = (k : Int) + 1 := by simp only [IntKind.wrap_i64]; omega
      have cmp : (txt (allK[k]'hlt) == ⟨#[112, 111, 108, 108]⟩) = decide (allK[k]'hlt = kPol) := txt_beq _ kPol
      generalize allK[k]'hlt = ak at *
      clear lc0 LM0
      cases hd : decide (kPol ∈ allK.take k)
      · rw [hd, Bool.false_or] at st
        have c2 : ((txt ak).toList == [112, 111, 108, 108]) = decide (ak = kPol) := by
          rw [Bool.eq_iff_iff, decide_eq_true_iff, beq_iff_eq, ByteArray.toList_eq]
          exact ⟨fun h => h, fun h => by rw [h]; rfl⟩
        generalize decide (ak = kPol) = R at *
        go_wp2_with fail
        go_quiet (fail)
        go_wp2
        exact ⟨⟨n + nq, k + 1, by omega, rfl, by simp, by rw [st]⟩, by simp [intOf]; omega⟩
      · rw [hd, Bool.true_or] at st
        go_wp2_with fail
        go_quiet (fail)
        go_wp2
        exact ⟨⟨n + nq, k + 1, by omega, rfl, by simp, by rw [st]⟩, by simp [intOf]; omega⟩
    · obtain rfl : k = 11 := by omega
      rw [allK_mem, show knownB kPol = true from rfl]
      clear lc0
      go_wp2
      go_loopw [11] (fun vi wr => ∃ n k : Nat, (k : Int) ≤ (sl : Int) ∧ wr = x0.drewN n ∧ vi = .int .i64 (k : Int) ∧ Hid (∀ j (h : j < seen.length), j < k → ¬ seen[j] = kPol)) (fun vi wr => ((sl : Int) - intOf vi).toNat)
      case atStart => exact ⟨n, 0, by omega, rfl, rfl, fun j _ h => (by cases h)⟩
      case round =>
        obtain ⟨n, k, hk, rfl, rfl, no⟩ := hrel
        by_cases hlt : k < sl
        · have hki : (k : Int) < (sl : Int) := by omega
          have hks : k < seen.length := by have := hsl2.out; omega
          rcases hs.out with ⟨_, hnil⟩ | ⟨gs, os, cs', e1, hin, hgs⟩
          · rw [hnil] at hks; cases hks
          injection e1 with e1 e2 e3
          subst e1
          subst e3
          clear e2
          have l1 := kp LM0.out.b (hin k hks)
          have wk : IntKind.i64.wrap ((k : Int) + 1) = (k : Int) + 1 := by simp only [IntKind.wrap_i64]; omega
          obtain ⟨ak, hak⟩ : ∃ ak, seen[k] = ak := ⟨_, rfl⟩
          rw [hak] at l1
          have cmp : (txt ak == ⟨#[112, 111, 108, 108]⟩) = decide (ak = kPol) := txt_beq _ kPol
          have c2 : ((txt ak).toList == [112, 111, 108, 108]) = decide (ak = kPol) := by
            rw [Bool.eq_iff_iff, decide_eq_true_iff, beq_iff_eq, ByteArray.toList_eq]
            exact ⟨fun h => h, fun h => by rw [h]; rfl⟩
          cases hd : decide (ak = kPol)
          · rw [hd] at cmp c2
            have no2 : Hid (∀ j (h : j < seen.length), j < k + 1 → ¬ seen[j] = kPol) := fun j h hj => by
              by_cases hjk : j = k
              · subst hjk; rw [hak]; simpa using hd
              · exact no.out j h (by omega)
            clear hin hak no hd LM0
            go_wp2_with fail
            go_quiet (fail)
            go_wp2
            exact ⟨⟨n + nq, k + 1, by omega, rfl, by simp, no2⟩, by simp [intOf]; omega⟩
          · rw [hd] at cmp c2
            have e8 : Hid (stepM d seen (kPol :: a) = .error 8) := by
              have hm : kPol ∈ seen := by
                have : ak = kPol := by simpa using hd
                rw [← this, ← hak]; exact List.getElem_mem hks
              unfold Hid stepM
              simp only [show knownB kPol = true from rfl]
              rw [if_neg (by decide), if_pos ⟨by decide, hm⟩]
            clear hin hak no hd
            go_wp2_with fail
            go_quiet (fail)
            go_upto_region 15 with fail
            have LM : Hid (LineM w ((x0.drewN n).drewN nq) d (.slice pf nf cf) (.slice pq mq cq)) := LM0.out.below (below_drewN (below_drewN (Below.refl _ _) _) _)
            generalize (x0.drewN n).drewN nq = y at *
            obtain ⟨dc0, df0⟩ := LM.out.cells.1 0 _ rfl
            obtain ⟨dc1, df1⟩ := LM.out.cells.1 1 _ rfl
            obtain ⟨dc2, df2⟩ := LM.out.cells.1 2 _ rfl
            obtain ⟨dc3, df3⟩ := LM.out.cells.1 3 _ rfl
            obtain ⟨dc4, df4⟩ := LM.out.cells.1 4 _ rfl
            obtain ⟨dc5, df5⟩ := LM.out.cells.1 5 _ rfl
            obtain ⟨dc6, df6⟩ := LM.out.cells.1 6 _ rfl
            obtain ⟨dc7, df7⟩ := LM.out.cells.1 7 _ rfl
            obtain ⟨dc8, df8⟩ := LM.out.cells.1 8 _ rfl
            obtain ⟨dc9, df9⟩ := LM.out.cells.1 9 _ rfl
            obtain ⟨dc10, df10⟩ := LM.out.cells.1 10 _ rfl
            obtain ⟨dc11, df11⟩ := LM.out.cells.1 11 _ rfl
            obtain ⟨zc0, zf0⟩ := LM.out.cells.2 0 _ rfl
            obtain ⟨zc1, zf1⟩ := LM.out.cells.2 1 _ rfl
            obtain ⟨zc2, zf2⟩ := LM.out.cells.2 2 _ rfl
            obtain ⟨zc3, zf3⟩ := LM.out.cells.2 3 _ rfl
            obtain ⟨zc4, zf4⟩ := LM.out.cells.2 4 _ rfl
            obtain ⟨zc5, zf5⟩ := LM.out.cells.2 5 _ rfl
            obtain ⟨zc6, zf6⟩ := LM.out.cells.2 6 _ rfl
            obtain ⟨zc7, zf7⟩ := LM.out.cells.2 7 _ rfl
            obtain ⟨zc8, zf8⟩ := LM.out.cells.2 8 _ rfl
            obtain ⟨zc9, zf9⟩ := LM.out.cells.2 9 _ rfl
            obtain ⟨zc10, zf10⟩ := LM.out.cells.2 10 _ rfl
            obtain ⟨zc11, zf11⟩ := LM.out.cells.2 11 _ rfl
            clear LM0
            go_wp2
            change bodyPost _ _ _ _ _ (put12 y (w.heap.size + 1) (.string (txt d.nm)) (.int .i64 d.st) (.int .i64 d.es) (.int .i64 d.mx) (.int .i64 d.sz) (.string (txt d.sm)) (.slice pf nf cf) (.slice pq mq cq) (.int .i64 d.po) (.int .i64 d.ti) (.int .i64 d.re) (.int .i64 d.ag))
            have pa := put12_at (y := y) LM.out.rc (.string (txt d.nm)) (.int .i64 d.st) (.int .i64 d.es) (.int .i64 d.mx) (.int .i64 d.sz) (.string (txt d.sm)) (.slice pf nf cf) (.slice pq mq cq) (.int .i64 d.po) (.int .i64 d.ti) (.int .i64 d.re) (.int .i64 d.ag)
            have pb := put12_below LM.out.b (show w.heap.size ≤ w.heap.size + 1 by omega) (.string (txt d.nm)) (.int .i64 d.st) (.int .i64 d.es) (.int .i64 d.mx) (.int .i64 d.sz) (.string (txt d.sm)) (.slice pf nf cf) (.slice pq mq cq) (.int .i64 d.po) (.int .i64 d.ti) (.int .i64 d.re) (.int .i64 d.ag)
            generalize put12 y (w.heap.size + 1) (.string (txt d.nm)) (.int .i64 d.st) (.int .i64 d.es) (.int .i64 d.mx) (.int .i64 d.sz) (.string (txt d.sm)) (.slice pf nf cf) (.slice pq mq cq) (.int .i64 d.po) (.int .i64 d.ti) (.int .i64 d.re) (.int .i64 d.ag) = yy at *
            refine bodyPost_ret (res_dev2 Tryd.results18 rfl rfl pa) rfl ?_
            exact ⟨d, pf, nf, cf, pq, mq, cq, by rw [e8.out]; rfl, pb, fun d' hd => by rw [e8.out] at hd; cases hd⟩
        · obtain rfl : k = sl := by omega
          have hns : ¬ kPol ∈ seen := fun hm => by
            obtain ⟨j, hj, hj2⟩ := List.mem_iff_getElem.1 hm
            exact no.out j hj (by have := hsl2.out; omega) hj2
          have st : Hid (stepM d seen (kPol :: a) = match updM kPol a with | none => .error 6 | some u => .ok (u d)) := step_nf rfl (by decide) hns
          have LM : Hid (LineM w (x0.drewN n) d (.slice pf nf cf) (.slice pq mq cq)) := LM0.out.below (below_drewN (Below.refl _ _) _)
          have hcy : (x0.drewN n).cell? ⟨g, o, none⟩ = some (.string ⟨#[112, 111, 108, 108]⟩) := hc0
          generalize x0.drewN n = y at *
          obtain ⟨dc0, df0⟩ := LM.out.cells.1 0 _ rfl
          obtain ⟨dc1, df1⟩ := LM.out.cells.1 1 _ rfl
          obtain ⟨dc2, df2⟩ := LM.out.cells.1 2 _ rfl
          obtain ⟨dc3, df3⟩ := LM.out.cells.1 3 _ rfl
          obtain ⟨dc4, df4⟩ := LM.out.cells.1 4 _ rfl
          obtain ⟨dc5, df5⟩ := LM.out.cells.1 5 _ rfl
          obtain ⟨dc6, df6⟩ := LM.out.cells.1 6 _ rfl
          obtain ⟨dc7, df7⟩ := LM.out.cells.1 7 _ rfl
          obtain ⟨dc8, df8⟩ := LM.out.cells.1 8 _ rfl
          obtain ⟨dc9, df9⟩ := LM.out.cells.1 9 _ rfl
          obtain ⟨dc10, df10⟩ := LM.out.cells.1 10 _ rfl
          obtain ⟨dc11, df11⟩ := LM.out.cells.1 11 _ rfl
          obtain ⟨zc0, zf0⟩ := LM.out.cells.2 0 _ rfl
          obtain ⟨zc1, zf1⟩ := LM.out.cells.2 1 _ rfl
          obtain ⟨zc2, zf2⟩ := LM.out.cells.2 2 _ rfl
          obtain ⟨zc3, zf3⟩ := LM.out.cells.2 3 _ rfl
          obtain ⟨zc4, zf4⟩ := LM.out.cells.2 4 _ rfl
          obtain ⟨zc5, zf5⟩ := LM.out.cells.2 5 _ rfl
          obtain ⟨zc6, zf6⟩ := LM.out.cells.2 6 _ rfl
          obtain ⟨zc7, zf7⟩ := LM.out.cells.2 7 _ rfl
          obtain ⟨zc8, zf8⟩ := LM.out.cells.2 8 _ rfl
          obtain ⟨zc9, zf9⟩ := LM.out.cells.2 9 _ rfl
          obtain ⟨zc10, zf10⟩ := LM.out.cells.2 10 _ rfl
          obtain ⟨zc11, zf11⟩ := LM.out.cells.2 11 _ rfl
          clear LM0 no hns hc0
          by_cases h1 : a.length = 1
          · obtain ⟨z, rfl⟩ := len_one h1
            have hc1 : y.cell? ⟨g, o + 1, none⟩ = some (.string (txt z)) := kp LM.out.b (wi.out 1 (by simp))
            have hz5 := hz.out z (by simp)
            have fn : Hid (∀ w, Calls Tryd.prog 27 #[.string (txt z), .int .i64 1, .int .i64 1000] w fun e w' => e = .returned (.tuple #[.int .i64 (numV z 1 1000), .bool (numB z 1 1000)]) ∧ w' = w) := fun w => rnum_any (txt z) w (by rw [txt_size]; unfold maxLen; omega) _ _
            have hm : updM kPol [z] = if numB z 1 1000 = true then some (fun d => { d with po := readV z }) else none := rfl
            rw [hm] at st
            cases hN : numB z 1 1000
            · rw [hN] at fn st
              replace st : Hid (stepM d seen [kPol, z] = .error 6) := st
              generalize numV z 1 1000 = V at *
              go_wp2_with fail
              refine (fn.out _).mono ?_
              rintro e yA ⟨rfl, rfl⟩
              clear fn
              go_wp2
              change bodyPost _ _ _ _ _ (put12 yA (w.heap.size + 1) (.string (txt d.nm)) (.int .i64 d.st) (.int .i64 d.es) (.int .i64 d.mx) (.int .i64 d.sz) (.string (txt d.sm)) (.slice pf nf cf) (.slice pq mq cq) (.int .i64 d.po) (.int .i64 d.ti) (.int .i64 d.re) (.int .i64 d.ag))
              have pa := put12_at (y := yA) LM.out.rc (.string (txt d.nm)) (.int .i64 d.st) (.int .i64 d.es) (.int .i64 d.mx) (.int .i64 d.sz) (.string (txt d.sm)) (.slice pf nf cf) (.slice pq mq cq) (.int .i64 d.po) (.int .i64 d.ti) (.int .i64 d.re) (.int .i64 d.ag)
              have pb := put12_below LM.out.b (show w.heap.size ≤ w.heap.size + 1 by omega) (.string (txt d.nm)) (.int .i64 d.st) (.int .i64 d.es) (.int .i64 d.mx) (.int .i64 d.sz) (.string (txt d.sm)) (.slice pf nf cf) (.slice pq mq cq) (.int .i64 d.po) (.int .i64 d.ti) (.int .i64 d.re) (.int .i64 d.ag)
              generalize put12 yA (w.heap.size + 1) (.string (txt d.nm)) (.int .i64 d.st) (.int .i64 d.es) (.int .i64 d.mx) (.int .i64 d.sz) (.string (txt d.sm)) (.slice pf nf cf) (.slice pq mq cq) (.int .i64 d.po) (.int .i64 d.ti) (.int .i64 d.re) (.int .i64 d.ag) = yy at *
              refine bodyPost_ret (res_dev2 Tryd.results18 rfl rfl pa) rfl ?_
              exact ⟨d, pf, nf, cf, pq, mq, cq, by rw [st.out]; rfl, pb, fun d' hd => by rw [st.out] at hd; cases hd⟩
            · have nv : numV z 1 1000 = readV z := by unfold numV; rw [if_pos hN]
              rw [hN, nv] at fn
              rw [hN] at st
              replace st : Hid (stepM d seen [kPol, z] = .ok { d with po := readV z }) := st
              go_wp2_with fail
              refine (fn.out _).mono ?_
              rintro e yA ⟨rfl, rfl⟩
              clear fn
              go_wp2
              have LR : (yA.setCell ⟨w.heap.size, 8, none⟩ (.int .i64 (readV z))).heap[w.heap.size + 1]? = some (.cells dz 36 (0, 0)) := (Below.heap_setCell _ _ _ _ (show w.heap.size + 1 ≠ w.heap.size by omega)).trans LM.out.rc
              have LB : Below w.heap.size w (yA.setCell ⟨w.heap.size, 8, none⟩ (.int .i64 (readV z))) := LM.out.b.setCell (p := ⟨w.heap.size, 8, none⟩) (Nat.le_refl _) _
              generalize (yA.setCell ⟨w.heap.size, 8, none⟩ (.int .i64 (readV z))) = y2 at *
              change bodyPost _ _ _ _ _ (put12 y2 (w.heap.size + 1) (.string (txt d.nm)) (.int .i64 d.st) (.int .i64 d.es) (.int .i64 d.mx) (.int .i64 d.sz) (.string (txt d.sm)) (.slice pf nf cf) (.slice pq mq cq) (.int .i64 (readV z)) (.int .i64 d.ti) (.int .i64 d.re) (.int .i64 d.ag))
              have pa := put12_at (y := y2) LR (.string (txt d.nm)) (.int .i64 d.st) (.int .i64 d.es) (.int .i64 d.mx) (.int .i64 d.sz) (.string (txt d.sm)) (.slice pf nf cf) (.slice pq mq cq) (.int .i64 (readV z)) (.int .i64 d.ti) (.int .i64 d.re) (.int .i64 d.ag)
              have pb := put12_below LB (show w.heap.size ≤ w.heap.size + 1 by omega) (.string (txt d.nm)) (.int .i64 d.st) (.int .i64 d.es) (.int .i64 d.mx) (.int .i64 d.sz) (.string (txt d.sm)) (.slice pf nf cf) (.slice pq mq cq) (.int .i64 (readV z)) (.int .i64 d.ti) (.int .i64 d.re) (.int .i64 d.ag)
              have FQ2 := fq_put FQ0.out LB (show w.heap.size ≤ w.heap.size + 1 by omega) (.string (txt d.nm)) (.int .i64 d.st) (.int .i64 d.es) (.int .i64 d.mx) (.int .i64 d.sz) (.string (txt d.sm)) (.slice pf nf cf) (.slice pq mq cq) (.int .i64 (readV z)) (.int .i64 d.ti) (.int .i64 d.re) (.int .i64 d.ag)
              generalize put12 y2 (w.heap.size + 1) (.string (txt d.nm)) (.int .i64 d.st) (.int .i64 d.es) (.int .i64 d.mx) (.int .i64 d.sz) (.string (txt d.sm)) (.slice pf nf cf) (.slice pq mq cq) (.int .i64 (readV z)) (.int .i64 d.ti) (.int .i64 d.re) (.int .i64 d.ag) = yy at *
              refine bodyPost_ret (res_dev2 Tryd.results18 rfl rfl pa) rfl ?_
              refine ⟨{ d with po := readV z }, pf, nf, cf, pq, mq, cq, by rw [st.out]; rfl, pb, fun d' hd => ?_⟩
              rw [st.out] at hd
              cases hd
              exact ⟨rfl, FQ2.1, FQ2.2, .inl rfl, .inl rfl⟩
          · have n2 : ((a.length : Int) + 1 != 2) = true := bne_iff_ne.2 (by omega)
            have hm : updM kPol a = none := (upd_pol a).trans (mNum_len h1 _ _ _)
            rw [hm] at st
            replace st : Hid (stepM d seen (kPol :: a) = .error 6) := st
            go_wp2
            change bodyPost _ _ _ _ _ (put12 y (w.heap.size + 1) (.string (txt d.nm)) (.int .i64 d.st) (.int .i64 d.es) (.int .i64 d.mx) (.int .i64 d.sz) (.string (txt d.sm)) (.slice pf nf cf) (.slice pq mq cq) (.int .i64 d.po) (.int .i64 d.ti) (.int .i64 d.re) (.int .i64 d.ag))
            have pa := put12_at (y := y) LM.out.rc (.string (txt d.nm)) (.int .i64 d.st) (.int .i64 d.es) (.int .i64 d.mx) (.int .i64 d.sz) (.string (txt d.sm)) (.slice pf nf cf) (.slice pq mq cq) (.int .i64 d.po) (.int .i64 d.ti) (.int .i64 d.re) (.int .i64 d.ag)
            have pb := put12_below LM.out.b (show w.heap.size ≤ w.heap.size + 1 by omega) (.string (txt d.nm)) (.int .i64 d.st) (.int .i64 d.es) (.int .i64 d.mx) (.int .i64 d.sz) (.string (txt d.sm)) (.slice pf nf cf) (.slice pq mq cq) (.int .i64 d.po) (.int .i64 d.ti) (.int .i64 d.re) (.int .i64 d.ag)
            generalize put12 y (w.heap.size + 1) (.string (txt d.nm)) (.int .i64 d.st) (.int .i64 d.es) (.int .i64 d.mx) (.int .i64 d.sz) (.string (txt d.sm)) (.slice pf nf cf) (.slice pq mq cq) (.int .i64 d.po) (.int .i64 d.ti) (.int .i64 d.re) (.int .i64 d.ag) = yy at *
            refine bodyPost_ret (res_dev2 Tryd.results18 rfl rfl pa) rfl ?_
            exact ⟨d, pf, nf, cf, pq, mq, cq, by rw [st.out]; rfl, pb, fun d' hd => by rw [st.out] at hd; cases hd⟩
end Go.Proofs.YtagkgneijdbkoaaDoor
/-
  The document's own line, of a first word (layer 8). Conditions: at most 5000 words, of at most 5000 bytes each; as it says.
-/
namespace Go.Proofs.YtagkgneijdbkoaaDoor
open Go.RowKit
set_option linter.unusedVariables false

set_option maxRecDepth 100000 in
set_option maxHeartbeats 8000000 in
theorem line_tim (a : List Wd) (d : Dv) (pf : Option Addr) (nf cf : Nat) (pq : Option Addr) (mq cq : Nat) (g o cap : Nat) (w : World) (hi : StrsIn w g o (kTim :: a)) (hgw : g < w.heap.size) (hl : (a.length : Int) ≤ 5000) (hz : ∀ z ∈ a, (z.length : Int) ≤ 5000) (ps : Option Addr) (cs : Nat) (seen : List Wd) (hs : StrsAt w (.slice ps seen.length cs) seen) (hsl : (seen.length : Int) ≤ 5000) (hfl : FldsAt w (.slice pf nf cf) d.fs) (hrq : BytesAt w (.slice pq mq cq) d.rq) :
    Calls Tryd.prog 18 #[dvV d (.slice pf nf cf) (.slice pq mq cq), .slice (some ⟨g, o, none⟩) (a.length + 1) cap, .slice ps seen.length cs] w (LineQ w d (.slice pf nf cf) (.slice pq mq cq) seen (kTim :: a)) := by
  have m0 := lineM_first w d (.slice pf nf cf) (.slice pq mq cq)
  have n0 : ((a.length : Int) + 1 == 0) = false := beq_eq_false_iff_ne.2 (by omega)
  have FQ0 : Hid (FldsAt w (.slice pf nf cf) d.fs ∧ BytesAt w (.slice pq mq cq) d.rq) := ⟨hfl, hrq⟩
  have wi : Hid (StrsIn w g o (kTim :: a)) := hi
  replace hs : Hid (StrsAt w (.slice ps seen.length cs) seen) := hs
  replace hz : Hid (∀ z ∈ a, (z.length : Int) ≤ 5000) := hz
  obtain ⟨sl, hsl2⟩ : ∃ sl, seen.length = sl := ⟨_, rfl⟩
  rw [hsl2] at hs hsl ⊢
  replace hsl2 : Hid (seen.length = sl) := hsl2
  clear hfl hrq hi
  go_enter Tryd.func18, Tryd.ntmps18
  go_upto_region 5 with fail
  change Code.wp Tryd.prog _ _ _ (LineW w d (.slice pf nf cf) (.slice pq mq cq))
  have LM0 : Hid (LineM w (LineW w d (.slice pf nf cf) (.slice pq mq cq)) d (.slice pf nf cf) (.slice pq mq cq)) := m0.1
  have lc0 : Hid (∀ (i : Nat) (h : i < 11), (LineW w d (.slice pf nf cf) (.slice pq mq cq)).cell? ⟨w.heap.size + 1 + 1, i, none⟩ = some (.string (txt (allK[i]'h)))) := fun i h => (rd_cell m0.2 i).1.trans (allC_at i h)
  have hc0 : (LineW w d (.slice pf nf cf) (.slice pq mq cq)).cell? ⟨g, o, none⟩ = some (.string ⟨#[116, 105, 109, 101, 111, 117, 116]⟩) := kp m0.1.b (wi.out 0 (by simp))
  clear m0
  generalize LineW w d (.slice pf nf cf) (.slice pq mq cq) = x0 at *
  go_wp2
  go_loopw [8, 10] (fun vk vi wr => ∃ n k : Nat, (k : Int) ≤ 11 ∧ wr = x0.drewN n ∧ vi = .int .i64 (k : Int) ∧ vk = .bool (decide (kTim ∈ allK.take k))) (fun vk vi wr => (11 - intOf vi).toNat)
  case atStart => exact ⟨0, 0, by omega, rfl, rfl, by simp⟩
  case round =>
    obtain ⟨n, k, hk11, rfl, rfl, rfl⟩ := hrel
    by_cases hlt : k < 11
    · have hki : (k : Int) < 11 := by omega
      have st := allK_step kTim k hlt
      have l1 := lc0.out k hlt
      have wk : IntKind.i64.wrap ((k : Int) + 1) = (k : Int) + 1 := by simp only [IntKind.wrap_i64]; omega
      have cmp : (txt (allK[k]'hlt) == ⟨#[116, 105, 109, 101, 111, 117, 116]⟩) = decide (allK[k]'hlt = kTim) := txt_beq _ kTim
      generalize allK[k]'hlt = ak at *
      clear lc0 LM0
      cases hd : decide (kTim ∈ allK.take k)
      · rw [hd, Bool.false_or] at st
        have c2 : ((txt ak).toList == [116, 105, 109, 101, 111, 117, 116]) = decide (ak = kTim) := by
          rw [Bool.eq_iff_iff, decide_eq_true_iff, beq_iff_eq, ByteArray.toList_eq]
          exact ⟨fun h => h, fun h => by rw [h]; rfl⟩
        generalize decide (ak = kTim) = R at *
        go_wp2_with fail
        go_quiet (fail)
        go_wp2
        exact ⟨⟨n + nq, k + 1, by omega, rfl, by simp, by rw [st]⟩, by simp [intOf]; omega⟩
      · rw [hd, Bool.true_or] at st
        go_wp2_with fail
        go_quiet (fail)
        go_wp2
        exact ⟨⟨n + nq, k + 1, by omega, rfl, by simp, by rw [st]⟩, by simp [intOf]; omega⟩
    · obtain rfl : k = 11 := by omega
      rw [allK_mem, show knownB kTim = true from rfl]
      clear lc0
      go_wp2
      go_loopw [11] (fun vi wr => ∃ n k : Nat, (k : Int) ≤ (sl : Int) ∧ wr = x0.drewN n ∧ vi = .int .i64 (k : Int) ∧ Hid (∀ j (h : j < seen.length), j < k → ¬ seen[j] = kTim)) (fun vi wr => ((sl : Int) - intOf vi).toNat)
      case atStart => exact ⟨n, 0, by omega, rfl, rfl, fun j _ h => (by cases h)⟩
      case round =>
        obtain ⟨n, k, hk, rfl, rfl, no⟩ := hrel
        by_cases hlt : k < sl
        · have hki : (k : Int) < (sl : Int) := by omega
          have hks : k < seen.length := by have := hsl2.out; omega
          rcases hs.out with ⟨_, hnil⟩ | ⟨gs, os, cs', e1, hin, hgs⟩
          · rw [hnil] at hks; cases hks
          injection e1 with e1 e2 e3
          subst e1
          subst e3
          clear e2
          have l1 := kp LM0.out.b (hin k hks)
          have wk : IntKind.i64.wrap ((k : Int) + 1) = (k : Int) + 1 := by simp only [IntKind.wrap_i64]; omega
          obtain ⟨ak, hak⟩ : ∃ ak, seen[k] = ak := ⟨_, rfl⟩
          rw [hak] at l1
          have cmp : (txt ak == ⟨#[116, 105, 109, 101, 111, 117, 116]⟩) = decide (ak = kTim) := txt_beq _ kTim
          have c2 : ((txt ak).toList == [116, 105, 109, 101, 111, 117, 116]) = decide (ak = kTim) := by
            rw [Bool.eq_iff_iff, decide_eq_true_iff, beq_iff_eq, ByteArray.toList_eq]
            exact ⟨fun h => h, fun h => by rw [h]; rfl⟩
          cases hd : decide (ak = kTim)
          · rw [hd] at cmp c2
            have no2 : Hid (∀ j (h : j < seen.length), j < k + 1 → ¬ seen[j] = kTim) := fun j h hj => by
              by_cases hjk : j = k
              · subst hjk; rw [hak]; simpa using hd
              · exact no.out j h (by omega)
            clear hin hak no hd LM0
            go_wp2_with fail
            go_quiet (fail)
            go_wp2
            exact ⟨⟨n + nq, k + 1, by omega, rfl, by simp, no2⟩, by simp [intOf]; omega⟩
          · rw [hd] at cmp c2
            have e8 : Hid (stepM d seen (kTim :: a) = .error 8) := by
              have hm : kTim ∈ seen := by
                have : ak = kTim := by simpa using hd
                rw [← this, ← hak]; exact List.getElem_mem hks
              unfold Hid stepM
              simp only [show knownB kTim = true from rfl]
              rw [if_neg (by decide), if_pos ⟨by decide, hm⟩]
            clear hin hak no hd
            go_wp2_with fail
            go_quiet (fail)
            go_upto_region 15 with fail
            have LM : Hid (LineM w ((x0.drewN n).drewN nq) d (.slice pf nf cf) (.slice pq mq cq)) := LM0.out.below (below_drewN (below_drewN (Below.refl _ _) _) _)
            generalize (x0.drewN n).drewN nq = y at *
            obtain ⟨dc0, df0⟩ := LM.out.cells.1 0 _ rfl
            obtain ⟨dc1, df1⟩ := LM.out.cells.1 1 _ rfl
            obtain ⟨dc2, df2⟩ := LM.out.cells.1 2 _ rfl
            obtain ⟨dc3, df3⟩ := LM.out.cells.1 3 _ rfl
            obtain ⟨dc4, df4⟩ := LM.out.cells.1 4 _ rfl
            obtain ⟨dc5, df5⟩ := LM.out.cells.1 5 _ rfl
            obtain ⟨dc6, df6⟩ := LM.out.cells.1 6 _ rfl
            obtain ⟨dc7, df7⟩ := LM.out.cells.1 7 _ rfl
            obtain ⟨dc8, df8⟩ := LM.out.cells.1 8 _ rfl
            obtain ⟨dc9, df9⟩ := LM.out.cells.1 9 _ rfl
            obtain ⟨dc10, df10⟩ := LM.out.cells.1 10 _ rfl
            obtain ⟨dc11, df11⟩ := LM.out.cells.1 11 _ rfl
            obtain ⟨zc0, zf0⟩ := LM.out.cells.2 0 _ rfl
            obtain ⟨zc1, zf1⟩ := LM.out.cells.2 1 _ rfl
            obtain ⟨zc2, zf2⟩ := LM.out.cells.2 2 _ rfl
            obtain ⟨zc3, zf3⟩ := LM.out.cells.2 3 _ rfl
            obtain ⟨zc4, zf4⟩ := LM.out.cells.2 4 _ rfl
            obtain ⟨zc5, zf5⟩ := LM.out.cells.2 5 _ rfl
            obtain ⟨zc6, zf6⟩ := LM.out.cells.2 6 _ rfl
            obtain ⟨zc7, zf7⟩ := LM.out.cells.2 7 _ rfl
            obtain ⟨zc8, zf8⟩ := LM.out.cells.2 8 _ rfl
            obtain ⟨zc9, zf9⟩ := LM.out.cells.2 9 _ rfl
            obtain ⟨zc10, zf10⟩ := LM.out.cells.2 10 _ rfl
            obtain ⟨zc11, zf11⟩ := LM.out.cells.2 11 _ rfl
            clear LM0
            go_wp2
            change bodyPost _ _ _ _ _ (put12 y (w.heap.size + 1) (.string (txt d.nm)) (.int .i64 d.st) (.int .i64 d.es) (.int .i64 d.mx) (.int .i64 d.sz) (.string (txt d.sm)) (.slice pf nf cf) (.slice pq mq cq) (.int .i64 d.po) (.int .i64 d.ti) (.int .i64 d.re) (.int .i64 d.ag))
            have pa := put12_at (y := y) LM.out.rc (.string (txt d.nm)) (.int .i64 d.st) (.int .i64 d.es) (.int .i64 d.mx) (.int .i64 d.sz) (.string (txt d.sm)) (.slice pf nf cf) (.slice pq mq cq) (.int .i64 d.po) (.int .i64 d.ti) (.int .i64 d.re) (.int .i64 d.ag)
            have pb := put12_below LM.out.b (show w.heap.size ≤ w.heap.size + 1 by omega) (.string (txt d.nm)) (.int .i64 d.st) (.int .i64 d.es) (.int .i64 d.mx) (.int .i64 d.sz) (.string (txt d.sm)) (.slice pf nf cf) (.slice pq mq cq) (.int .i64 d.po) (.int .i64 d.ti) (.int .i64 d.re) (.int .i64 d.ag)
            generalize put12 y (w.heap.size + 1) (.string (txt d.nm)) (.int .i64 d.st) (.int .i64 d.es) (.int .i64 d.mx) (.int .i64 d.sz) (.string (txt d.sm)) (.slice pf nf cf) (.slice pq mq cq) (.int .i64 d.po) (.int .i64 d.ti) (.int .i64 d.re) (.int .i64 d.ag) = yy at *
            refine bodyPost_ret (res_dev2 Tryd.results18 rfl rfl pa) rfl ?_
            exact ⟨d, pf, nf, cf, pq, mq, cq, by rw [e8.out]; rfl, pb, fun d' hd => by rw [e8.out] at hd; cases hd⟩
        · obtain rfl : k = sl := by omega
          have hns : ¬ kTim ∈ seen := fun hm => by
            obtain ⟨j, hj, hj2⟩ := List.mem_iff_getElem.1 hm
            exact no.out j hj (by have := hsl2.out; omega) hj2
          have st : Hid (stepM d seen (kTim :: a) = match updM kTim a with | none => .error 6 | some u => .ok (u d)) := step_nf rfl (by decide) hns
          have LM : Hid (LineM w (x0.drewN n) d (.slice pf nf cf) (.slice pq mq cq)) := LM0.out.below (below_drewN (Below.refl _ _) _)
          have hcy : (x0.drewN n).cell? ⟨g, o, none⟩ = some (.string ⟨#[116, 105, 109, 101, 111, 117, 116]⟩) := hc0
          generalize x0.drewN n = y at *
          obtain ⟨dc0, df0⟩ := LM.out.cells.1 0 _ rfl
          obtain ⟨dc1, df1⟩ := LM.out.cells.1 1 _ rfl
          obtain ⟨dc2, df2⟩ := LM.out.cells.1 2 _ rfl
          obtain ⟨dc3, df3⟩ := LM.out.cells.1 3 _ rfl
          obtain ⟨dc4, df4⟩ := LM.out.cells.1 4 _ rfl
          obtain ⟨dc5, df5⟩ := LM.out.cells.1 5 _ rfl
          obtain ⟨dc6, df6⟩ := LM.out.cells.1 6 _ rfl
          obtain ⟨dc7, df7⟩ := LM.out.cells.1 7 _ rfl
          obtain ⟨dc8, df8⟩ := LM.out.cells.1 8 _ rfl
          obtain ⟨dc9, df9⟩ := LM.out.cells.1 9 _ rfl
          obtain ⟨dc10, df10⟩ := LM.out.cells.1 10 _ rfl
          obtain ⟨dc11, df11⟩ := LM.out.cells.1 11 _ rfl
          obtain ⟨zc0, zf0⟩ := LM.out.cells.2 0 _ rfl
          obtain ⟨zc1, zf1⟩ := LM.out.cells.2 1 _ rfl
          obtain ⟨zc2, zf2⟩ := LM.out.cells.2 2 _ rfl
          obtain ⟨zc3, zf3⟩ := LM.out.cells.2 3 _ rfl
          obtain ⟨zc4, zf4⟩ := LM.out.cells.2 4 _ rfl
          obtain ⟨zc5, zf5⟩ := LM.out.cells.2 5 _ rfl
          obtain ⟨zc6, zf6⟩ := LM.out.cells.2 6 _ rfl
          obtain ⟨zc7, zf7⟩ := LM.out.cells.2 7 _ rfl
          obtain ⟨zc8, zf8⟩ := LM.out.cells.2 8 _ rfl
          obtain ⟨zc9, zf9⟩ := LM.out.cells.2 9 _ rfl
          obtain ⟨zc10, zf10⟩ := LM.out.cells.2 10 _ rfl
          obtain ⟨zc11, zf11⟩ := LM.out.cells.2 11 _ rfl
          clear LM0 no hns hc0
          by_cases h1 : a.length = 1
          · obtain ⟨z, rfl⟩ := len_one h1
            have hc1 : y.cell? ⟨g, o + 1, none⟩ = some (.string (txt z)) := kp LM.out.b (wi.out 1 (by simp))
            have hz5 := hz.out z (by simp)
            have fn : Hid (∀ w, Calls Tryd.prog 27 #[.string (txt z), .int .i64 1, .int .i64 1000] w fun e w' => e = .returned (.tuple #[.int .i64 (numV z 1 1000), .bool (numB z 1 1000)]) ∧ w' = w) := fun w => rnum_any (txt z) w (by rw [txt_size]; unfold maxLen; omega) _ _
            have hm : updM kTim [z] = if numB z 1 1000 = true then some (fun d => { d with ti := readV z }) else none := rfl
            rw [hm] at st
            cases hN : numB z 1 1000
            · rw [hN] at fn st
              replace st : Hid (stepM d seen [kTim, z] = .error 6) := st
              generalize numV z 1 1000 = V at *
              go_wp2_with fail
              refine (fn.out _).mono ?_
              rintro e yA ⟨rfl, rfl⟩
              clear fn
              go_wp2
              change bodyPost _ _ _ _ _ (put12 yA (w.heap.size + 1) (.string (txt d.nm)) (.int .i64 d.st) (.int .i64 d.es) (.int .i64 d.mx) (.int .i64 d.sz) (.string (txt d.sm)) (.slice pf nf cf) (.slice pq mq cq) (.int .i64 d.po) (.int .i64 d.ti) (.int .i64 d.re) (.int .i64 d.ag))
              have pa := put12_at (y := yA) LM.out.rc (.string (txt d.nm)) (.int .i64 d.st) (.int .i64 d.es) (.int .i64 d.mx) (.int .i64 d.sz) (.string (txt d.sm)) (.slice pf nf cf) (.slice pq mq cq) (.int .i64 d.po) (.int .i64 d.ti) (.int .i64 d.re) (.int .i64 d.ag)
              have pb := put12_below LM.out.b (show w.heap.size ≤ w.heap.size + 1 by omega) (.string (txt d.nm)) (.int .i64 d.st) (.int .i64 d.es) (.int .i64 d.mx) (.int .i64 d.sz) (.string (txt d.sm)) (.slice pf nf cf) (.slice pq mq cq) (.int .i64 d.po) (.int .i64 d.ti) (.int .i64 d.re) (.int .i64 d.ag)
              generalize put12 yA (w.heap.size + 1) (.string (txt d.nm)) (.int .i64 d.st) (.int .i64 d.es) (.int .i64 d.mx) (.int .i64 d.sz) (.string (txt d.sm)) (.slice pf nf cf) (.slice pq mq cq) (.int .i64 d.po) (.int .i64 d.ti) (.int .i64 d.re) (.int .i64 d.ag) = yy at *
              refine bodyPost_ret (res_dev2 Tryd.results18 rfl rfl pa) rfl ?_
              exact ⟨d, pf, nf, cf, pq, mq, cq, by rw [st.out]; rfl, pb, fun d' hd => by rw [st.out] at hd; cases hd⟩
            · have nv : numV z 1 1000 = readV z := by unfold numV; rw [if_pos hN]
              rw [hN, nv] at fn
              rw [hN] at st
              replace st : Hid (stepM d seen [kTim, z] = .ok { d with ti := readV z }) := st
              go_wp2_with fail
              refine (fn.out _).mono ?_
              rintro e yA ⟨rfl, rfl⟩
              clear fn
              go_wp2
              have LR : (yA.setCell ⟨w.heap.size, 9, none⟩ (.int .i64 (readV z))).heap[w.heap.size + 1]? = some (.cells dz 36 (0, 0)) := (Below.heap_setCell _ _ _ _ (show w.heap.size + 1 ≠ w.heap.size by omega)).trans LM.out.rc
              have LB : Below w.heap.size w (yA.setCell ⟨w.heap.size, 9, none⟩ (.int .i64 (readV z))) := LM.out.b.setCell (p := ⟨w.heap.size, 9, none⟩) (Nat.le_refl _) _
              generalize (yA.setCell ⟨w.heap.size, 9, none⟩ (.int .i64 (readV z))) = y2 at *
              change bodyPost _ _ _ _ _ (put12 y2 (w.heap.size + 1) (.string (txt d.nm)) (.int .i64 d.st) (.int .i64 d.es) (.int .i64 d.mx) (.int .i64 d.sz) (.string (txt d.sm)) (.slice pf nf cf) (.slice pq mq cq) (.int .i64 d.po) (.int .i64 (readV z)) (.int .i64 d.re) (.int .i64 d.ag))
              have pa := put12_at (y := y2) LR (.string (txt d.nm)) (.int .i64 d.st) (.int .i64 d.es) (.int .i64 d.mx) (.int .i64 d.sz) (.string (txt d.sm)) (.slice pf nf cf) (.slice pq mq cq) (.int .i64 d.po) (.int .i64 (readV z)) (.int .i64 d.re) (.int .i64 d.ag)
              have pb := put12_below LB (show w.heap.size ≤ w.heap.size + 1 by omega) (.string (txt d.nm)) (.int .i64 d.st) (.int .i64 d.es) (.int .i64 d.mx) (.int .i64 d.sz) (.string (txt d.sm)) (.slice pf nf cf) (.slice pq mq cq) (.int .i64 d.po) (.int .i64 (readV z)) (.int .i64 d.re) (.int .i64 d.ag)
              have FQ2 := fq_put FQ0.out LB (show w.heap.size ≤ w.heap.size + 1 by omega) (.string (txt d.nm)) (.int .i64 d.st) (.int .i64 d.es) (.int .i64 d.mx) (.int .i64 d.sz) (.string (txt d.sm)) (.slice pf nf cf) (.slice pq mq cq) (.int .i64 d.po) (.int .i64 (readV z)) (.int .i64 d.re) (.int .i64 d.ag)
              generalize put12 y2 (w.heap.size + 1) (.string (txt d.nm)) (.int .i64 d.st) (.int .i64 d.es) (.int .i64 d.mx) (.int .i64 d.sz) (.string (txt d.sm)) (.slice pf nf cf) (.slice pq mq cq) (.int .i64 d.po) (.int .i64 (readV z)) (.int .i64 d.re) (.int .i64 d.ag) = yy at *
              refine bodyPost_ret (res_dev2 Tryd.results18 rfl rfl pa) rfl ?_
              refine ⟨{ d with ti := readV z }, pf, nf, cf, pq, mq, cq, by rw [st.out]; rfl, pb, fun d' hd => ?_⟩
              rw [st.out] at hd
              cases hd
              exact ⟨rfl, FQ2.1, FQ2.2, .inl rfl, .inl rfl⟩
          · have n2 : ((a.length : Int) + 1 != 2) = true := bne_iff_ne.2 (by omega)
            have hm : updM kTim a = none := (upd_tim a).trans (mNum_len h1 _ _ _)
            rw [hm] at st
            replace st : Hid (stepM d seen (kTim :: a) = .error 6) := st
            go_wp2
            change bodyPost _ _ _ _ _ (put12 y (w.heap.size + 1) (.string (txt d.nm)) (.int .i64 d.st) (.int .i64 d.es) (.int .i64 d.mx) (.int .i64 d.sz) (.string (txt d.sm)) (.slice pf nf cf) (.slice pq mq cq) (.int .i64 d.po) (.int .i64 d.ti) (.int .i64 d.re) (.int .i64 d.ag))
            have pa := put12_at (y := y) LM.out.rc (.string (txt d.nm)) (.int .i64 d.st) (.int .i64 d.es) (.int .i64 d.mx) (.int .i64 d.sz) (.string (txt d.sm)) (.slice pf nf cf) (.slice pq mq cq) (.int .i64 d.po) (.int .i64 d.ti) (.int .i64 d.re) (.int .i64 d.ag)
            have pb := put12_below LM.out.b (show w.heap.size ≤ w.heap.size + 1 by omega) (.string (txt d.nm)) (.int .i64 d.st) (.int .i64 d.es) (.int .i64 d.mx) (.int .i64 d.sz) (.string (txt d.sm)) (.slice pf nf cf) (.slice pq mq cq) (.int .i64 d.po) (.int .i64 d.ti) (.int .i64 d.re) (.int .i64 d.ag)
            generalize put12 y (w.heap.size + 1) (.string (txt d.nm)) (.int .i64 d.st) (.int .i64 d.es) (.int .i64 d.mx) (.int .i64 d.sz) (.string (txt d.sm)) (.slice pf nf cf) (.slice pq mq cq) (.int .i64 d.po) (.int .i64 d.ti) (.int .i64 d.re) (.int .i64 d.ag) = yy at *
            refine bodyPost_ret (res_dev2 Tryd.results18 rfl rfl pa) rfl ?_
            exact ⟨d, pf, nf, cf, pq, mq, cq, by rw [st.out]; rfl, pb, fun d' hd => by rw [st.out] at hd; cases hd⟩
end Go.Proofs.YtagkgneijdbkoaaDoor
/-
  The document's own line, of a first word (layer 8). Conditions: at most 5000 words, of at most 5000 bytes each; as it says.
-/
namespace Go.Proofs.YtagkgneijdbkoaaDoor
open Go.RowKit
set_option linter.unusedVariables false

set_option maxRecDepth 100000 in
set_option maxHeartbeats 8000000 in
theorem line_ret (a : List Wd) (d : Dv) (pf : Option Addr) (nf cf : Nat) (pq : Option Addr) (mq cq : Nat) (g o cap : Nat) (w : World) (hi : StrsIn w g o (kRet :: a)) (hgw : g < w.heap.size) (hl : (a.length : Int) ≤ 5000) (hz : ∀ z ∈ a, (z.length : Int) ≤ 5000) (ps : Option Addr) (cs : Nat) (seen : List Wd) (hs : StrsAt w (.slice ps seen.length cs) seen) (hsl : (seen.length : Int) ≤ 5000) (hfl : FldsAt w (.slice pf nf cf) d.fs) (hrq : BytesAt w (.slice pq mq cq) d.rq) :
    Calls Tryd.prog 18 #[dvV d (.slice pf nf cf) (.slice pq mq cq), .slice (some ⟨g, o, none⟩) (a.length + 1) cap, .slice ps seen.length cs] w (LineQ w d (.slice pf nf cf) (.slice pq mq cq) seen (kRet :: a)) := by
  have m0 := lineM_first w d (.slice pf nf cf) (.slice pq mq cq)
  have n0 : ((a.length : Int) + 1 == 0) = false := beq_eq_false_iff_ne.2 (by omega)
  have FQ0 : Hid (FldsAt w (.slice pf nf cf) d.fs ∧ BytesAt w (.slice pq mq cq) d.rq) := ⟨hfl, hrq⟩
  have wi : Hid (StrsIn w g o (kRet :: a)) := hi
  replace hs : Hid (StrsAt w (.slice ps seen.length cs) seen) := hs
  replace hz : Hid (∀ z ∈ a, (z.length : Int) ≤ 5000) := hz
  obtain ⟨sl, hsl2⟩ : ∃ sl, seen.length = sl := ⟨_, rfl⟩
  rw [hsl2] at hs hsl ⊢
  replace hsl2 : Hid (seen.length = sl) := hsl2
  clear hfl hrq hi
  go_enter Tryd.func18, Tryd.ntmps18
  go_upto_region 5 with fail
  change Code.wp Tryd.prog _ _ _ (LineW w d (.slice pf nf cf) (.slice pq mq cq))
  have LM0 : Hid (LineM w (LineW w d (.slice pf nf cf) (.slice pq mq cq)) d (.slice pf nf cf) (.slice pq mq cq)) := m0.1
  have lc0 : Hid (∀ (i : Nat) (h : i < 11), (LineW w d (.slice pf nf cf) (.slice pq mq cq)).cell? ⟨w.heap.size + 1 + 1, i, none⟩ = some (.string (txt (allK[i]'h)))) := fun i h => (rd_cell m0.2 i).1.trans (allC_at i h)
  have hc0 : (LineW w d (.slice pf nf cf) (.slice pq mq cq)).cell? ⟨g, o, none⟩ = some (.string ⟨#[114, 101, 116, 114, 105, 101, 115]⟩) := kp m0.1.b (wi.out 0 (by simp))
  clear m0
  generalize LineW w d (.slice pf nf cf) (.slice pq mq cq) = x0 at *
  go_wp2
  go_loopw [8, 10] (fun vk vi wr => ∃ n k : Nat, (k : Int) ≤ 11 ∧ wr = x0.drewN n ∧ vi = .int .i64 (k : Int) ∧ vk = .bool (decide (kRet ∈ allK.take k))) (fun vk vi wr => (11 - intOf vi).toNat)
  case atStart => exact ⟨0, 0, by omega, rfl, rfl, by simp⟩
  case round =>
    obtain ⟨n, k, hk11, rfl, rfl, rfl⟩ := hrel
    by_cases hlt : k < 11
    · have hki : (k : Int) < 11 := by omega
      have st := allK_step kRet k hlt
      have l1 := lc0.out k hlt
      have wk : IntKind.i64.wrap ((k : Int) + 1) = (k : Int) + 1 := by simp only [IntKind.wrap_i64]; omega
      have cmp : (txt (allK[k]'hlt) == ⟨#[114, 101, 116, 114, 105, 101, 115]⟩) = decide (allK[k]'hlt = kRet) := txt_beq _ kRet
      generalize allK[k]'hlt = ak at *
      clear lc0 LM0
      cases hd : decide (kRet ∈ allK.take k)
      · rw [hd, Bool.false_or] at st
        have c2 : ((txt ak).toList == [114, 101, 116, 114, 105, 101, 115]) = decide (ak = kRet) := by
          rw [Bool.eq_iff_iff, decide_eq_true_iff, beq_iff_eq, ByteArray.toList_eq]
          exact ⟨fun h => h, fun h => by rw [h]; rfl⟩
        generalize decide (ak = kRet) = R at *
        go_wp2_with fail
        go_quiet (fail)
        go_wp2
        exact ⟨⟨n + nq, k + 1, by omega, rfl, by simp, by rw [st]⟩, by simp [intOf]; omega⟩
      · rw [hd, Bool.true_or] at st
        go_wp2_with fail
        go_quiet (fail)
        go_wp2
        exact ⟨⟨n + nq, k + 1, by omega, rfl, by simp, by rw [st]⟩, by simp [intOf]; omega⟩
    · obtain rfl : k = 11 := by omega
      rw [allK_mem, show knownB kRet = true from rfl]
      clear lc0
      go_wp2
      go_loopw [11] (fun vi wr => ∃ n k : Nat, (k : Int) ≤ (sl : Int) ∧ wr = x0.drewN n ∧ vi = .int .i64 (k : Int) ∧ Hid (∀ j (h : j < seen.length), j < k → ¬ seen[j] = kRet)) (fun vi wr => ((sl : Int) - intOf vi).toNat)
      case atStart => exact ⟨n, 0, by omega, rfl, rfl, fun j _ h => (by cases h)⟩
      case round =>
        obtain ⟨n, k, hk, rfl, rfl, no⟩ := hrel
        by_cases hlt : k < sl
        · have hki : (k : Int) < (sl : Int) := by omega
          have hks : k < seen.length := by have := hsl2.out; omega
          rcases hs.out with ⟨_, hnil⟩ | ⟨gs, os, cs', e1, hin, hgs⟩
          · rw [hnil] at hks; cases hks
          injection e1 with e1 e2 e3
          subst e1
          subst e3
          clear e2
          have l1 := kp LM0.out.b (hin k hks)
          have wk : IntKind.i64.wrap ((k : Int) + 1) = (k : Int) + 1 := by simp only [IntKind.wrap_i64]; omega
          obtain ⟨ak, hak⟩ : ∃ ak, seen[k] = ak := ⟨_, rfl⟩
          rw [hak] at l1
          have cmp : (txt ak == ⟨#[114, 101, 116, 114, 105, 101, 115]⟩) = decide (ak = kRet) := txt_beq _ kRet
          have c2 : ((txt ak).toList == [114, 101, 116, 114, 105, 101, 115]) = decide (ak = kRet) := by
            rw [Bool.eq_iff_iff, decide_eq_true_iff, beq_iff_eq, ByteArray.toList_eq]
            exact ⟨fun h => h, fun h => by rw [h]; rfl⟩
          cases hd : decide (ak = kRet)
          · rw [hd] at cmp c2
            have no2 : Hid (∀ j (h : j < seen.length), j < k + 1 → ¬ seen[j] = kRet) := fun j h hj => by
              by_cases hjk : j = k
              · subst hjk; rw [hak]; simpa using hd
              · exact no.out j h (by omega)
            clear hin hak no hd LM0
            go_wp2_with fail
            go_quiet (fail)
            go_wp2
            exact ⟨⟨n + nq, k + 1, by omega, rfl, by simp, no2⟩, by simp [intOf]; omega⟩
          · rw [hd] at cmp c2
            have e8 : Hid (stepM d seen (kRet :: a) = .error 8) := by
              have hm : kRet ∈ seen := by
                have : ak = kRet := by simpa using hd
                rw [← this, ← hak]; exact List.getElem_mem hks
              unfold Hid stepM
              simp only [show knownB kRet = true from rfl]
              rw [if_neg (by decide), if_pos ⟨by decide, hm⟩]
            clear hin hak no hd
            go_wp2_with fail
            go_quiet (fail)
            go_upto_region 15 with fail
            have LM : Hid (LineM w ((x0.drewN n).drewN nq) d (.slice pf nf cf) (.slice pq mq cq)) := LM0.out.below (below_drewN (below_drewN (Below.refl _ _) _) _)
            generalize (x0.drewN n).drewN nq = y at *
            obtain ⟨dc0, df0⟩ := LM.out.cells.1 0 _ rfl
            obtain ⟨dc1, df1⟩ := LM.out.cells.1 1 _ rfl
            obtain ⟨dc2, df2⟩ := LM.out.cells.1 2 _ rfl
            obtain ⟨dc3, df3⟩ := LM.out.cells.1 3 _ rfl
            obtain ⟨dc4, df4⟩ := LM.out.cells.1 4 _ rfl
            obtain ⟨dc5, df5⟩ := LM.out.cells.1 5 _ rfl
            obtain ⟨dc6, df6⟩ := LM.out.cells.1 6 _ rfl
            obtain ⟨dc7, df7⟩ := LM.out.cells.1 7 _ rfl
            obtain ⟨dc8, df8⟩ := LM.out.cells.1 8 _ rfl
            obtain ⟨dc9, df9⟩ := LM.out.cells.1 9 _ rfl
            obtain ⟨dc10, df10⟩ := LM.out.cells.1 10 _ rfl
            obtain ⟨dc11, df11⟩ := LM.out.cells.1 11 _ rfl
            obtain ⟨zc0, zf0⟩ := LM.out.cells.2 0 _ rfl
            obtain ⟨zc1, zf1⟩ := LM.out.cells.2 1 _ rfl
            obtain ⟨zc2, zf2⟩ := LM.out.cells.2 2 _ rfl
            obtain ⟨zc3, zf3⟩ := LM.out.cells.2 3 _ rfl
            obtain ⟨zc4, zf4⟩ := LM.out.cells.2 4 _ rfl
            obtain ⟨zc5, zf5⟩ := LM.out.cells.2 5 _ rfl
            obtain ⟨zc6, zf6⟩ := LM.out.cells.2 6 _ rfl
            obtain ⟨zc7, zf7⟩ := LM.out.cells.2 7 _ rfl
            obtain ⟨zc8, zf8⟩ := LM.out.cells.2 8 _ rfl
            obtain ⟨zc9, zf9⟩ := LM.out.cells.2 9 _ rfl
            obtain ⟨zc10, zf10⟩ := LM.out.cells.2 10 _ rfl
            obtain ⟨zc11, zf11⟩ := LM.out.cells.2 11 _ rfl
            clear LM0
            go_wp2
            change bodyPost _ _ _ _ _ (put12 y (w.heap.size + 1) (.string (txt d.nm)) (.int .i64 d.st) (.int .i64 d.es) (.int .i64 d.mx) (.int .i64 d.sz) (.string (txt d.sm)) (.slice pf nf cf) (.slice pq mq cq) (.int .i64 d.po) (.int .i64 d.ti) (.int .i64 d.re) (.int .i64 d.ag))
            have pa := put12_at (y := y) LM.out.rc (.string (txt d.nm)) (.int .i64 d.st) (.int .i64 d.es) (.int .i64 d.mx) (.int .i64 d.sz) (.string (txt d.sm)) (.slice pf nf cf) (.slice pq mq cq) (.int .i64 d.po) (.int .i64 d.ti) (.int .i64 d.re) (.int .i64 d.ag)
            have pb := put12_below LM.out.b (show w.heap.size ≤ w.heap.size + 1 by omega) (.string (txt d.nm)) (.int .i64 d.st) (.int .i64 d.es) (.int .i64 d.mx) (.int .i64 d.sz) (.string (txt d.sm)) (.slice pf nf cf) (.slice pq mq cq) (.int .i64 d.po) (.int .i64 d.ti) (.int .i64 d.re) (.int .i64 d.ag)
            generalize put12 y (w.heap.size + 1) (.string (txt d.nm)) (.int .i64 d.st) (.int .i64 d.es) (.int .i64 d.mx) (.int .i64 d.sz) (.string (txt d.sm)) (.slice pf nf cf) (.slice pq mq cq) (.int .i64 d.po) (.int .i64 d.ti) (.int .i64 d.re) (.int .i64 d.ag) = yy at *
            refine bodyPost_ret (res_dev2 Tryd.results18 rfl rfl pa) rfl ?_
            exact ⟨d, pf, nf, cf, pq, mq, cq, by rw [e8.out]; rfl, pb, fun d' hd => by rw [e8.out] at hd; cases hd⟩
        · obtain rfl : k = sl := by omega
          have hns : ¬ kRet ∈ seen := fun hm => by
            obtain ⟨j, hj, hj2⟩ := List.mem_iff_getElem.1 hm
            exact no.out j hj (by have := hsl2.out; omega) hj2
          have st : Hid (stepM d seen (kRet :: a) = match updM kRet a with | none => .error 6 | some u => .ok (u d)) := step_nf rfl (by decide) hns
          have LM : Hid (LineM w (x0.drewN n) d (.slice pf nf cf) (.slice pq mq cq)) := LM0.out.below (below_drewN (Below.refl _ _) _)
          have hcy : (x0.drewN n).cell? ⟨g, o, none⟩ = some (.string ⟨#[114, 101, 116, 114, 105, 101, 115]⟩) := hc0
          generalize x0.drewN n = y at *
          obtain ⟨dc0, df0⟩ := LM.out.cells.1 0 _ rfl
          obtain ⟨dc1, df1⟩ := LM.out.cells.1 1 _ rfl
          obtain ⟨dc2, df2⟩ := LM.out.cells.1 2 _ rfl
          obtain ⟨dc3, df3⟩ := LM.out.cells.1 3 _ rfl
          obtain ⟨dc4, df4⟩ := LM.out.cells.1 4 _ rfl
          obtain ⟨dc5, df5⟩ := LM.out.cells.1 5 _ rfl
          obtain ⟨dc6, df6⟩ := LM.out.cells.1 6 _ rfl
          obtain ⟨dc7, df7⟩ := LM.out.cells.1 7 _ rfl
          obtain ⟨dc8, df8⟩ := LM.out.cells.1 8 _ rfl
          obtain ⟨dc9, df9⟩ := LM.out.cells.1 9 _ rfl
          obtain ⟨dc10, df10⟩ := LM.out.cells.1 10 _ rfl
          obtain ⟨dc11, df11⟩ := LM.out.cells.1 11 _ rfl
          obtain ⟨zc0, zf0⟩ := LM.out.cells.2 0 _ rfl
          obtain ⟨zc1, zf1⟩ := LM.out.cells.2 1 _ rfl
          obtain ⟨zc2, zf2⟩ := LM.out.cells.2 2 _ rfl
          obtain ⟨zc3, zf3⟩ := LM.out.cells.2 3 _ rfl
          obtain ⟨zc4, zf4⟩ := LM.out.cells.2 4 _ rfl
          obtain ⟨zc5, zf5⟩ := LM.out.cells.2 5 _ rfl
          obtain ⟨zc6, zf6⟩ := LM.out.cells.2 6 _ rfl
          obtain ⟨zc7, zf7⟩ := LM.out.cells.2 7 _ rfl
          obtain ⟨zc8, zf8⟩ := LM.out.cells.2 8 _ rfl
          obtain ⟨zc9, zf9⟩ := LM.out.cells.2 9 _ rfl
          obtain ⟨zc10, zf10⟩ := LM.out.cells.2 10 _ rfl
          obtain ⟨zc11, zf11⟩ := LM.out.cells.2 11 _ rfl
          clear LM0 no hns hc0
          by_cases h1 : a.length = 1
          · obtain ⟨z, rfl⟩ := len_one h1
            have hc1 : y.cell? ⟨g, o + 1, none⟩ = some (.string (txt z)) := kp LM.out.b (wi.out 1 (by simp))
            have hz5 := hz.out z (by simp)
            have fn : Hid (∀ w, Calls Tryd.prog 27 #[.string (txt z), .int .i64 0, .int .i64 10] w fun e w' => e = .returned (.tuple #[.int .i64 (numV z 0 10), .bool (numB z 0 10)]) ∧ w' = w) := fun w => rnum_any (txt z) w (by rw [txt_size]; unfold maxLen; omega) _ _
            have hm : updM kRet [z] = if numB z 0 10 = true then some (fun d => { d with re := readV z }) else none := rfl
            rw [hm] at st
            cases hN : numB z 0 10
            · rw [hN] at fn st
              replace st : Hid (stepM d seen [kRet, z] = .error 6) := st
              generalize numV z 0 10 = V at *
              go_wp2_with fail
              refine (fn.out _).mono ?_
              rintro e yA ⟨rfl, rfl⟩
              clear fn
              go_wp2
              change bodyPost _ _ _ _ _ (put12 yA (w.heap.size + 1) (.string (txt d.nm)) (.int .i64 d.st) (.int .i64 d.es) (.int .i64 d.mx) (.int .i64 d.sz) (.string (txt d.sm)) (.slice pf nf cf) (.slice pq mq cq) (.int .i64 d.po) (.int .i64 d.ti) (.int .i64 d.re) (.int .i64 d.ag))
              have pa := put12_at (y := yA) LM.out.rc (.string (txt d.nm)) (.int .i64 d.st) (.int .i64 d.es) (.int .i64 d.mx) (.int .i64 d.sz) (.string (txt d.sm)) (.slice pf nf cf) (.slice pq mq cq) (.int .i64 d.po) (.int .i64 d.ti) (.int .i64 d.re) (.int .i64 d.ag)
              have pb := put12_below LM.out.b (show w.heap.size ≤ w.heap.size + 1 by omega) (.string (txt d.nm)) (.int .i64 d.st) (.int .i64 d.es) (.int .i64 d.mx) (.int .i64 d.sz) (.string (txt d.sm)) (.slice pf nf cf) (.slice pq mq cq) (.int .i64 d.po) (.int .i64 d.ti) (.int .i64 d.re) (.int .i64 d.ag)
              generalize put12 yA (w.heap.size + 1) (.string (txt d.nm)) (.int .i64 d.st) (.int .i64 d.es) (.int .i64 d.mx) (.int .i64 d.sz) (.string (txt d.sm)) (.slice pf nf cf) (.slice pq mq cq) (.int .i64 d.po) (.int .i64 d.ti) (.int .i64 d.re) (.int .i64 d.ag) = yy at *
              refine bodyPost_ret (res_dev2 Tryd.results18 rfl rfl pa) rfl ?_
              exact ⟨d, pf, nf, cf, pq, mq, cq, by rw [st.out]; rfl, pb, fun d' hd => by rw [st.out] at hd; cases hd⟩
            · have nv : numV z 0 10 = readV z := by unfold numV; rw [if_pos hN]
              rw [hN, nv] at fn
              rw [hN] at st
              replace st : Hid (stepM d seen [kRet, z] = .ok { d with re := readV z }) := st
              go_wp2_with fail
              refine (fn.out _).mono ?_
              rintro e yA ⟨rfl, rfl⟩
              clear fn
              go_wp2
              have LR : (yA.setCell ⟨w.heap.size, 10, none⟩ (.int .i64 (readV z))).heap[w.heap.size + 1]? = some (.cells dz 36 (0, 0)) := (Below.heap_setCell _ _ _ _ (show w.heap.size + 1 ≠ w.heap.size by omega)).trans LM.out.rc
              have LB : Below w.heap.size w (yA.setCell ⟨w.heap.size, 10, none⟩ (.int .i64 (readV z))) := LM.out.b.setCell (p := ⟨w.heap.size, 10, none⟩) (Nat.le_refl _) _
              generalize (yA.setCell ⟨w.heap.size, 10, none⟩ (.int .i64 (readV z))) = y2 at *
              change bodyPost _ _ _ _ _ (put12 y2 (w.heap.size + 1) (.string (txt d.nm)) (.int .i64 d.st) (.int .i64 d.es) (.int .i64 d.mx) (.int .i64 d.sz) (.string (txt d.sm)) (.slice pf nf cf) (.slice pq mq cq) (.int .i64 d.po) (.int .i64 d.ti) (.int .i64 (readV z)) (.int .i64 d.ag))
              have pa := put12_at (y := y2) LR (.string (txt d.nm)) (.int .i64 d.st) (.int .i64 d.es) (.int .i64 d.mx) (.int .i64 d.sz) (.string (txt d.sm)) (.slice pf nf cf) (.slice pq mq cq) (.int .i64 d.po) (.int .i64 d.ti) (.int .i64 (readV z)) (.int .i64 d.ag)
              have pb := put12_below LB (show w.heap.size ≤ w.heap.size + 1 by omega) (.string (txt d.nm)) (.int .i64 d.st) (.int .i64 d.es) (.int .i64 d.mx) (.int .i64 d.sz) (.string (txt d.sm)) (.slice pf nf cf) (.slice pq mq cq) (.int .i64 d.po) (.int .i64 d.ti) (.int .i64 (readV z)) (.int .i64 d.ag)
              have FQ2 := fq_put FQ0.out LB (show w.heap.size ≤ w.heap.size + 1 by omega) (.string (txt d.nm)) (.int .i64 d.st) (.int .i64 d.es) (.int .i64 d.mx) (.int .i64 d.sz) (.string (txt d.sm)) (.slice pf nf cf) (.slice pq mq cq) (.int .i64 d.po) (.int .i64 d.ti) (.int .i64 (readV z)) (.int .i64 d.ag)
              generalize put12 y2 (w.heap.size + 1) (.string (txt d.nm)) (.int .i64 d.st) (.int .i64 d.es) (.int .i64 d.mx) (.int .i64 d.sz) (.string (txt d.sm)) (.slice pf nf cf) (.slice pq mq cq) (.int .i64 d.po) (.int .i64 d.ti) (.int .i64 (readV z)) (.int .i64 d.ag) = yy at *
              refine bodyPost_ret (res_dev2 Tryd.results18 rfl rfl pa) rfl ?_
              refine ⟨{ d with re := readV z }, pf, nf, cf, pq, mq, cq, by rw [st.out]; rfl, pb, fun d' hd => ?_⟩
              rw [st.out] at hd
              cases hd
              exact ⟨rfl, FQ2.1, FQ2.2, .inl rfl, .inl rfl⟩
          · have n2 : ((a.length : Int) + 1 != 2) = true := bne_iff_ne.2 (by omega)
            have hm : updM kRet a = none := (upd_ret a).trans (mNum_len h1 _ _ _)
            rw [hm] at st
            replace st : Hid (stepM d seen (kRet :: a) = .error 6) := st
            go_wp2
            change bodyPost _ _ _ _ _ (put12 y (w.heap.size + 1) (.string (txt d.nm)) (.int .i64 d.st) (.int .i64 d.es) (.int .i64 d.mx) (.int .i64 d.sz) (.string (txt d.sm)) (.slice pf nf cf) (.slice pq mq cq) (.int .i64 d.po) (.int .i64 d.ti) (.int .i64 d.re) (.int .i64 d.ag))
            have pa := put12_at (y := y) LM.out.rc (.string (txt d.nm)) (.int .i64 d.st) (.int .i64 d.es) (.int .i64 d.mx) (.int .i64 d.sz) (.string (txt d.sm)) (.slice pf nf cf) (.slice pq mq cq) (.int .i64 d.po) (.int .i64 d.ti) (.int .i64 d.re) (.int .i64 d.ag)
            have pb := put12_below LM.out.b (show w.heap.size ≤ w.heap.size + 1 by omega) (.string (txt d.nm)) (.int .i64 d.st) (.int .i64 d.es) (.int .i64 d.mx) (.int .i64 d.sz) (.string (txt d.sm)) (.slice pf nf cf) (.slice pq mq cq) (.int .i64 d.po) (.int .i64 d.ti) (.int .i64 d.re) (.int .i64 d.ag)
            generalize put12 y (w.heap.size + 1) (.string (txt d.nm)) (.int .i64 d.st) (.int .i64 d.es) (.int .i64 d.mx) (.int .i64 d.sz) (.string (txt d.sm)) (.slice pf nf cf) (.slice pq mq cq) (.int .i64 d.po) (.int .i64 d.ti) (.int .i64 d.re) (.int .i64 d.ag) = yy at *
            refine bodyPost_ret (res_dev2 Tryd.results18 rfl rfl pa) rfl ?_
            exact ⟨d, pf, nf, cf, pq, mq, cq, by rw [st.out]; rfl, pb, fun d' hd => by rw [st.out] at hd; cases hd⟩
end Go.Proofs.YtagkgneijdbkoaaDoor
