/-
  Texts that belong together, one behind the other: DsParse, DsAw0, DsAw, DsSame0, DsSame. Conditions: as each says.
-/
import Derived.KernelRfl
import Derived.Lib.QuietBelow
import Derived.Test.YtagkgneijdbkoaaDoorJn1
import Derived.Test.YtagkgneijdbkoaaDoorJn10
import Derived.Test.YtagkgneijdbkoaaDoorJn18
import Derived.Test.YtagkgneijdbkoaaDoorJn27
/-
  What the program's own Parse returns of any text (layer 8). Conditions: the library's table of white space is as laid.
-/
namespace Go.Proofs.YtagkgneijdbkoaaDoor
open Go.RowKit
set_option linter.unusedVariables false

/-- a text's device, the line, the error -/
def parseM (l : List UInt8) : Dv × Int × Nat := if lexErr l = 0 then readM (lrOf (lexRows l)) else (dv0, (lexLine l : Int), lexErr l)
theorem RowsAtC.rowsC {x : World} {v : Value} {rs : List Ln} (h : RowsAtC x v rs) : RowsC x.heap.size x v (lrOf rs) := by
  have hl : (lrOf rs).length = rs.length := by unfold lrOf; simp
  rcases h with ⟨h1, h2⟩ | ⟨g, o, cap, h1, h2, h3⟩
  · exact .inl ⟨h1, by rw [h2]; rfl⟩
  · refine .inr ⟨g, o, cap, by rw [hl]; exact h1, fun j hj => ?_, h3⟩
    have hj' : j < rs.length := by omega
    have e : (lrOf rs)[j] = ((rs[j].1 : Int), rs[j].2) := by
      have k : (lrOf rs)[j]? = some ((rs[j].1 : Int), rs[j].2) := by unfold lrOf; rw [List.getElem?_map, List.getElem?_eq_getElem hj']; rfl
      rw [List.getElem?_eq_getElem hj] at k
      exact Option.some.inj k
    rw [e]
    obtain ⟨q1, u, q2, q3, q4⟩ := h2 j hj'
    refine ⟨q1, u, q2, ?_⟩
    rcases q3 with k | ⟨g', o', cap', k1, k2, k3⟩
    · exact .inl ⟨none, 0, k⟩
    · exact .inr ⟨g', o', cap', k1, q4 _ _ _ k1, k2, k3⟩
def RdC (rs : List Lr) : Prop := ∀ x v, RowsC x.heap.size x v rs → Calls Tryd.prog 13 #[v] x (ReadQ x (readM rs))
/-- how long words are -/
theorem flush_wd {M : Nat} {ws : List Wd} {w : Wd} (h : ∀ z ∈ ws, z.length ≤ M) (hw : w.length ≤ M) : ∀ z ∈ flushW ws w, z.length ≤ M := by
  intro z hz
  unfold flushW at hz
  split at hz
  · exact h z hz
  · rcases List.mem_append.1 hz with hz | hz
    · exact h z hz
    · have : z = w := by simpa using hz
      rw [this]; exact hw
theorem close_wd {M l : Nat} {ws : List Wd} (h : ∀ z ∈ ws, z.length ≤ M) : ∀ r ∈ closeL l ws, ∀ z ∈ r.2, z.length ≤ M := by
  intro r hr z hz
  unfold closeL at hr
  split at hr
  · have : r = (l, ws) := by simpa using hr
    rw [this] at hz; exact h z hz
  · cases hr
theorem scan_wd (s : List UInt8) : ∀ (l : Nat) (ws : List Wd) (w : Wd) (R : List Ln) (M : Nat), scanL l ws w s = .ok R → (∀ z ∈ ws, z.length ≤ M) → w.length + s.length ≤ M → ∀ r ∈ R, ∀ z ∈ r.2, z.length ≤ M := by
  induction s with
  | nil =>
    intro l ws w R M h hws hw
    unfold scanL at h
    cases h
    exact close_wd (flush_wd hws (by simpa using hw))
  | cons c s ih =>
    intro l ws w R M h hws hw
    rw [List.length_cons] at hw
    unfold scanL at h
    by_cases h10 : c = 10
    · rw [if_pos h10] at h
      cases hs : scanL (l + 1) [] [] s with
      | error n => rw [hs] at h; cases h
      | ok t =>
        rw [hs] at h
        cases h
        intro r hr
        rcases List.mem_append.1 hr with hr | hr
        · exact close_wd (flush_wd hws (by omega)) r hr
        · exact ih _ _ _ _ M hs (fun z hz => by cases hz) (by simp; omega) r hr
    rw [if_neg h10] at h
    by_cases h32 : c = 32
    · rw [if_pos h32] at h
      exact ih _ _ _ _ M h (flush_wd hws (by omega)) (by simp; omega)
    rw [if_neg h32] at h
    split at h
    · exact ih _ _ _ _ M h hws (by simp; omega)
    · cases h
/-- bounds: lines, words, bytes -/
theorem lines_bd (l : List UInt8) : ((lrOf (lexRows l)).length : Int) ≤ 4500 ∧ (∀ r ∈ lrOf (lexRows l), (r.2.length : Int) ≤ 4500) ∧ ∀ r ∈ lrOf (lexRows l), ∀ z ∈ r.2, (z.length : Int) ≤ 5000 := by
  have h := lex_len l
  have hl : (lrOf (lexRows l)).length = (lexRows l).length := by unfold lrOf; simp
  refine ⟨by omega, fun r hr => ?_, fun r hr z hz => ?_⟩
  · obtain ⟨q, hq, rfl⟩ := List.mem_map.1 hr
    have := h.2 q hq
    show (q.2.length : Int) ≤ 4500
    omega
  · obtain ⟨q, hq, rfl⟩ := List.mem_map.1 hr
    have hz : z ∈ q.2 := hz
    have k : z.length ≤ 4000 := by
      unfold lexRows at hq
      split at hq
      · rename_i hs
        cases hc : scanL 1 [] [] l with
        | error n => rw [hc] at hq; cases hq
        | ok R =>
          rw [hc] at hq
          exact scan_wd l _ _ _ R 4000 hc (fun z hz => by cases hz) (by simp; omega) q hq z hz
      · cases hq
    omega
theorem FldsAt.form {y : World} {v : Value} {fs : List Fd} (h : FldsAt y v fs) : ∃ p n c, v = .slice p n c := by
  rcases h with ⟨rfl, _⟩ | ⟨g, o, cap, rfl, _⟩
  · exact ⟨none, 0, 0, rfl⟩
  · exact ⟨_, _, _, rfl⟩
theorem BytesAt.form' {y : World} {v : Value} {bs : List Nat} (h : BytesAt y v bs) : ∃ p n c, v = .slice p n c := by
  rcases h with ⟨rfl, _⟩ | ⟨g, o, cap, rfl, _⟩
  · exact ⟨none, 0, 0, rfl⟩
  · exact ⟨_, _, _, rfl⟩
/-- kept where its block is kept -/
theorem FldsAt.on' {x y : World} {v : Value} {fs : List Fd} (h : FldsAt x v fs) (hk : ∀ g, v.ownBlock = some g → y.heap[g]? = x.heap[g]?) : FldsAt y v fs := by
  rcases h with h | ⟨g, o, cap, rfl, h2, h3⟩
  · exact .inl h
  · have k := hk g rfl
    refine .inr ⟨g, o, cap, rfl, fun j hj i u hu => (World.cell?_of_block (a := ⟨g, o + 9 * j + i, none⟩) k).trans (h2 j hj i u hu), ?_⟩
    rw [Array.getElem?_eq_getElem h3] at k
    exact (Array.getElem?_eq_some_iff.1 k).1
theorem BytesAt.on' {x y : World} {v : Value} {bs : List Nat} (h : BytesAt x v bs) (hk : ∀ g, v.ownBlock = some g → y.heap[g]? = x.heap[g]?) : BytesAt y v bs := by
  rcases h with h | ⟨g, o, cap, rfl, h2, h3⟩
  · exact .inl h
  · have k := hk g rfl
    refine .inr ⟨g, o, cap, rfl, fun j hj => (World.cell?_of_block (a := ⟨g, o + j, none⟩) k).trans (h2 j hj), ?_⟩
    rw [Array.getElem?_eq_getElem h3] at k
    exact (Array.getElem?_eq_some_iff.1 k).1
set_option maxRecDepth 100000 in
set_option maxHeartbeats 4000000 in
theorem parse_any (s : ByteArray) (w : World) (T7 : Tab7 w) : Calls Tryd.prog 8 #[.string s] w (ReadQ w (parseM s.data.toList)) := by
  have B0 : Hid (Below w.heap.size w (w.alloc (.cells dz 26))) := (Below.refl _ _).alloc (Nat.le_refl _) _
  have R0 : Hid ((w.alloc (.cells dz 26)).heap[w.heap.size]? = some (.cells dz 26 (0, 0))) := World.alloc_heap_new w _
  have hR : Hid (Calls Tryd.prog 16 #[.string s] (w.alloc (.cells dz 26)) fun e w' => ∃ v, e = .returned (.tuple #[v, .int .i64 ((lexLine s.data.toList : Nat) : Int), .int .i64 ((lexErr s.data.toList : Nat) : Int)]) ∧ RowsAtC w' v (lexRows s.data.toList) ∧ Below (w.alloc (.cells dz 26)).heap.size (w.alloc (.cells dz 26)) w') := HRC s _ (T7.below B0.out)
  clear T7
  by_cases he : lexErr s.data.toList = 0
  · have eT : parseM s.data.toList = readM (lrOf (lexRows s.data.toList)) := by unfold parseM; rw [if_pos he]
    rw [eT]
    rw [he] at hR
    have bd := lines_bd s.data.toList
    generalize lexRows s.data.toList = rs at *
    have rd : Hid (RdC (lrOf rs)) := fun x v h => dread_any (lrOf rs) v x h bd.1 bd.2.1 bd.2.2
    clear he eT bd
    generalize ((lexLine s.data.toList : Nat) : Int) = L at *
    go_enter Tryd.func8, Tryd.ntmps8
    go_upto_region 1 with fail
    change Code.wp Tryd.prog _ _ _ (w.alloc (.cells dz 26))
    generalize w.alloc (.cells dz 26) = w0 at *
    go_wp2_with fail
    refine hR.out.mono ?_
    rintro e w1 ⟨v, rfl, hv, hb1⟩
    have rc := rd.out w1 v hv.rowsC
    have R1 : Hid (w1.heap[w.heap.size]? = some (.cells dz 26 (0, 0))) := (hb1.block _ (Array.getElem?_eq_some_iff.1 R0.out).1).trans R0.out
    have B1 : Hid (Below w.heap.size w w1) := B0.out.trans (hb1.mono B0.out.size)
    generalize readM (lrOf rs) = T at *
    replace rc : Hid (Calls Tryd.prog 13 #[v] w1 (ReadQ w1 T)) := rc
    clear hv hb1 hR rd R0 B0
    go_wp2_with fail
    refine rc.out.mono ?_
    rintro e y ⟨fv, qv, rfl, hf, hq, hb, nf0, nq0⟩
    obtain ⟨pf, nf, cf, rfl⟩ := hf.form
    obtain ⟨pq, mq, cq, rfl⟩ := hq.form'
    have R2 : y.heap[w.heap.size]? = some (.cells dz 26 (0, 0)) := (hb.block _ (Array.getElem?_eq_some_iff.1 R1.out).1).trans R1.out
    have B2 : Hid (Below w.heap.size w y) := B1.out.trans (hb.mono B1.out.size)
    have Rl : w.heap.size < w1.heap.size := (Array.getElem?_eq_some_iff.1 R1.out).1
    replace hf : Hid (FldsAt y (.slice pf nf cf) T.1.fs) := hf
    replace hq : Hid (BytesAt y (.slice pq mq cq) T.1.rq) := hq
    have fN : Hid (∀ g, (Value.slice pf nf cf).ownBlock = some g → w.heap.size < g) := fun g h => by have := nf0 g h; omega
    have qN : Hid (∀ g, (Value.slice pq mq cq).ownBlock = some g → w.heap.size < g) := fun g h => by have := nq0 g h; omega
    obtain ⟨c0, f0⟩ := rd_cell R2 0
    obtain ⟨c1, f1⟩ := rd_cell R2 1
    obtain ⟨c2, f2⟩ := rd_cell R2 2
    obtain ⟨c3, f3⟩ := rd_cell R2 3
    obtain ⟨c4, f4⟩ := rd_cell R2 4
    obtain ⟨c5, f5⟩ := rd_cell R2 5
    obtain ⟨c6, f6⟩ := rd_cell R2 6
    obtain ⟨c7, f7⟩ := rd_cell R2 7
    obtain ⟨c8, f8⟩ := rd_cell R2 8
    obtain ⟨c9, f9⟩ := rd_cell R2 9
    obtain ⟨c10, f10⟩ := rd_cell R2 10
    obtain ⟨c11, f11⟩ := rd_cell R2 11
    simp only [List.getElem?_toArray, List.getElem?_cons_zero, List.getElem?_cons_succ] at c0 c1 c2 c3 c4 c5 c6 c7 c8 c9 c10 c11
    replace R2 : Hid (y.heap[w.heap.size]? = some (.cells dz 26 (0, 0))) := R2
    clear nf0 nq0 hb rc R1 B1 Rl
    obtain ⟨d, ln, en⟩ := T
    simp only at *
    go_wp2
    change bodyPost _ _ _ _ _ (put12 y w.heap.size (.string (txt d.nm)) (.int .i64 d.st) (.int .i64 d.es) (.int .i64 d.mx) (.int .i64 d.sz) (.string (txt d.sm)) (.slice pf nf cf) (.slice pq mq cq) (.int .i64 d.po) (.int .i64 d.ti) (.int .i64 d.re) (.int .i64 d.ag))
    have pa := put12_at (y := y) R2.out (.string (txt d.nm)) (.int .i64 d.st) (.int .i64 d.es) (.int .i64 d.mx) (.int .i64 d.sz) (.string (txt d.sm)) (.slice pf nf cf) (.slice pq mq cq) (.int .i64 d.po) (.int .i64 d.ti) (.int .i64 d.re) (.int .i64 d.ag)
    have pb := put12_below B2.out (Nat.le_refl w.heap.size) (.string (txt d.nm)) (.int .i64 d.st) (.int .i64 d.es) (.int .i64 d.mx) (.int .i64 d.sz) (.string (txt d.sm)) (.slice pf nf cf) (.slice pq mq cq) (.int .i64 d.po) (.int .i64 d.ti) (.int .i64 d.re) (.int .i64 d.ag)
    have off : ∀ g, w.heap.size < g → (put12 y w.heap.size (.string (txt d.nm)) (.int .i64 d.st) (.int .i64 d.es) (.int .i64 d.mx) (.int .i64 d.sz) (.string (txt d.sm)) (.slice pf nf cf) (.slice pq mq cq) (.int .i64 d.po) (.int .i64 d.ti) (.int .i64 d.re) (.int .i64 d.ag)).heap[g]? = y.heap[g]? := fun g hg => put12_off (by omega) _ _ _ _ _ _ _ _ _ _ _ _
    generalize put12 y w.heap.size (.string (txt d.nm)) (.int .i64 d.st) (.int .i64 d.es) (.int .i64 d.mx) (.int .i64 d.sz) (.string (txt d.sm)) (.slice pf nf cf) (.slice pq mq cq) (.int .i64 d.po) (.int .i64 d.ti) (.int .i64 d.re) (.int .i64 d.ag) = yy at *
    refine bodyPost_ret (res_dev3 Tryd.results8 rfl rfl rfl pa) rfl ?_
    exact ⟨.slice pf nf cf, .slice pq mq cq, rfl, hf.out.on' fun g hg => off g (fN.out g hg), hq.out.on' fun g hg => off g (qN.out g hg), pb, fun g h => Nat.le_of_lt (fN.out g h), fun g h => Nat.le_of_lt (qN.out g h)⟩
  · have eT : parseM s.data.toList = (dv0, (lexLine s.data.toList : Int), lexErr s.data.toList) := by unfold parseM; rw [if_neg he]
    rw [eT]
    have hne : (((lexErr s.data.toList : Nat) : Int) != 0) = true := by rw [bne_iff_ne]; omega
    generalize lexRows s.data.toList = rs at *
    generalize lexErr s.data.toList = E at *
    generalize lexLine s.data.toList = L at *
    clear he eT
    go_enter Tryd.func8, Tryd.ntmps8
    go_upto_region 1 with fail
    change Code.wp Tryd.prog _ _ _ (w.alloc (.cells dz 26))
    generalize w.alloc (.cells dz 26) = w0 at *
    go_wp2_with fail
    refine hR.out.mono ?_
    rintro e w1 ⟨v, rfl, hv, hb1⟩
    have R1 : w1.heap[w.heap.size]? = some (.cells dz 26 (0, 0)) := (hb1.block _ (Array.getElem?_eq_some_iff.1 R0.out).1).trans R0.out
    have B1 : Hid (Below w.heap.size w w1) := B0.out.trans (hb1.mono B0.out.size)
    obtain ⟨c0, f0⟩ := rd_cell R1 0
    obtain ⟨c1, f1⟩ := rd_cell R1 1
    obtain ⟨c2, f2⟩ := rd_cell R1 2
    obtain ⟨c3, f3⟩ := rd_cell R1 3
    obtain ⟨c4, f4⟩ := rd_cell R1 4
    obtain ⟨c5, f5⟩ := rd_cell R1 5
    obtain ⟨c6, f6⟩ := rd_cell R1 6
    obtain ⟨c7, f7⟩ := rd_cell R1 7
    obtain ⟨c8, f8⟩ := rd_cell R1 8
    obtain ⟨c9, f9⟩ := rd_cell R1 9
    obtain ⟨c10, f10⟩ := rd_cell R1 10
    obtain ⟨c11, f11⟩ := rd_cell R1 11
    simp only [List.getElem?_toArray, List.getElem?_cons_zero, List.getElem?_cons_succ] at c0 c1 c2 c3 c4 c5 c6 c7 c8 c9 c10 c11
    replace R1 : Hid (w1.heap[w.heap.size]? = some (.cells dz 26 (0, 0))) := R1
    clear hv hb1 hR R0 B0
    go_wp2_with fail
    change bodyPost _ _ _ _ _ (put12 w1 w.heap.size (.string ⟨#[]⟩) (.int .i64 0) (.int .i64 0) (.int .i64 0) (.int .i64 0) (.string ⟨#[]⟩) (.slice none 0 0) (.slice none 0 0) (.int .i64 0) (.int .i64 0) (.int .i64 0) (.int .i64 0))
    have pa := put12_at (y := w1) R1.out (.string ⟨#[]⟩) (.int .i64 0) (.int .i64 0) (.int .i64 0) (.int .i64 0) (.string ⟨#[]⟩) (.slice none 0 0) (.slice none 0 0) (.int .i64 0) (.int .i64 0) (.int .i64 0) (.int .i64 0)
    have pb := put12_below B1.out (Nat.le_refl w.heap.size) (.string ⟨#[]⟩) (.int .i64 0) (.int .i64 0) (.int .i64 0) (.int .i64 0) (.string ⟨#[]⟩) (.slice none 0 0) (.slice none 0 0) (.int .i64 0) (.int .i64 0) (.int .i64 0) (.int .i64 0)
    generalize put12 w1 w.heap.size (.string ⟨#[]⟩) (.int .i64 0) (.int .i64 0) (.int .i64 0) (.int .i64 0) (.string ⟨#[]⟩) (.slice none 0 0) (.slice none 0 0) (.int .i64 0) (.int .i64 0) (.int .i64 0) (.int .i64 0) = yy at *
    refine bodyPost_ret (res_dev3 Tryd.results8 rfl rfl rfl pa) rfl ?_
    exact ⟨nilS, nilS, rfl, .inl ⟨rfl, rfl⟩, .inl ⟨rfl, rfl⟩, pb, fun g h => (by cases h), fun g h => (by cases h)⟩
end Go.Proofs.YtagkgneijdbkoaaDoor
/-
  The two texts that the statements of layer 8 ask first: what is read of them, reckoned. No conditions.
-/
namespace Go.Proofs.YtagkgneijdbkoaaDoor
open Go Go.RowKit
set_option linter.unusedVariables false

def awT : List UInt8 := [100, 101, 118, 105, 99, 101, 32, 97, 10, 115, 116, 97, 114, 116, 32, 48, 50, 10, 101, 115, 99, 97, 112, 101, 32, 49, 98, 32, 50, 48, 10, 115, 105, 122, 101, 32, 51, 10, 115, 117, 109, 32, 120, 111, 114, 10, 114, 101, 113, 117, 101, 115, 116, 32, 48, 53, 10, 112, 111, 108, 108, 32, 49, 48, 10, 116, 105, 109, 101, 111, 117, 116, 32, 51, 10, 114, 101, 116, 114, 105, 101, 115, 32, 50, 10, 97, 103, 101, 32, 51, 48]
theorem aw_none : (parseM []).2.1 = 0 ∧ (parseM []).2.2 = 9 := ⟨by kernel_rfl, by kernel_rfl⟩
theorem aw_dev : (parseM awT).2.2 = 0 ∧ (parseM awT).1.nm = [97] ∧ (parseM awT).1.mx = 32 ∧ (parseM awT).1.ag = 30 := ⟨by kernel_rfl, by kernel_rfl, by kernel_rfl, by kernel_rfl⟩
end Go.Proofs.YtagkgneijdbkoaaDoor
/-
  What the statements of layer 8 ask first (awake) is so. Conditions: the library's table of white space is as laid.
-/
namespace Go.Proofs.YtagkgneijdbkoaaDoor
open Go.RowKit
set_option linter.unusedVariables false

def PaC (w : World) (s : ByteArray) (T : Dv × Int × Nat) : Prop := ∀ z, Below w.heap.size w z → Calls Tryd.prog 8 #[.string s] z (ReadQ z T)
theorem paC {w : World} (T7 : Tab7 w) (s : ByteArray) : PaC w s (parseM s.data.toList) := fun z hb => parse_any s z (T7.below hb)
abbrev dvX (d : Dv) (f q : Value) : Array Value := #[.string (txt d.nm), .int .i64 d.st, .int .i64 d.es, .int .i64 d.mx, .int .i64 d.sz, .string (txt d.sm), f, q, .int .i64 d.po, .int .i64 d.ti, .int .i64 d.re, .int .i64 d.ag]
set_option maxRecDepth 100000 in
set_option maxHeartbeats 4000000 in
theorem awake8_any (w : World) (T7 : Tab7 w) : Calls Tryd.prog 7 #[] w fun e y => e = .returned (.bool true) ∧ Below w.heap.size w y := by
  have f1 : Hid (PaC w ⟨#[]⟩ (parseM [])) := paC T7 ⟨#[]⟩
  have f2 : Hid (PaC w ⟨awT.toArray⟩ (parseM awT)) := paC T7 ⟨awT.toArray⟩
  have a1 := aw_none
  have a2 := aw_dev
  generalize parseM [] = T1 at *
  generalize parseM awT = T2 at *
  obtain ⟨d1, l1, e1⟩ := T1
  obtain ⟨d2, l2, e2⟩ := T2
  simp only at a1 a2
  obtain ⟨rfl, rfl⟩ := a1
  obtain ⟨rfl, hnm, hmx, hag⟩ := a2
  clear T7
  replace hnm : Hid (d2.nm = [97] ∧ d2.mx = 32 ∧ d2.ag = 30) := ⟨hnm, hmx, hag⟩
  clear hmx hag
  go_enter Tryd.func7, Tryd.ntmps7
  go_wp2_with fail
  refine (f1.out w (Below.refl _ _)).mono ?_
  rintro e z ⟨fv, qv, rfl, hf, hq, hb, _, _⟩
  obtain ⟨p1, n1, c1, rfl⟩ := hf.form
  obtain ⟨p2, n2, c2, rfl⟩ := hq.form'
  clear f1 hf hq
  have B1 : Hid (Below w.heap.size w (z.alloc (.cells (dvX d1 (.slice p1 n1 c1) (.slice p2 n2 c2)) 26))) := hb.alloc hb.size _
  clear hb
  go_upto_region 2 with fail
  change Code.wp Tryd.prog _ _ _ (z.alloc (.cells (dvX d1 (.slice p1 n1 c1) (.slice p2 n2 c2)) 26))
  generalize z.alloc (.cells (dvX d1 (.slice p1 n1 c1) (.slice p2 n2 c2)) 26) = y at *
  generalize z.heap.size = zs
  clear z
  go_wp2_with fail
  have key : ∀ X : ByteArray, X = ⟨awT.toArray⟩ → Calls Tryd.prog 8 #[.string X] y (ReadQ y (d2, l2, 0)) := fun X hX => by rw [hX]; exact f2.out _ B1.out
  refine (key _ (by kernel_rfl)).mono ?_
  clear key
  rintro e z ⟨fv, qv, rfl, hf, hq, hb, _, _⟩
  obtain ⟨p3, n3, c3, rfl⟩ := hf.form
  obtain ⟨p4, n4, c4, rfl⟩ := hq.form'
  clear f2 hf hq
  have hb2 : Below w.heap.size w z := B1.out.trans (hb.mono B1.out.size)
  have B2 : Hid (Below w.heap.size w (z.alloc (.cells (dvX d2 (.slice p3 n3 c3) (.slice p4 n4 c4)) 26))) := hb2.alloc hb2.size _
  have K2 := World.alloc_heap_new z (.cells (dvX d2 (.slice p3 n3 c3) (.slice p4 n4 c4)) 26)
  clear hb hb2 B1
  go_upto_region 3 with fail
  change Code.wp Tryd.prog _ _ _ (z.alloc (.cells (dvX d2 (.slice p3 n3 c3) (.slice p4 n4 c4)) 26))
  generalize z.alloc (.cells (dvX d2 (.slice p3 n3 c3) (.slice p4 n4 c4)) 26) = y2 at *
  generalize z.heap.size = zb at *
  have k0 := (rd_cell K2 0).1
  have k3 := (rd_cell K2 3).1
  have k11 := (rd_cell K2 11).1
  obtain ⟨hnm, hmx, hag⟩ := hnm.out
  simp only [List.getElem?_toArray, List.getElem?_cons_zero, List.getElem?_cons_succ, hnm, hmx, hag] at k0 k3 k11
  replace k0 : y2.cell? ⟨zb, 0, none⟩ = some (.string ⟨#[97]⟩) := k0
  clear K2 hnm hmx hag
  go_wp2
  go_ret
  exact ⟨rfl, B2.out⟩
end Go.Proofs.YtagkgneijdbkoaaDoor
/-
  The statements' own Same: what is said of the region that takes two fields out (layer 8). No conditions but those that each says.
-/
namespace Go.Proofs.YtagkgneijdbkoaaDoor
open Go.RowKit
set_option linter.unusedVariables false

abbrev dvB (d : Dv) (fv qv : Value) : Array Value := #[.string (txt d.nm), .int .i64 d.st, .int .i64 d.es, .int .i64 d.mx, .int .i64 d.sz, .string (txt d.sm), fv, qv, .int .i64 d.po, .int .i64 d.ti, .int .i64 d.re, .int .i64 d.ag]
abbrev zF : Array Value := #[.string ⟨#[]⟩, .int .i64 0, .string ⟨#[]⟩, .int .i64 0, .int .i64 0, .int .i64 0, .int .i64 0, .int .i64 0, .string ⟨#[]⟩]
abbrev fdA (f : Fd) : Array Value := #[.string (txt f.nm), .int .i64 f.pl, .string (txt f.kd), .int .i64 f.wd, .int .i64 f.sn, .int .i64 f.sd, .int .i64 f.on, .int .i64 f.od, .string (txt f.un)]
/-- nine cells are written -/
def put9 (z : World) (b : Nat) (f : Fd) : World := (((((((((z.setCell ⟨b, 0, none⟩ (.string (txt f.nm))).setCell ⟨b, 1, none⟩ (.int .i64 f.pl)).setCell ⟨b, 2, none⟩ (.string (txt f.kd))).setCell ⟨b, 3, none⟩ (.int .i64 f.wd)).setCell ⟨b, 4, none⟩ (.int .i64 f.sn)).setCell ⟨b, 5, none⟩ (.int .i64 f.sd)).setCell ⟨b, 6, none⟩ (.int .i64 f.on)).setCell ⟨b, 7, none⟩ (.int .i64 f.od)).setCell ⟨b, 8, none⟩ (.string (txt f.un)))
theorem put9_at {z : World} {b : Nat} {f : Fd} {t : TypeId} (h : z.heap[b]? = some (.cells zF t (0, 0))) : (put9 z b f).heap[b]? = some (.cells (fdA f) t (0, 0)) := by
  unfold put9
  refine (rd_set (rd_set (rd_set (rd_set (rd_set (rd_set (rd_set (rd_set (rd_set h 0 _) 1 _) 2 _) 3 _) 4 _) 5 _) 6 _) 7 _) 8 _).trans ?_
  simp only [List.setIfInBounds_toArray, List.set_cons_zero, List.set_cons_succ]
theorem put9_below {w z : World} {L b : Nat} {f : Fd} (h : Below L w z) (hb : L ≤ b) : Below L w (put9 z b f) := by
  unfold put9
  repeat (refine Below.setCell ?_ hb _)
  exact h
theorem put9_off {z : World} {b k : Nat} {f : Fd} (hk : k ≠ b) : (put9 z b f).heap[k]? = z.heap[k]? := by
  unfold put9
  simp only [Below.heap_setCell _ _ _ _ (show k ≠ (⟨b, _, none⟩ : Addr).block from hk)]
structure SmG where
  b1 : Nat
  b2 : Nat
structure SmW (w0 : World) (f : Fd) (γ : SmG) (x : Array Bool) (z : World) : Prop where
  low : Below w0.heap.size w0 z
  o12 : x.getD 12 false = true → x.getD 10 false = true
  o13 : x.getD 13 false = true → x.getD 11 false = true
  bx : x.getD 10 false = true → w0.heap.size ≤ γ.b1 ∧ z.heap[γ.b1]? = some (.cells (if x.getD 12 false = true then fdA f else zF) 56 (0, 0))
  by' : x.getD 11 false = true → w0.heap.size ≤ γ.b2 ∧ z.heap[γ.b2]? = some (.cells (if x.getD 13 false = true then fdA f else zF) 59 (0, 0))
  ne : x.getD 10 false = true → x.getD 11 false = true → γ.b1 ≠ γ.b2
theorem SmW.other {w0 : World} {f : Fd} {γ : SmG} {x : Array Bool} {z : World} (h : SmW w0 f γ x z) {i : Nat} (hi : i < 10) : SmW w0 f γ (x.setIfInBounds i true) z := by
  obtain ⟨low, o12, o13, bx, by', ne⟩ := h
  have e : ∀ j, 10 ≤ j → (x.setIfInBounds i true).getD j false = x.getD j false := fun j hj => getD_set_ne false (by omega)
  refine ⟨low, ?_, ?_, ?_, ?_, ?_⟩
  · rw [e 12 (by omega), e 10 (by omega)]; exact o12
  · rw [e 13 (by omega), e 11 (by omega)]; exact o13
  · rw [e 12 (by omega), e 10 (by omega)]; exact bx
  · rw [e 13 (by omega), e 11 (by omega)]; exact by'
  · rw [e 10 (by omega), e 11 (by omega)]; exact ne
theorem SmW.allocX {w0 : World} {f : Fd} {γ : SmG} {x : Array Bool} {z : World} (h : SmW w0 f γ x z) (h10 : x.getD 10 false = false) (h14 : x.size = 14) : SmW w0 f ⟨z.heap.size, γ.b2⟩ (x.setIfInBounds 10 true) (z.alloc (.cells zF 56)) := by
  obtain ⟨low, o12, o13, bx, by', ne⟩ := h
  have s10 : (x.setIfInBounds 10 true).getD 10 false = true := getD_set_at (by rw [h14]; decide)
  have e11 : (x.setIfInBounds 10 true).getD 11 false = x.getD 11 false := getD_set_ne false (by decide)
  have e12 : (x.setIfInBounds 10 true).getD 12 false = x.getD 12 false := getD_set_ne false (by decide)
  have e13 : (x.setIfInBounds 10 true).getD 13 false = x.getD 13 false := getD_set_ne false (by decide)
  have x12 : x.getD 12 false = false := by
    cases e : x.getD 12 false
    · rfl
    · rw [o12 e] at h10; cases h10
  have ba : Below z.heap.size z (z.alloc (.cells zF 56)) := (Below.refl _ _).alloc (Nat.le_refl _) _
  refine ⟨low.alloc low.size _, fun _ => s10, by rw [e11, e13]; exact o13, fun _ => ⟨low.size, ?_⟩, ?_, ?_⟩
  · rw [e12, x12]; exact World.alloc_heap_new z _
  · rw [e11, e13]; intro k
    have q := by' k
    exact ⟨q.1, (ba.block _ (Array.getElem?_eq_some_iff.1 q.2).1).trans q.2⟩
  · rw [e11]; intro _ k
    have q := (Array.getElem?_eq_some_iff.1 (by' k).2).1
    show z.heap.size ≠ γ.b2
    omega
theorem SmW.allocY {w0 : World} {f : Fd} {γ : SmG} {x : Array Bool} {z : World} (h : SmW w0 f γ x z) (h11 : x.getD 11 false = false) (h14 : x.size = 14) : SmW w0 f ⟨γ.b1, z.heap.size⟩ (x.setIfInBounds 11 true) (z.alloc (.cells zF 59)) := by
  obtain ⟨low, o12, o13, bx, by', ne⟩ := h
  have s11 : (x.setIfInBounds 11 true).getD 11 false = true := getD_set_at (by rw [h14]; decide)
  have e10 : (x.setIfInBounds 11 true).getD 10 false = x.getD 10 false := getD_set_ne false (by decide)
  have e12 : (x.setIfInBounds 11 true).getD 12 false = x.getD 12 false := getD_set_ne false (by decide)
  have e13 : (x.setIfInBounds 11 true).getD 13 false = x.getD 13 false := getD_set_ne false (by decide)
  have x13 : x.getD 13 false = false := by
    cases e : x.getD 13 false
    · rfl
    · rw [o13 e] at h11; cases h11
  have ba : Below z.heap.size z (z.alloc (.cells zF 59)) := (Below.refl _ _).alloc (Nat.le_refl _) _
  refine ⟨low.alloc low.size _, by rw [e10, e12]; exact o12, fun _ => s11, ?_, fun _ => ⟨low.size, ?_⟩, ?_⟩
  · rw [e10, e12]; intro k
    have q := bx k
    exact ⟨q.1, (ba.block _ (Array.getElem?_eq_some_iff.1 q.2).1).trans q.2⟩
  · rw [e13, x13]; exact World.alloc_heap_new z _
  · rw [e10]; intro k _
    have q := (Array.getElem?_eq_some_iff.1 (bx k).2).1
    show γ.b1 ≠ z.heap.size
    omega
theorem SmW.storeX {w0 : World} {f : Fd} {γ : SmG} {x : Array Bool} {z : World} (h : SmW w0 f γ x z) (h10 : x.getD 10 false = true) (h12 : x.getD 12 false = false) (h14 : x.size = 14) : SmW w0 f γ (x.setIfInBounds 12 true) (put9 z γ.b1 f) := by
  obtain ⟨low, o12, o13, bx, by', ne⟩ := h
  have s12 : (x.setIfInBounds 12 true).getD 12 false = true := getD_set_at (by rw [h14]; decide)
  have e10 : (x.setIfInBounds 12 true).getD 10 false = x.getD 10 false := getD_set_ne false (by decide)
  have e11 : (x.setIfInBounds 12 true).getD 11 false = x.getD 11 false := getD_set_ne false (by decide)
  have e13 : (x.setIfInBounds 12 true).getD 13 false = x.getD 13 false := getD_set_ne false (by decide)
  have q := bx h10
  rw [h12] at q
  refine ⟨put9_below low q.1, fun _ => e10.trans h10, by rw [e11, e13]; exact o13, fun _ => ⟨q.1, by rw [s12, if_pos rfl]; exact put9_at q.2⟩, ?_, by rw [e10, e11]; exact ne⟩
  rw [e11, e13]; intro k
  have q2 := by' k
  exact ⟨q2.1, (put9_off (fun e => ne h10 k e.symm)).trans q2.2⟩
theorem SmW.storeY {w0 : World} {f : Fd} {γ : SmG} {x : Array Bool} {z : World} (h : SmW w0 f γ x z) (h11 : x.getD 11 false = true) (h13 : x.getD 13 false = false) (h14 : x.size = 14) : SmW w0 f γ (x.setIfInBounds 13 true) (put9 z γ.b2 f) := by
  obtain ⟨low, o12, o13, bx, by', ne⟩ := h
  have s13 : (x.setIfInBounds 13 true).getD 13 false = true := getD_set_at (by rw [h14]; decide)
  have e10 : (x.setIfInBounds 13 true).getD 10 false = x.getD 10 false := getD_set_ne false (by decide)
  have e11 : (x.setIfInBounds 13 true).getD 11 false = x.getD 11 false := getD_set_ne false (by decide)
  have e12 : (x.setIfInBounds 13 true).getD 12 false = x.getD 12 false := getD_set_ne false (by decide)
  have q := by' h11
  rw [h13] at q
  refine ⟨put9_below low q.1, by rw [e10, e12]; exact o12, fun _ => e11.trans h11, ?_, fun _ => ⟨q.1, by rw [s13, if_pos rfl]; exact put9_at q.2⟩, by rw [e10, e11]; exact ne⟩
  rw [e10, e12]; intro k
  have q2 := bx k
  exact ⟨q2.1, (put9_off (ne k h11)).trans q2.2⟩
/-- what the operations yield -/
def smV (A ga oa gb ob k : Nat) (fa fb : Value) (f : Fd) (γ : SmG) (i : Nat) : Value :=
  (#[.pointer (some ⟨A, 6, none⟩), fa, .int .i64 (k : Int), .pointer (some ⟨ga, oa + k * 9, none⟩), .agg (fdA f), .pointer (some ⟨A + 1, 6, none⟩), fb, .int .i64 (k : Int), .pointer (some ⟨gb, ob + k * 9, none⟩), .agg (fdA f), .pointer (some ⟨γ.b1, 0, none⟩), .pointer (some ⟨γ.b2, 0, none⟩), undef, undef] : Array Value).getD i undef
def SmP (A ga oa gb ob k : Nat) (fa fb : Value) (f : Fd) (γ : SmG) (_x : Array Bool) (i : Nat) (v : Value) (_z : World) : Prop := v = smV A ga oa gb ob k fa fb f γ i
theorem smV_x {A ga oa gb ob k : Nat} {fa fb : Value} {f : Fd} {γ : SmG} {b : Nat} {j : Nat} (h : j ≠ 10) : smV A ga oa gb ob k fa fb f γ j = smV A ga oa gb ob k fa fb f ⟨b, γ.b2⟩ j := by
  unfold smV
  match j, h with
  | 0, _ => rfl
  | 1, _ => rfl
  | 2, _ => rfl
  | 3, _ => rfl
  | 4, _ => rfl
  | 5, _ => rfl
  | 6, _ => rfl
  | 7, _ => rfl
  | 8, _ => rfl
  | 9, _ => rfl
  | 10, h => exact absurd rfl h
  | 11, _ => rfl
  | 12, _ => rfl
  | 13, _ => rfl
  | (n + 14), _ => rfl
theorem smV_y {A ga oa gb ob k : Nat} {fa fb : Value} {f : Fd} {γ : SmG} {b : Nat} {j : Nat} (h : j ≠ 11) : smV A ga oa gb ob k fa fb f γ j = smV A ga oa gb ob k fa fb f ⟨γ.b1, b⟩ j := by
  unfold smV
  match j, h with
  | 0, _ => rfl
  | 1, _ => rfl
  | 2, _ => rfl
  | 3, _ => rfl
  | 4, _ => rfl
  | 5, _ => rfl
  | 6, _ => rfl
  | 7, _ => rfl
  | 8, _ => rfl
  | 9, _ => rfl
  | 10, _ => rfl
  | 11, h => exact absurd rfl h
  | 12, _ => rfl
  | 13, _ => rfl
  | (n + 14), _ => rfl
theorem gD_q {x : Array Bool} {j : Nat} (h : x[j]?.getD false = true) : x.getD j false = true := by rw [Array.getD_eq_getD_getElem?]; exact h
/-- a field's nine cells -/
theorem FldsIn.nine {x : World} {g o : Nat} {fs : List Fd} (h : FldsIn x g o fs) {k : Nat} (hk : k < fs.length) (i : Nat) (v : Value) (hv : (fdC fs[k])[i]? = some v) : x.cell? ⟨g, o + k * 9 + i, none⟩ = some v := by
  rw [Nat.mul_comm k 9]; exact h k hk i v hv
end Go.Proofs.YtagkgneijdbkoaaDoor
/-
  The statements' own Same answers 1 of one device, as the program and as the document have it (layer 8). Conditions: at most 4500 fields.
-/
namespace Go.Proofs.YtagkgneijdbkoaaDoor
open Go.RowKit
set_option linter.unusedVariables false

set_option maxRecDepth 100000 in
set_option maxHeartbeats 8000000 in
theorem same_any (d : Dv) (fa qa fb qb : Value) (w : World) (hfa : FldsAt w fa d.fs) (hqa : BytesAt w qa d.rq) (hfb : FldsAt w fb d.fs) (hqb : BytesAt w qb d.rq) (hn : (d.fs.length : Int) ≤ 4500) :
    Calls Tryd.prog 10 #[dvV d fa qa, dvV d fb qb] w fun e y => e = .returned (.int .i64 1) ∧ Below w.heap.size w y := by
  obtain ⟨pa, na, ca, rfl, hna⟩ : ∃ p n c, fa = .slice p n c ∧ n = d.fs.length := by
    rcases hfa with ⟨h1, h2⟩ | ⟨g, o, cap, h1, _⟩
    · exact ⟨_, _, _, h1, by rw [h2]; rfl⟩
    · exact ⟨_, _, _, h1, rfl⟩
  obtain ⟨pb, nb, cb, rfl, hnb⟩ : ∃ p n c, fb = .slice p n c ∧ n = d.fs.length := by
    rcases hfb with ⟨h1, h2⟩ | ⟨g, o, cap, h1, _⟩
    · exact ⟨_, _, _, h1, by rw [h2]; rfl⟩
    · exact ⟨_, _, _, h1, rfl⟩
  obtain rfl : na = nb := hna.trans hnb.symm
  have hn2 : (na : Int) ≤ 4500 := by omega
  replace hna : Hid (na = d.fs.length) := hna
  clear hnb hn
  have bA : Below w.heap.size w ((w.alloc (.cells (dvB d (.slice pa na ca) qa) 26)).alloc (.cells (dvB d (.slice pb na cb) qb) 36)) := ((Below.refl _ _).alloc (Nat.le_refl _) _).alloc (by rw [World.size_alloc]; omega) _
  have hA : ((w.alloc (.cells (dvB d (.slice pa na ca) qa) 26)).alloc (.cells (dvB d (.slice pb na cb) qb) 36)).heap[w.heap.size]? = some (.cells (dvB d (.slice pa na ca) qa) 26 (0, 0)) := map_under _ _ _ _ (World.alloc_heap_new w _)
  have hB : ((w.alloc (.cells (dvB d (.slice pa na ca) qa) 26)).alloc (.cells (dvB d (.slice pb na cb) qb) 36)).heap[w.heap.size + 1]? = some (.cells (dvB d (.slice pb na cb) qb) 36 (0, 0)) := by
    have k := World.alloc_heap_new (w.alloc (.cells (dvB d (.slice pa na ca) qa) 26)) (.cells (dvB d (.slice pb na cb) qb) 36)
    rwa [World.size_alloc] at k
  have kqa := conv_at (hqa.below bA)
  have kqb := conv_at (hqb.below bA)
  have Fa : Hid (FldsAt ((w.alloc (.cells (dvB d (.slice pa na ca) qa) 26)).alloc (.cells (dvB d (.slice pb na cb) qb) 36)) (.slice pa na ca) d.fs) := hfa.below bA
  have Fb : Hid (FldsAt ((w.alloc (.cells (dvB d (.slice pa na ca) qa) 26)).alloc (.cells (dvB d (.slice pb na cb) qb) 36)) (.slice pb na cb) d.fs) := hfb.below bA
  obtain ⟨pqa, nqa, cqa, rfl⟩ := hqa.form'
  obtain ⟨pqb, nqb, cqb, rfl⟩ := hqb.form'
  clear hfa hfb hqa hqb
  go_enter Tryd.func10, Tryd.ntmps10
  go_upto_region 1 with fail
  change Code.wp Tryd.prog _ _ _ ((w.alloc (.cells (dvB d (.slice pa na ca) (.slice pqa nqa cqa)) 26)).alloc (.cells (dvB d (.slice pb na cb) (.slice pqb nqb cqb)) 36))
  replace bA : Hid (Below w.heap.size w ((w.alloc (.cells (dvB d (.slice pa na ca) (.slice pqa nqa cqa)) 26)).alloc (.cells (dvB d (.slice pb na cb) (.slice pqb nqb cqb)) 36))) := bA
  generalize ((w.alloc (.cells (dvB d (.slice pa na ca) (.slice pqa nqa cqa)) 26)).alloc (.cells (dvB d (.slice pb na cb) (.slice pqb nqb cqb)) 36)) = w1 at *
  obtain ⟨c0, f0⟩ := rd_cell hA 0
  obtain ⟨c1, f1⟩ := rd_cell hA 1
  obtain ⟨c2, f2⟩ := rd_cell hA 2
  obtain ⟨c3, f3⟩ := rd_cell hA 3
  obtain ⟨c4, f4⟩ := rd_cell hA 4
  obtain ⟨c5, f5⟩ := rd_cell hA 5
  obtain ⟨c6, f6⟩ := rd_cell hA 6
  obtain ⟨c7, f7⟩ := rd_cell hA 7
  obtain ⟨c8, f8⟩ := rd_cell hA 8
  obtain ⟨c9, f9⟩ := rd_cell hA 9
  obtain ⟨c10, f10⟩ := rd_cell hA 10
  obtain ⟨c11, f11⟩ := rd_cell hA 11
  simp only [List.getElem?_toArray, List.getElem?_cons_zero, List.getElem?_cons_succ] at c0 c1 c2 c3 c4 c5 c6 c7 c8 c9 c10 c11
  obtain ⟨l0, m0⟩ := rd_cell hB 0
  obtain ⟨l1, m1⟩ := rd_cell hB 1
  obtain ⟨l2, m2⟩ := rd_cell hB 2
  obtain ⟨l3, m3⟩ := rd_cell hB 3
  obtain ⟨l4, m4⟩ := rd_cell hB 4
  obtain ⟨l5, m5⟩ := rd_cell hB 5
  obtain ⟨l6, m6⟩ := rd_cell hB 6
  obtain ⟨l7, m7⟩ := rd_cell hB 7
  obtain ⟨l8, m8⟩ := rd_cell hB 8
  obtain ⟨l9, m9⟩ := rd_cell hB 9
  obtain ⟨l10, m10⟩ := rd_cell hB 10
  obtain ⟨l11, m11⟩ := rd_cell hB 11
  simp only [List.getElem?_toArray, List.getElem?_cons_zero, List.getElem?_cons_succ] at l0 l1 l2 l3 l4 l5 l6 l7 l8 l9 l10 l11
  replace hA : Hid (w1.heap[w.heap.size]? = some (.cells (dvB d (.slice pa na ca) (.slice pqa nqa cqa)) 26 (0, 0))) := hA
  replace hB : Hid (w1.heap[w.heap.size + 1]? = some (.cells (dvB d (.slice pb na cb) (.slice pqb nqb cqb)) 36 (0, 0))) := hB
  go_wp2
  clear c0 f0 l0 m0 c1 f1 l1 m1 c2 f2 l2 m2 c3 f3 l3 m3 c4 f4 l4 m4 c5 f5 l5 m5 c6 f6 l6 m6 c7 f7 l7 m7 c8 f8 l8 m8 c9 f9 l9 m9 c10 f10 l10 m10 c11 f11 l11 m11 kqa kqb
  go_loopw [5] (fun vi wr => ∃ k : Nat, (k : Int) ≤ (na : Int) ∧ vi = .int .i64 (k : Int) ∧ Hid (Below w1.heap.size w1 wr)) (fun vi wr => ((na : Int) - intOf vi).toNat)
  case atStart => exact ⟨0, by omega, rfl, Below.refl _ _⟩
  case round =>
    obtain ⟨k, hk, rfl, hb⟩ := hrel
    have hAl : Hid (wr.cell? ⟨w.heap.size, 6, none⟩ = some (.slice pa na ca)) := kp hb.out (rd_cell hA.out 6).1
    have hBl : Hid (wr.cell? ⟨w.heap.size + 1, 6, none⟩ = some (.slice pb na cb)) := kp hb.out (rd_cell hB.out 6).1
    by_cases hlt : k < na
    · have hki : (k : Int) < (na : Int) := by omega
      have hkf : k < d.fs.length := by have := hna.out; omega
      have wk : IntKind.i64.wrap ((k : Int) + 1) = (k : Int) + 1 := by simp only [IntKind.wrap_i64]; omega
      have hkb : 0 ≤ (k : Int) := by omega
      rcases Fa.out with ⟨_, hnil⟩ | ⟨ga, oa, c1, e1, hia, hga⟩
      · rw [hnil] at hkf; cases hkf
      injection e1 with e1 e2 e3
      subst e1
      subst e3
      clear e2
      rcases Fb.out with ⟨_, hnil⟩ | ⟨gb, ob, c1, e1, hib, hgb⟩
      · rw [hnil] at hkf; cases hkf
      injection e1 with e1 e2 e3
      subst e1
      subst e3
      clear e2
      have Na : Hid (∀ i v, (fdC d.fs[k])[i]? = some v → wr.cell? ⟨ga, oa + k * 9 + i, none⟩ = some v) := fun i v hv => kp hb.out (hia.nine hkf i v hv)
      have Nb : Hid (∀ i v, (fdC d.fs[k])[i]? = some v → wr.cell? ⟨gb, ob + k * 9 + i, none⟩ = some v) := fun i v hv => kp hb.out (hib.nine hkf i v hv)
      generalize d.fs[k] = f at *
      clear hia hib hga hgb hkf
      have al0 := hAl.out
      have bl0 := hBl.out
      go_upto_region 6 with fail
      refine region_props3 (SmP w.heap.size ga oa gb ob k (.slice (some ⟨ga, oa, none⟩) na ca) (.slice (some ⟨gb, ob, none⟩) na cb) f) (SmW wr f) ⟨0, 0⟩ (by kernel_rfl) (by kernel_rfl) ?_ ?_ ⟨⟨rfl, rfl, rfl, Nat.le_refl _, fun _ _ => rfl⟩, fun h => (by cases h), fun h => (by cases h), fun h => (by cases h), fun h => (by cases h), fun h => (by cases h)⟩
      · intro γ x a z i op ho hI haf hx hxi hW
        have hi : i < 14 := (List.getElem?_eq_some_iff.1 ho).1
        have xi := getD_false hxi
        match i, hi with
        | 0, _ =>
          obtain rfl := Option.some.inj (show some _ = some op from ho)
          have e1 : a.tmps.getD 2 undef = .pointer (some ⟨w.heap.size, 0, none⟩) := (hI.was (by kernel_rfl)).trans rfl
          go_simp
          exact ⟨_, rfl, γ, rfl, fun j v _ h => h, hW.other (by decide)⟩
        | 1, _ =>
          obtain rfl := Option.some.inj (show some _ = some op from ho)
          have e1 : a.tmps.getD 101 undef = .pointer (some ⟨w.heap.size, 6, none⟩) := Eq.trans (hI.val 0 _ 101 rfl rfl (dep_at haf (by kernel_rfl))) rfl
          have l1 := kp hW.low al0
          go_simp
          exact ⟨_, rfl, γ, rfl, fun j v _ h => h, hW.other (by decide)⟩
        | 2, _ =>
          obtain rfl := Option.some.inj (show some _ = some op from ho)
          have e1 : a.tmps.getD 5 undef = .int .i64 (k : Int) := (hI.was (by kernel_rfl)).trans rfl
          go_simp
          exact ⟨_, rfl, γ, rfl, fun j v _ h => h, hW.other (by decide)⟩
        | 3, _ =>
          obtain rfl := Option.some.inj (show some _ = some op from ho)
          have e1 : a.tmps.getD 102 undef = .slice (some ⟨ga, oa, none⟩) na ca := Eq.trans (hI.val 1 _ 102 rfl rfl (dep_at haf (by kernel_rfl))) rfl
          have e2 : a.tmps.getD 103 undef = .int .i64 (k : Int) := Eq.trans (hI.val 2 _ 103 rfl rfl (dep_at haf (by kernel_rfl))) rfl
          go_simp
          exact ⟨_, rfl, γ, rfl, fun j v _ h => h, hW.other (by decide)⟩
        | 4, _ =>
          obtain rfl := Option.some.inj (show some _ = some op from ho)
          have e1 : a.tmps.getD 104 undef = .pointer (some ⟨ga, oa + k * 9, none⟩) := Eq.trans (hI.val 3 _ 104 rfl rfl (dep_at haf (by kernel_rfl))) rfl
          have l0 := kp hW.low (Na.out 0 _ rfl)
          have l1 := kp hW.low (Na.out 1 _ rfl)
          have l2 := kp hW.low (Na.out 2 _ rfl)
          have l3 := kp hW.low (Na.out 3 _ rfl)
          have l4 := kp hW.low (Na.out 4 _ rfl)
          have l5 := kp hW.low (Na.out 5 _ rfl)
          have l6 := kp hW.low (Na.out 6 _ rfl)
          have l7 := kp hW.low (Na.out 7 _ rfl)
          have l8 := kp hW.low (Na.out 8 _ rfl)
          simp only [Nat.add_zero] at l0
          go_simp
          exact ⟨_, rfl, γ, rfl, fun j v _ h => h, hW.other (by decide)⟩
        | 5, _ =>
          obtain rfl := Option.some.inj (show some _ = some op from ho)
          have e1 : a.tmps.getD 3 undef = .pointer (some ⟨w.heap.size + 1, 0, none⟩) := (hI.was (by kernel_rfl)).trans rfl
          go_simp
          exact ⟨_, rfl, γ, rfl, fun j v _ h => h, hW.other (by decide)⟩
        | 6, _ =>
          obtain rfl := Option.some.inj (show some _ = some op from ho)
          have e1 : a.tmps.getD 106 undef = .pointer (some ⟨w.heap.size + 1, 6, none⟩) := Eq.trans (hI.val 5 _ 106 rfl rfl (dep_at haf (by kernel_rfl))) rfl
          have l1 := kp hW.low bl0
          go_simp
          exact ⟨_, rfl, γ, rfl, fun j v _ h => h, hW.other (by decide)⟩
        | 7, _ =>
          obtain rfl := Option.some.inj (show some _ = some op from ho)
          have e1 : a.tmps.getD 5 undef = .int .i64 (k : Int) := (hI.was (by kernel_rfl)).trans rfl
          go_simp
          exact ⟨_, rfl, γ, rfl, fun j v _ h => h, hW.other (by decide)⟩
        | 8, _ =>
          obtain rfl := Option.some.inj (show some _ = some op from ho)
          have e1 : a.tmps.getD 107 undef = .slice (some ⟨gb, ob, none⟩) na cb := Eq.trans (hI.val 6 _ 107 rfl rfl (dep_at haf (by kernel_rfl))) rfl
          have e2 : a.tmps.getD 108 undef = .int .i64 (k : Int) := Eq.trans (hI.val 7 _ 108 rfl rfl (dep_at haf (by kernel_rfl))) rfl
          go_simp
          exact ⟨_, rfl, γ, rfl, fun j v _ h => h, hW.other (by decide)⟩
        | 9, _ =>
          obtain rfl := Option.some.inj (show some _ = some op from ho)
          have e1 : a.tmps.getD 109 undef = .pointer (some ⟨gb, ob + k * 9, none⟩) := Eq.trans (hI.val 8 _ 109 rfl rfl (dep_at haf (by kernel_rfl))) rfl
          have l0 := kp hW.low (Nb.out 0 _ rfl)
          have l1 := kp hW.low (Nb.out 1 _ rfl)
          have l2 := kp hW.low (Nb.out 2 _ rfl)
          have l3 := kp hW.low (Nb.out 3 _ rfl)
          have l4 := kp hW.low (Nb.out 4 _ rfl)
          have l5 := kp hW.low (Nb.out 5 _ rfl)
          have l6 := kp hW.low (Nb.out 6 _ rfl)
          have l7 := kp hW.low (Nb.out 7 _ rfl)
          have l8 := kp hW.low (Nb.out 8 _ rfl)
          simp only [Nat.add_zero] at l0
          go_simp
          exact ⟨_, rfl, γ, rfl, fun j v _ h => h, hW.other (by decide)⟩
        | 10, _ =>
          obtain rfl := Option.some.inj (show some _ = some op from ho)
          go_simp
          refine ⟨_, rfl, ⟨z.heap.size, γ.b2⟩, rfl, fun j v hj h => Eq.trans h (smV_x ?_), hW.allocX xi hx⟩
          rintro rfl; have hj := gD_q hj; rw [xi] at hj; cases hj
        | 11, _ =>
          obtain rfl := Option.some.inj (show some _ = some op from ho)
          go_simp
          refine ⟨_, rfl, ⟨γ.b1, z.heap.size⟩, rfl, fun j v hj h => Eq.trans h (smV_y ?_), hW.allocY xi hx⟩
          rintro rfl; have hj := gD_q hj; rw [xi] at hj; cases hj
        | 12, _ =>
          obtain rfl := Option.some.inj (show some _ = some op from ho)
          have x10 : x.getD 10 false = true := dep_at haf (by kernel_rfl)
          have e1 : a.tmps.getD 6 undef = .pointer (some ⟨γ.b1, 0, none⟩) := Eq.trans (hI.val 10 _ 6 rfl rfl (dep_at haf (by kernel_rfl))) rfl
          have e2 : a.tmps.getD 105 undef = .agg (fdA f) := Eq.trans (hI.val 4 _ 105 rfl rfl (dep_at haf (by kernel_rfl))) rfl
          have hX := (hW.bx x10).2
          rw [xi] at hX
          replace hX : z.heap[γ.b1]? = some (.cells zF 56 (0, 0)) := hX
          have W' := hW.storeX x10 xi hx
          obtain ⟨b1, b2⟩ := γ
          simp only at e1 hX W'
          obtain ⟨l0, m0⟩ := rd_cell hX 0
          obtain ⟨l1, m1⟩ := rd_cell hX 1
          obtain ⟨l2, m2⟩ := rd_cell hX 2
          obtain ⟨l3, m3⟩ := rd_cell hX 3
          obtain ⟨l4, m4⟩ := rd_cell hX 4
          obtain ⟨l5, m5⟩ := rd_cell hX 5
          obtain ⟨l6, m6⟩ := rd_cell hX 6
          obtain ⟨l7, m7⟩ := rd_cell hX 7
          obtain ⟨l8, m8⟩ := rd_cell hX 8
          simp only [List.getElem?_toArray, List.getElem?_cons_zero, List.getElem?_cons_succ] at l0 l1 l2 l3 l4 l5 l6 l7 l8
          go_simp
          exact ⟨⟨b1, b2⟩, fun j v _ h => h, W'⟩
        | 13, _ =>
          obtain rfl := Option.some.inj (show some _ = some op from ho)
          have x11 : x.getD 11 false = true := dep_at haf (by kernel_rfl)
          have e1 : a.tmps.getD 7 undef = .pointer (some ⟨γ.b2, 0, none⟩) := Eq.trans (hI.val 11 _ 7 rfl rfl (dep_at haf (by kernel_rfl))) rfl
          have e2 : a.tmps.getD 110 undef = .agg (fdA f) := Eq.trans (hI.val 9 _ 110 rfl rfl (dep_at haf (by kernel_rfl))) rfl
          have hX := (hW.by' x11).2
          rw [xi] at hX
          replace hX : z.heap[γ.b2]? = some (.cells zF 59 (0, 0)) := hX
          have W' := hW.storeY x11 xi hx
          obtain ⟨b1, b2⟩ := γ
          simp only at e1 hX W'
          obtain ⟨l0, m0⟩ := rd_cell hX 0
          obtain ⟨l1, m1⟩ := rd_cell hX 1
          obtain ⟨l2, m2⟩ := rd_cell hX 2
          obtain ⟨l3, m3⟩ := rd_cell hX 3
          obtain ⟨l4, m4⟩ := rd_cell hX 4
          obtain ⟨l5, m5⟩ := rd_cell hX 5
          obtain ⟨l6, m6⟩ := rd_cell hX 6
          obtain ⟨l7, m7⟩ := rd_cell hX 7
          obtain ⟨l8, m8⟩ := rd_cell hX 8
          simp only [List.getElem?_toArray, List.getElem?_cons_zero, List.getElem?_cons_succ] at l0 l1 l2 l3 l4 l5 l6 l7 l8
          go_simp
          exact ⟨⟨b1, b2⟩, fun j v _ h => h, W'⟩
      · intro γ x a z hx hall hI hW
        have ha := RegI.tmps (V := smV w.heap.size ga oa gb ob k (.slice (some ⟨ga, oa, none⟩) na ca) (.slice (some ⟨gb, ob, none⟩) na cb) f γ) hI (by kernel_rfl) hall
        have bX := (hW.bx (hall 10 (by decide))).2
        have bY := (hW.by' (hall 11 (by decide))).2
        rw [if_pos (hall 12 (by decide))] at bX
        rw [if_pos (hall 13 (by decide))] at bY
        have lo : Hid (Below w1.heap.size w1 z) := hb.out.trans (hW.low.mono hb.out.size)
        obtain ⟨b1, b2⟩ := γ
        simp only at bX bY
        simp only [putsL, smV, List.setIfInBounds_toArray, List.set_cons_zero, List.set_cons_succ, Array.getD_eq_getD_getElem?, List.getElem?_toArray, List.getElem?_cons_zero, List.getElem?_cons_succ, Option.getD_some] at ha
        subst ha
        clear hI hall hx hW x hb al0 bl0 Na Nb hAl hBl
        obtain ⟨l0, m0⟩ := rd_cell bX 0
        obtain ⟨l1, m1⟩ := rd_cell bX 1
        obtain ⟨l2, m2⟩ := rd_cell bX 2
        obtain ⟨l3, m3⟩ := rd_cell bX 3
        obtain ⟨l4, m4⟩ := rd_cell bX 4
        obtain ⟨l5, m5⟩ := rd_cell bX 5
        obtain ⟨l6, m6⟩ := rd_cell bX 6
        obtain ⟨l7, m7⟩ := rd_cell bX 7
        obtain ⟨l8, m8⟩ := rd_cell bX 8
        simp only [List.getElem?_toArray, List.getElem?_cons_zero, List.getElem?_cons_succ] at l0 l1 l2 l3 l4 l5 l6 l7 l8
        obtain ⟨p0, q0⟩ := rd_cell bY 0
        obtain ⟨p1, q1⟩ := rd_cell bY 1
        obtain ⟨p2, q2⟩ := rd_cell bY 2
        obtain ⟨p3, q3⟩ := rd_cell bY 3
        obtain ⟨p4, q4⟩ := rd_cell bY 4
        obtain ⟨p5, q5⟩ := rd_cell bY 5
        obtain ⟨p6, q6⟩ := rd_cell bY 6
        obtain ⟨p7, q7⟩ := rd_cell bY 7
        obtain ⟨p8, q8⟩ := rd_cell bY 8
        simp only [List.getElem?_toArray, List.getElem?_cons_zero, List.getElem?_cons_succ] at p0 p1 p2 p3 p4 p5 p6 p7 p8
        go_upto_region 7 with fail
        clear bX bY m0 q0 m1 q1 m2 q2 m3 q3 m4 q4 m5 q5 m6 q6 m7 q7 m8 q8
        obtain ⟨nm, pl, kd, wd, sn, sd, on, od, un⟩ := f
        simp only at *
        have kl0 := cell_regrown l0
        have kp0 := cell_regrown p0
        have kl1 := cell_regrown l1
        have kp1 := cell_regrown p1
        have kl2 := cell_regrown l2
        have kp2 := cell_regrown p2
        have kl3 := cell_regrown l3
        have kp3 := cell_regrown p3
        have kl4 := cell_regrown l4
        have kp4 := cell_regrown p4
        have kl5 := cell_regrown l5
        have kp5 := cell_regrown p5
        have kl6 := cell_regrown l6
        have kp6 := cell_regrown p6
        have kl7 := cell_regrown l7
        have kp7 := cell_regrown p7
        have kl8 := cell_regrown l8
        have kp8 := cell_regrown p8
        refine wp_region_quiet_below (by kernel_rfl) (by kernel_rfl) ?_
        repeat (go_big_quiet_step (first
          | (go_at_call 17; with_reducible exact Calls.regrown_of (plain_any sn sd _))
          | (go_at_call 17; with_reducible exact Calls.regrown_of (plain_any on od _))))
        refine wpQuiet_nil ?_
        intro _ hw'
        obtain ⟨⟨dq, osq⟩, hw''⟩ := hw'
        subst hw''
        replace lo : Hid (Below w1.heap.size w1 (Sort.grow (redrawn z dq) osq)) := lo.out.trans ((below_regrown z dq osq).mono lo.out.size)
        clear kl0 kp0 l0 p0 kl1 kp1 l1 p1 kl2 kp2 l2 p2 kl3 kp3 l3 p3 kl4 kp4 l4 p4 kl5 kp5 l5 p5 kl6 kp6 l6 p6 kl7 kp7 l7 p7 kl8 kp8 l8 p8
        generalize Sort.grow (redrawn z dq) osq = w5 at *
        go_wp2
        exact ⟨⟨k + 1, by omega, by simp, lo⟩, by simp [intOf]; omega⟩
    · obtain rfl : k = na := by omega
      have hAl := hAl.out
      have hBl := hBl.out
      have lo : Hid (Below w.heap.size w wr) := bA.out.trans (hb.out.mono bA.out.size)
      go_wp2
      go_ret
      exact ⟨rfl, lo.out⟩
end Go.Proofs.YtagkgneijdbkoaaDoor
