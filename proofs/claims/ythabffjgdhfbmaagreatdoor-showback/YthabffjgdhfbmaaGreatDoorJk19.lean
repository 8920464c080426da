/-
  Texts that belong together, one behind the other: DsParse, SnOp, ShTx, ShAw, PlainR, DsSame0. Conditions: as each says.
-/
import Derived.BigQuiet
import Derived.ChangeOld
import Derived.Deep.AppendLies
import Derived.Deep.CutRange
import Derived.Deep.QuietTactic
import Derived.Deep.RegionHeld3
import Derived.Deep.SlicePairs
import Derived.Deep.Strs
import Derived.Laws.BitsAllLaws
import Derived.Laws.OwnMore
import Derived.Laws.Shifts
import Derived.Lib.QuietBelow
import Derived.Lib.QuietBelowIn
import Derived.Maps.AppendAt
import Derived.OpenShut
import Derived.ProofKit
import Derived.RangeFuncCalls
import Derived.ShutString
import Derived.Sort.BigQuietIn
import Derived.Test.YthabffjgdhfbmaaGreatDoorProg
import Derived.Test.YthabffjgdhfbmaaGreatDoorJk1
import Derived.Test.YthabffjgdhfbmaaGreatDoorJk2
import Derived.Test.YthabffjgdhfbmaaGreatDoorJk3
import Derived.Test.YthabffjgdhfbmaaGreatDoorJk4
import Derived.Test.YthabffjgdhfbmaaGreatDoorJk5
import Derived.Test.YthabffjgdhfbmaaGreatDoorJk6
import Derived.Test.YthabffjgdhfbmaaGreatDoorJk7
import Derived.Test.YthabffjgdhfbmaaGreatDoorJk8
import Derived.Test.YthabffjgdhfbmaaGreatDoorJk9
import Derived.Test.YthabffjgdhfbmaaGreatDoorJk10
import Derived.Test.YthabffjgdhfbmaaGreatDoorJk11
import Derived.Test.YthabffjgdhfbmaaGreatDoorJk12
import Derived.Test.YthabffjgdhfbmaaGreatDoorJk13
import Derived.Test.YthabffjgdhfbmaaGreatDoorJk14
import Derived.Test.YthabffjgdhfbmaaGreatDoorJk15
import Derived.Test.YthabffjgdhfbmaaGreatDoorJk16
import Derived.Test.YthabffjgdhfbmaaGreatDoorJk17
import Derived.Test.YthabffjgdhfbmaaGreatDoorJk18
set_option maxRecDepth 100000
set_option maxHeartbeats 32000000
set_option linter.unusedVariables false
namespace Go.Proofs.YthabffjgdhfbmaaGreatDoor
open Go.RowKit
def parseM (l : List UInt8) : Dv × Int × Nat := if lexErr l = 0 then readM (lrOf (lexRows l)) else (dv0, (lexLine l : Int), lexErr l)
theorem RowsAtC.rowsC {x : World} {v : Value} {rs : List Ln} (h : RowsAtC x v rs) : RowsC x.heap.size x v (lrOf rs) := by
 have hl : (lrOf rs).length = rs.length := by unfold lrOf; simp
 rcases h with ⟨h1, h2⟩ | ⟨g, o, cap, h1, h2, h3⟩
 · exact .inl ⟨h1, by rw [h2]; rfl⟩
 · refine .inr ⟨g, o, cap, by rw [hl]; exact h1, fun j hj => ?_, h3⟩
   have hj' : j < rs.length := by omega
   have e : (lrOf rs)[j] = ((rs[j].1 : Int), rs[j].2) := by
    have k : (lrOf rs)[j]? = some ((rs[j].1 : Int), rs[j].2) := by unfold lrOf; rw [List.getElem?_map, List.getElem?_eq_getElem hj']; rfl
    rw [List.getElem?_eq_getElem hj] at k
    exact Option.some.inj k
   rw [e]
   obtain ⟨q1, u, q2, q3, q4⟩ := h2 j hj'
   refine ⟨q1, u, q2, ?_⟩
   rcases q3 with k | ⟨g', o', cap', k1, k2, k3⟩
   · exact .inl ⟨none, 0, k⟩
   · exact .inr ⟨g', o', cap', k1, q4 _ _ _ k1, k2, k3⟩
def RdC (rs : List Lr) : Prop := ∀ x v, RowsC x.heap.size x v rs → Calls Tryz.prog 40 #[v] x (ReadQ x (readM rs))
theorem flush_wd {M : Nat} {ws : List Wd} {w : Wd} (h : ∀ z ∈ ws, z.length ≤ M) (hw : w.length ≤ M) : ∀ z ∈ flushW ws w, z.length ≤ M := by
 intro z hz
 unfold flushW at hz
 split at hz
 · exact h z hz
 · rcases List.mem_append.1 hz with hz | hz
   · exact h z hz
   · have : z = w := by simpa using hz
     rw [this]; exact hw
theorem close_wd {M l : Nat} {ws : List Wd} (h : ∀ z ∈ ws, z.length ≤ M) : ∀ r ∈ closeL l ws, ∀ z ∈ r.2, z.length ≤ M := by
 intro r hr z hz
 unfold closeL at hr
 split at hr
 · have : r = (l, ws) := by simpa using hr
   rw [this] at hz; exact h z hz
 · cases hr
theorem scan_wd (s : List UInt8) : ∀ (l : Nat) (ws : List Wd) (w : Wd) (R : List Ln) (M : Nat), scanL l ws w s = .ok R → (∀ z ∈ ws, z.length ≤ M) → w.length + s.length ≤ M → ∀ r ∈ R, ∀ z ∈ r.2, z.length ≤ M := by
 induction s with
 | nil =>
  intro l ws w R M h hws hw
  unfold scanL at h
  cases h
  exact close_wd (flush_wd hws (by simpa using hw))
 | cons c s ih =>
  intro l ws w R M h hws hw
  rw [List.length_cons] at hw
  unfold scanL at h
  by_cases h10 : c = 10
  · rw [if_pos h10] at h
    cases hs : scanL (l + 1) [] [] s with
    | error n => rw [hs] at h; cases h
    | ok t =>
     rw [hs] at h
     cases h
     intro r hr
     rcases List.mem_append.1 hr with hr | hr
     · exact close_wd (flush_wd hws (by omega)) r hr
     · exact ih _ _ _ _ M hs (fun z hz => by cases hz) (by simp; omega) r hr
  rw [if_neg h10] at h
  by_cases h32 : c = 32
  · rw [if_pos h32] at h
    exact ih _ _ _ _ M h (flush_wd hws (by omega)) (by simp; omega)
  rw [if_neg h32] at h
  split at h
  · exact ih _ _ _ _ M h hws (by simp; omega)
  · cases h
theorem lines_bd (l : List UInt8) : ((lrOf (lexRows l)).length : Int) ≤ 4500 ∧ (∀ r ∈ lrOf (lexRows l), (r.2.length : Int) ≤ 4500) ∧ ∀ r ∈ lrOf (lexRows l), ∀ z ∈ r.2, (z.length : Int) ≤ 5000 := by
 have h := lex_len l
 have hl : (lrOf (lexRows l)).length = (lexRows l).length := by unfold lrOf; simp
 refine ⟨by omega, fun r hr => ?_, fun r hr z hz => ?_⟩
 · obtain ⟨q, hq, rfl⟩ := List.mem_map.1 hr
   have := h.2 q hq
   show (q.2.length : Int) ≤ 4500
   omega
 · obtain ⟨q, hq, rfl⟩ := List.mem_map.1 hr
   have hz : z ∈ q.2 := hz
   have k : z.length ≤ 4000 := by
    unfold lexRows at hq
    split at hq
    · rename_i hs
      cases hc : scanL 1 [] [] l with
      | error n => rw [hc] at hq; cases hq
      | ok R =>
       rw [hc] at hq
       exact scan_wd l _ _ _ R 4000 hc (fun z hz => by cases hz) (by simp; omega) q hq z hz
    · cases hq
   omega
theorem FldsAt.form {y : World} {v : Value} {fs : List Fd} (h : FldsAt y v fs) : ∃ p n c, v = .slice p n c := by
 rcases h with ⟨rfl, _⟩ | ⟨g, o, cap, rfl, _⟩
 · exact ⟨none, 0, 0, rfl⟩
 · exact ⟨_, _, _, rfl⟩
theorem BytesAt.form' {y : World} {v : Value} {bs : List Nat} (h : BytesAt y v bs) : ∃ p n c, v = .slice p n c := by
 rcases h with ⟨rfl, _⟩ | ⟨g, o, cap, rfl, _⟩
 · exact ⟨none, 0, 0, rfl⟩
 · exact ⟨_, _, _, rfl⟩
theorem FldsAt.on' {x y : World} {v : Value} {fs : List Fd} (h : FldsAt x v fs) (hk : ∀ g, v.ownBlock = some g → y.heap[g]? = x.heap[g]?) : FldsAt y v fs := by
 rcases h with h | ⟨g, o, cap, rfl, h0, h2, h3⟩
 · exact .inl h
 · have k := hk g rfl
   refine .inr ⟨g, o, cap, rfl, h0, fun j hj i u hu => (World.cell?_of_block (a := ⟨g, o + 9 * j + i, none⟩) k).trans (h2 j hj i u hu), ?_⟩
   rw [Array.getElem?_eq_getElem h3] at k
   exact (Array.getElem?_eq_some_iff.1 k).1
theorem BytesAt.on' {x y : World} {v : Value} {bs : List Nat} (h : BytesAt x v bs) (hk : ∀ g, v.ownBlock = some g → y.heap[g]? = x.heap[g]?) : BytesAt y v bs := by
 rcases h with h | ⟨g, o, cap, rfl, h2, h3⟩
 · exact .inl h
 · have k := hk g rfl
   refine .inr ⟨g, o, cap, rfl, fun j hj => (World.cell?_of_block (a := ⟨g, o + j, none⟩) k).trans (h2 j hj), ?_⟩
   rw [Array.getElem?_eq_getElem h3] at k
   exact (Array.getElem?_eq_some_iff.1 k).1
theorem parse_any (s : ByteArray) (w : World) (T7 : Tab7 w) : Calls Tryz.prog 28 #[.string s] w (ReadQ w (parseM s.data.toList)) := by
 have B0 : Hid (Below w.heap.size w (w.alloc (.cells dz 33))) := (Below.refl _ _).alloc (Nat.le_refl _) _
 have R0 : Hid ((w.alloc (.cells dz 33)).heap[w.heap.size]? = some (.cells dz 33 (0, 0))) := World.alloc_heap_new w _
 have hR : Hid (Calls Tryz.prog 38 #[.string s] (w.alloc (.cells dz 33)) fun e w' => ∃ v, e = .returned (.tuple #[v, .int .i64 ((lexLine s.data.toList : Nat) : Int), .int .i64 ((lexErr s.data.toList : Nat) : Int)]) ∧ RowsAtC w' v (lexRows s.data.toList) ∧ Below (w.alloc (.cells dz 33)).heap.size (w.alloc (.cells dz 33)) w') := HRC s _ (T7.below B0.out)
 clear T7
 by_cases he : lexErr s.data.toList = 0
 · have eT : parseM s.data.toList = readM (lrOf (lexRows s.data.toList)) := by unfold parseM; rw [if_pos he]
   rw [eT]
   rw [he] at hR
   have bd := lines_bd s.data.toList
   generalize lexRows s.data.toList = rs at *
   have rd : Hid (RdC (lrOf rs)) := fun x v h => dread_any (lrOf rs) v x h bd.1 bd.2.1 bd.2.2
   clear he eT bd
   generalize ((lexLine s.data.toList : Nat) : Int) = L at *
   go_enter Tryz.func28, Tryz.ntmps28
   go_upto_region 1 with fail
   change Code.wp Tryz.prog _ _ _ (w.alloc (.cells dz 33))
   generalize w.alloc (.cells dz 33) = w0 at *
   go_wp2_with fail
   refine hR.out.mono ?_
   rintro e w1 ⟨v, rfl, hv, hb1⟩
   have rc := rd.out w1 v hv.rowsC
   have R1 : Hid (w1.heap[w.heap.size]? = some (.cells dz 33 (0, 0))) := (hb1.block _ (Array.getElem?_eq_some_iff.1 R0.out).1).trans R0.out
   have B1 : Hid (Below w.heap.size w w1) := B0.out.trans (hb1.mono B0.out.size)
   generalize readM (lrOf rs) = T at *
   replace rc : Hid (Calls Tryz.prog 40 #[v] w1 (ReadQ w1 T)) := rc
   clear hv hb1 hR rd R0 B0
   go_wp2_with fail
   refine rc.out.mono ?_
   rintro e y ⟨fv, qv, rfl, hf, hq, hb, nf0, nq0⟩
   obtain ⟨pf, nf, cf, rfl⟩ := hf.form
   obtain ⟨pq, mq, cq, rfl⟩ := hq.form'
   have R2 : y.heap[w.heap.size]? = some (.cells dz 33 (0, 0)) := (hb.block _ (Array.getElem?_eq_some_iff.1 R1.out).1).trans R1.out
   have B2 : Hid (Below w.heap.size w y) := B1.out.trans (hb.mono B1.out.size)
   have Rl : w.heap.size < w1.heap.size := (Array.getElem?_eq_some_iff.1 R1.out).1
   replace hf : Hid (FldsAt y (.slice pf nf cf) T.1.fs) := hf
   replace hq : Hid (BytesAt y (.slice pq mq cq) T.1.rq) := hq
   have fN : Hid (∀ g, (Value.slice pf nf cf).ownBlock = some g → w.heap.size < g) := fun g h => by have := nf0 g h; omega
   have qN : Hid (∀ g, (Value.slice pq mq cq).ownBlock = some g → w.heap.size < g) := fun g h => by have := nq0 g h; omega
   obtain ⟨c0, f0⟩ := rd_cell R2 0
   obtain ⟨c1, f1⟩ := rd_cell R2 1
   obtain ⟨c2, f2⟩ := rd_cell R2 2
   obtain ⟨c3, f3⟩ := rd_cell R2 3
   obtain ⟨c4, f4⟩ := rd_cell R2 4
   obtain ⟨c5, f5⟩ := rd_cell R2 5
   obtain ⟨c6, f6⟩ := rd_cell R2 6
   obtain ⟨c7, f7⟩ := rd_cell R2 7
   obtain ⟨c8, f8⟩ := rd_cell R2 8
   obtain ⟨c9, f9⟩ := rd_cell R2 9
   obtain ⟨c10, f10⟩ := rd_cell R2 10
   obtain ⟨c11, f11⟩ := rd_cell R2 11
   simp only [List.getElem?_toArray, List.getElem?_cons_zero, List.getElem?_cons_succ] at c0 c1 c2 c3 c4 c5 c6 c7 c8 c9 c10 c11
   replace R2 : Hid (y.heap[w.heap.size]? = some (.cells dz 33 (0, 0))) := R2
   clear nf0 nq0 hb rc R1 B1 Rl
   obtain ⟨d, ln, en⟩ := T
   simp only at *
   go_wp2
   change bodyPost _ _ _ _ _ (put12 y w.heap.size (.string (txt d.nm)) (.int .i64 d.st) (.int .i64 d.es) (.int .i64 d.mx) (.int .i64 d.sz) (.string (txt d.sm)) (.slice pf nf cf) (.slice pq mq cq) (.int .i64 d.po) (.int .i64 d.ti) (.int .i64 d.re) (.int .i64 d.ag))
   have pa := put12_at (y := y) R2.out (.string (txt d.nm)) (.int .i64 d.st) (.int .i64 d.es) (.int .i64 d.mx) (.int .i64 d.sz) (.string (txt d.sm)) (.slice pf nf cf) (.slice pq mq cq) (.int .i64 d.po) (.int .i64 d.ti) (.int .i64 d.re) (.int .i64 d.ag)
   have pb := put12_below B2.out (Nat.le_refl w.heap.size) (.string (txt d.nm)) (.int .i64 d.st) (.int .i64 d.es) (.int .i64 d.mx) (.int .i64 d.sz) (.string (txt d.sm)) (.slice pf nf cf) (.slice pq mq cq) (.int .i64 d.po) (.int .i64 d.ti) (.int .i64 d.re) (.int .i64 d.ag)
   have off : ∀ g, w.heap.size < g → (put12 y w.heap.size (.string (txt d.nm)) (.int .i64 d.st) (.int .i64 d.es) (.int .i64 d.mx) (.int .i64 d.sz) (.string (txt d.sm)) (.slice pf nf cf) (.slice pq mq cq) (.int .i64 d.po) (.int .i64 d.ti) (.int .i64 d.re) (.int .i64 d.ag)).heap[g]? = y.heap[g]? := fun g hg => put12_off (by omega) _ _ _ _ _ _ _ _ _ _ _ _
   generalize put12 y w.heap.size (.string (txt d.nm)) (.int .i64 d.st) (.int .i64 d.es) (.int .i64 d.mx) (.int .i64 d.sz) (.string (txt d.sm)) (.slice pf nf cf) (.slice pq mq cq) (.int .i64 d.po) (.int .i64 d.ti) (.int .i64 d.re) (.int .i64 d.ag) = yy at *
   refine bodyPost_ret (res_dev3 Tryz.results28 rfl rfl rfl pa) rfl ?_
   exact ⟨.slice pf nf cf, .slice pq mq cq, rfl, hf.out.on' fun g hg => off g (fN.out g hg), hq.out.on' fun g hg => off g (qN.out g hg), pb, fun g h => Nat.le_of_lt (fN.out g h), fun g h => Nat.le_of_lt (qN.out g h)⟩
 · have eT : parseM s.data.toList = (dv0, (lexLine s.data.toList : Int), lexErr s.data.toList) := by unfold parseM; rw [if_neg he]
   rw [eT]
   have hne : (((lexErr s.data.toList : Nat) : Int) != 0) = true := by rw [bne_iff_ne]; omega
   generalize lexRows s.data.toList = rs at *
   generalize lexErr s.data.toList = E at *
   generalize lexLine s.data.toList = L at *
   clear he eT
   go_enter Tryz.func28, Tryz.ntmps28
   go_upto_region 1 with fail
   change Code.wp Tryz.prog _ _ _ (w.alloc (.cells dz 33))
   generalize w.alloc (.cells dz 33) = w0 at *
   go_wp2_with fail
   refine hR.out.mono ?_
   rintro e w1 ⟨v, rfl, hv, hb1⟩
   have R1 : w1.heap[w.heap.size]? = some (.cells dz 33 (0, 0)) := (hb1.block _ (Array.getElem?_eq_some_iff.1 R0.out).1).trans R0.out
   have B1 : Hid (Below w.heap.size w w1) := B0.out.trans (hb1.mono B0.out.size)
   obtain ⟨c0, f0⟩ := rd_cell R1 0
   obtain ⟨c1, f1⟩ := rd_cell R1 1
   obtain ⟨c2, f2⟩ := rd_cell R1 2
   obtain ⟨c3, f3⟩ := rd_cell R1 3
   obtain ⟨c4, f4⟩ := rd_cell R1 4
   obtain ⟨c5, f5⟩ := rd_cell R1 5
   obtain ⟨c6, f6⟩ := rd_cell R1 6
   obtain ⟨c7, f7⟩ := rd_cell R1 7
   obtain ⟨c8, f8⟩ := rd_cell R1 8
   obtain ⟨c9, f9⟩ := rd_cell R1 9
   obtain ⟨c10, f10⟩ := rd_cell R1 10
   obtain ⟨c11, f11⟩ := rd_cell R1 11
   simp only [List.getElem?_toArray, List.getElem?_cons_zero, List.getElem?_cons_succ] at c0 c1 c2 c3 c4 c5 c6 c7 c8 c9 c10 c11
   replace R1 : Hid (w1.heap[w.heap.size]? = some (.cells dz 33 (0, 0))) := R1
   clear hv hb1 hR R0 B0
   go_wp2_with fail
   change bodyPost _ _ _ _ _ (put12 w1 w.heap.size (.string ⟨#[]⟩) (.int .i64 0) (.int .i64 0) (.int .i64 0) (.int .i64 0) (.string ⟨#[]⟩) (.slice none 0 0) (.slice none 0 0) (.int .i64 0) (.int .i64 0) (.int .i64 0) (.int .i64 0))
   have pa := put12_at (y := w1) R1.out (.string ⟨#[]⟩) (.int .i64 0) (.int .i64 0) (.int .i64 0) (.int .i64 0) (.string ⟨#[]⟩) (.slice none 0 0) (.slice none 0 0) (.int .i64 0) (.int .i64 0) (.int .i64 0) (.int .i64 0)
   have pb := put12_below B1.out (Nat.le_refl w.heap.size) (.string ⟨#[]⟩) (.int .i64 0) (.int .i64 0) (.int .i64 0) (.int .i64 0) (.string ⟨#[]⟩) (.slice none 0 0) (.slice none 0 0) (.int .i64 0) (.int .i64 0) (.int .i64 0) (.int .i64 0)
   generalize put12 w1 w.heap.size (.string ⟨#[]⟩) (.int .i64 0) (.int .i64 0) (.int .i64 0) (.int .i64 0) (.string ⟨#[]⟩) (.slice none 0 0) (.slice none 0 0) (.int .i64 0) (.int .i64 0) (.int .i64 0) (.int .i64 0) = yy at *
   refine bodyPost_ret (res_dev3 Tryz.results28 rfl rfl rfl pa) rfl ?_
   exact ⟨nilS, nilS, rfl, .inl ⟨rfl, rfl⟩, .inl ⟨rfl, rfl⟩, pb, fun g h => (by cases h), fun g h => (by cases h)⟩
end Go.Proofs.YthabffjgdhfbmaaGreatDoor
namespace Go.Proofs.YthabffjgdhfbmaaGreatDoor
open Go.ChangeShapes Go.WideShapes Go.ChangeAt Go.RowKit
open Go.Deep (open_slice)
theorem clStr : Tryz.prog.cellsOf 9 = 1 := by kernel_rfl
theorem clInt : Tryz.prog.cellsOf 3 = 1 := by kernel_rfl
theorem clI64 : Tryz.prog.cellsOf 2 = 1 := by kernel_rfl
theorem clFs : Tryz.prog.cellsOf 22 = 1 := by kernel_rfl
theorem clBs : Tryz.prog.cellsOf 23 = 1 := by kernel_rfl
theorem clRt : Tryz.prog.cellsOf 62 = 2 := by kernel_rfl
theorem clFd : Tryz.prog.cellsOf 64 = 9 := by kernel_rfl
theorem clDv : Tryz.prog.cellsOf 25 = 12 := by kernel_rfl
structure FdN (f : Fd) : Prop where
 pl : I64 f.pl
 wd : I64 f.wd
 sn : I64 f.sn
 sd : I64 f.sd
 on : I64 f.on
 od : I64 f.od
theorem cell_plainS {x : World} {a : Addr} {v : Value} (h : x.cell? a = some v) : a.spot = none ∧ a.block < x.heap.size := by
 obtain ⟨g, o, sp⟩ := a
 unfold World.cell? at h
 simp only at h
 split at h
 · rename_i c t f hb
   refine ⟨?_, (Array.getElem?_eq_some_iff.1 hb).1⟩
   cases sp with
   | none => rfl
   | some s => simp at h
 · cases h
section
variable {H : Type} {enc : TypeId × Value → H} {w : World}
theorem op_str {n : Nat} {c : Value} {y : DataW H × List MemPlace} (h : DataW.trod enc Tryz.prog w 0 (fun _ => true) true n 9 [c] = some y) : ∃ z : Wd, c = .string (txt z) := by
 obtain ⟨s, hs, _⟩ := DataW.trod_string Tryz.underlying9 h
 exact ⟨s.data.toList, by rw [txt_of]; simpa using hs⟩
theorem op_int {n : Nat} {c : Value} {y : DataW H × List MemPlace} (h : DataW.trod enc Tryz.prog w 0 (fun _ => true) true n 3 [c] = some y) : ∃ z : Int, c = .int .i64 z ∧ I64 z := by
 obtain ⟨z, hs, _, hb⟩ := DataW.trod_int Tryz.underlying3 h
 exact ⟨z, by simpa using hs, bd_i64 hb⟩
theorem op_i64 {n : Nat} {c : Value} {y : DataW H × List MemPlace} (h : DataW.trod enc Tryz.prog w 0 (fun _ => true) true n 2 [c] = some y) : ∃ z : Int, c = .int .i64 z ∧ I64 z := by
 obtain ⟨z, hs, _, hb⟩ := DataW.trod_int Tryz.underlying2 h
 exact ⟨z, by simpa using hs, bd_i64 hb⟩
theorem op_rt {n : Nat} {a b : Value} {y : DataW H × List MemPlace} (h : DataW.trod enc Tryz.prog w 0 (fun _ => true) true n 62 [a, b] = some y) : ∃ x z : Int, a = .int .i64 x ∧ b = .int .i64 z ∧ I64 x ∧ I64 z := by
 obtain ⟨xs, m, _, _, hl, hlen, hf⟩ := DataW.trod_struct Tryz.underlying62 h
 match xs, hlen with
 | [y0, y1], _ =>
  have h0 : DataW.trod enc Tryz.prog w 0 (fun _ => true) true m 2 [a] = some y0 := by simpa [clI64] using hf 0 _ rfl
  have h1 : DataW.trod enc Tryz.prog w 0 (fun _ => true) true m 2 [b] = some y1 := by simpa [clI64] using hf 1 _ rfl
  obtain ⟨x, e0, b0⟩ := op_i64 h0
  obtain ⟨z, e1, b1⟩ := op_i64 h1
  exact ⟨x, z, e0, e1, b0, b1⟩
theorem op_fd {n : Nat} {cs : List Value} {y : DataW H × List MemPlace} (h : DataW.trod enc Tryz.prog w 0 (fun _ => true) true n 64 cs = some y) : ∃ f : Fd, cs = fdC f ∧ FdN f := by
 obtain ⟨xs, m, _, _, hl, hlen, hf⟩ := DataW.trod_struct Tryz.underlying64 h
 rw [clFd] at hl
 match cs, hl with
 | [c0, c1, c2, c3, c4, c5, c6, c7, c8], _ =>
  match xs, hlen with
  | [y0, y1, y2, y3, y4, y5, y6], _ =>
   have h0 : DataW.trod enc Tryz.prog w 0 (fun _ => true) true m 9 [c0] = some y0 := by simpa [clStr] using hf 0 _ rfl
   have h1 : DataW.trod enc Tryz.prog w 0 (fun _ => true) true m 3 [c1] = some y1 := by simpa [clInt] using hf 1 _ rfl
   have h2 : DataW.trod enc Tryz.prog w 0 (fun _ => true) true m 9 [c2] = some y2 := by simpa [clStr] using hf 2 _ rfl
   have h3 : DataW.trod enc Tryz.prog w 0 (fun _ => true) true m 3 [c3] = some y3 := by simpa [clInt] using hf 3 _ rfl
   have h4 : DataW.trod enc Tryz.prog w 0 (fun _ => true) true m 62 [c4, c5] = some y4 := by simpa [clRt] using hf 4 _ rfl
   have h5 : DataW.trod enc Tryz.prog w 0 (fun _ => true) true m 62 [c6, c7] = some y5 := by simpa [clRt] using hf 5 _ rfl
   have h6 : DataW.trod enc Tryz.prog w 0 (fun _ => true) true m 9 [c8] = some y6 := by simpa [clStr] using hf 6 _ rfl
   obtain ⟨z0, rfl⟩ := op_str h0
   obtain ⟨z1, rfl, b1⟩ := op_int h1
   obtain ⟨z2, rfl⟩ := op_str h2
   obtain ⟨z3, rfl, b3⟩ := op_int h3
   obtain ⟨z4, z5, rfl, rfl, b4, b5⟩ := op_rt h4
   obtain ⟨z6, z7, rfl, rfl, b6, b7⟩ := op_rt h5
   obtain ⟨z8, rfl⟩ := op_str h6
   exact ⟨⟨z0, z1, z2, z3, z4, z5, z6, z7, z8⟩, rfl, b1, b3, b4, b5, b6, b7⟩
theorem choose_ltS {α : Type} (d0 : α) {n : Nat} {p : Nat → α → Prop} (h : ∀ i, i < n → ∃ a, p i a) : ∃ f : Nat → α, ∀ i, i < n → p i (f i) := by
 refine ⟨fun i => if hi : i < n then Classical.choose (h i hi) else d0, fun i hi => ?_⟩
 simp only [hi, dif_pos]
 exact Classical.choose_spec (h i hi)
theorem op_fds {n : Nat} {c : Value} {y : DataW H × List MemPlace} (h : DataW.trod enc Tryz.prog w 0 (fun _ => true) true n 22 [c] = some y) : ∃ fs, FldsV w c fs ∧ ∀ f ∈ fs, FdN f := by
 rcases open_slice Tryz.underlying22 h with ⟨hc, _⟩ | ⟨a, len, cap, m, n', D, Pl, hc, _, hl, _, hm, _, hx⟩
 · obtain rfl : c = .slice none 0 0 := by simpa using hc
   exact ⟨[], .inl ⟨none, 0, rfl, rfl⟩, fun f hf => by cases hf⟩
 · obtain rfl : c = .slice (some a) len cap := by simpa using hc
   simp only [if_true] at hm
   subst hm
   by_cases h0 : len = 0
   · subst h0
     exact ⟨[], .inl ⟨_, _, rfl, rfl⟩, fun f hf => by cases hf⟩
   · rw [clFd] at hx
     have each : ∀ i, i < len → ∃ f : Fd, (∀ k u, (fdC f)[k]? = some u → w.cell? ((a.add (i * 9)).add k) = some u) ∧ FdN f := by
      intro i hi
      obtain ⟨cs', h1, h2⟩ := hx i (by omega)
      obtain ⟨_, hcl, hcell⟩ := World.cells?_some h1
      obtain ⟨f, rfl, hn⟩ := op_fd h2
      refine ⟨f, fun k u hu => ?_, hn⟩
      have hk : k < 9 := by
       rcases Nat.lt_or_ge k 9 with h | h
       · exact h
       · rw [List.getElem?_eq_none (by rw [fdC_len]; exact h)] at hu; cases hu
      rw [hcell k hk]; exact hu
     obtain ⟨F, hF⟩ := choose_ltS (⟨[], 0, [], 0, 0, 0, 0, 0, []⟩ : Fd) each
     have k0 := (hF 0 (by omega)).1 0 _ rfl
     obtain ⟨hs, hb⟩ := cell_plainS k0
     obtain ⟨g, o, sp⟩ := a
     have hs' : sp = none := by simpa [Addr.add] using hs
     subst hs'
     rw [addr_add, addr_add] at hb
     have hlen : ((List.range len).map F).length = len := by simp
     refine ⟨(List.range len).map F, .inr ⟨g, o, m, by rw [hlen], by rw [hlen]; exact hl, fun j hj i u hu => ?_, hb⟩, fun f hf => ?_⟩
     · rw [hlen] at hj
       simp only [List.getElem_map, List.getElem_range] at hu
       have k := (hF j hj).1 i u hu
       rw [addr_add, addr_add] at k
       rw [Nat.mul_comm 9 j]
       exact k
     · obtain ⟨j, hj, rfl⟩ := List.mem_map.1 hf
       exact (hF j (List.mem_range.1 hj)).2
def BytesW (x : World) (v : Value) (bs : List Nat) : Prop := (∃ a c, v = .slice a 0 c ∧ bs = []) ∨ ∃ g o cap, v = .slice (some ⟨g, o, none⟩) bs.length cap ∧ BytesIn x g o bs ∧ g < x.heap.size
theorem BytesW.form {x : World} {v : Value} {bs : List Nat} (h : BytesW x v bs) : ∃ p c, v = .slice p bs.length c := by
 rcases h with ⟨a, c, h, rfl⟩ | ⟨g, o, cap, h, _⟩
 · exact ⟨_, _, h⟩
 · exact ⟨_, _, h⟩
theorem BytesW.at {x : World} {v : Value} {bs : List Nat} (h : BytesW x v bs) (hn : ¬ bs = []) : BytesAt x v bs := by
 rcases h with ⟨a, c, h, e⟩ | h
 · exact absurd e hn
 · exact .inr h
theorem BytesW.below {x y : World} {v : Value} {bs : List Nat} (h : BytesW x v bs) (k : Below x.heap.size x y) : BytesW y v bs := by
 rcases h with h | ⟨g, o, cap, h1, h2, h3⟩
 · exact .inl h
 · exact .inr ⟨g, o, cap, h1, fun j hj => h2.at h3 k j hj, Nat.lt_of_lt_of_le h3 k.size⟩
theorem cells1 : Tryz.prog.cellsOf 5 = 1 := by kernel_rfl
theorem op_bytes {n : Nat} {c : Value} {y : DataW H × List MemPlace} (h : DataW.trod enc Tryz.prog w 0 (fun _ => true) true n 23 [c] = some y) : ∃ bs, BytesW w c bs ∧ AllBytes bs := by
 rcases open_ints Tryz.underlying23 Tryz.underlying5 cells1 h with ⟨hcs, _⟩ | ⟨x, l, cap, zs, hcs, _, hl, hm, hz, _, hcell, hwz⟩
 · obtain rfl : c = .slice none 0 0 := by simpa using hcs
   exact ⟨[], .inl ⟨none, 0, rfl, rfl⟩, fun c hc => by cases hc⟩
 · obtain rfl : c = .slice (some x) l cap := by simpa using hcs
   simp only [if_true] at hz
   by_cases h0 : l = 0
   · subst h0
     exact ⟨[], .inl ⟨_, _, rfl, rfl⟩, fun c hc => by cases hc⟩
   · have hlen : ((zs.take l).map Int.toNat).length = l := by simp; omega
     have k0 := hcell 0 (by omega)
     obtain ⟨hs, hb⟩ := cell_plainS k0
     obtain ⟨g, o, sp⟩ := x
     have hs' : sp = none := by simpa [Addr.add] using hs
     subst hs'
     rw [addr_add] at hb
     refine ⟨(zs.take l).map Int.toNat, .inr ⟨g, o, cap, by rw [hlen], ?_, hb⟩, ?_⟩
     · intro j hj
       rw [hlen] at hj
       have hj2 : j < zs.length := by omega
       have e1 := hcell j hj2
       have e2 : zs.getD j 0 = zs[j] := by rw [List.getD_eq_getElem?_getD, List.getElem?_eq_getElem hj2]; rfl
       have e3 := (bd_u8 (hwz zs[j] (List.getElem_mem hj2))).1
       rw [addr_add] at e1
       rw [e1, e2]
       simp only [List.getElem_map, List.getElem_take]
       rw [Int.toNat_of_nonneg e3]
     · intro c hc
       obtain ⟨n, hn, rfl⟩ := List.mem_map.1 hc
       have := bd_u8 (hwz n (List.mem_of_mem_take hn))
       omega
structure DvH (w : World) (v : Value) (d : Dv) (fv : Value) (pq : Option Addr) (cq : Nat) : Prop where
 v : v = dvV d fv (.slice pq d.rq.length cq)
 fl : FldsV w fv d.fs
 fn : ∀ f ∈ d.fs, FdN f
 sz : I64 d.sz
 rq : BytesW w (.slice pq d.rq.length cq) d.rq
 rb : AllBytes d.rq
theorem open_dev {b0 : Nat} {v : Value} {dd : DataW H} {ps : List MemPlace} (hv : Value.okWide Tryz.prog w .any b0 25 v) (h : DataW.Trod enc Tryz.prog w 0 (fun _ => true) true 25 v dd ps) :
 ∃ d fv pq cq, DvH w v d fv pq cq := by
 obtain ⟨cs, rfl, hsz⟩ := okWide_struct Tryz.underlying25 hv
 rw [clDv] at hsz
 obtain ⟨fuel, hf0⟩ := h
 obtain ⟨xs, m, _, _, hl, hlen, hf⟩ := DataW.trod_struct Tryz.underlying25 hf0
 obtain ⟨l⟩ := cs
 have hl12 : l.length = 12 := by simpa using hsz
 match l, hl12 with
 | [c0, c1, c2, c3, c4, c5, c6, c7, c8, c9, c10, c11], _ =>
  match xs, hlen with
  | [y0, y1, y2, y3, y4, y5, y6, y7, y8, y9, y10, y11], _ =>
   have h0 : DataW.trod enc Tryz.prog w 0 (fun _ => true) true m 9 [c0] = some y0 := by simpa [Value.cells, clStr] using hf 0 _ rfl
   have h1 : DataW.trod enc Tryz.prog w 0 (fun _ => true) true m 3 [c1] = some y1 := by simpa [Value.cells, clInt] using hf 1 _ rfl
   have h2 : DataW.trod enc Tryz.prog w 0 (fun _ => true) true m 3 [c2] = some y2 := by simpa [Value.cells, clInt] using hf 2 _ rfl
   have h3 : DataW.trod enc Tryz.prog w 0 (fun _ => true) true m 3 [c3] = some y3 := by simpa [Value.cells, clInt] using hf 3 _ rfl
   have h4 : DataW.trod enc Tryz.prog w 0 (fun _ => true) true m 3 [c4] = some y4 := by simpa [Value.cells, clInt] using hf 4 _ rfl
   have h5 : DataW.trod enc Tryz.prog w 0 (fun _ => true) true m 9 [c5] = some y5 := by simpa [Value.cells, clStr] using hf 5 _ rfl
   have h6 : DataW.trod enc Tryz.prog w 0 (fun _ => true) true m 22 [c6] = some y6 := by simpa [Value.cells, clFs] using hf 6 _ rfl
   have h7 : DataW.trod enc Tryz.prog w 0 (fun _ => true) true m 23 [c7] = some y7 := by simpa [Value.cells, clBs] using hf 7 _ rfl
   have h8 : DataW.trod enc Tryz.prog w 0 (fun _ => true) true m 3 [c8] = some y8 := by simpa [Value.cells, clInt] using hf 8 _ rfl
   have h9 : DataW.trod enc Tryz.prog w 0 (fun _ => true) true m 3 [c9] = some y9 := by simpa [Value.cells, clInt] using hf 9 _ rfl
   have h10 : DataW.trod enc Tryz.prog w 0 (fun _ => true) true m 3 [c10] = some y10 := by simpa [Value.cells, clInt] using hf 10 _ rfl
   have h11 : DataW.trod enc Tryz.prog w 0 (fun _ => true) true m 3 [c11] = some y11 := by simpa [Value.cells, clInt] using hf 11 _ rfl
   obtain ⟨z0, rfl⟩ := op_str h0
   obtain ⟨z1, rfl, b1⟩ := op_int h1
   obtain ⟨z2, rfl, b2⟩ := op_int h2
   obtain ⟨z3, rfl, b3⟩ := op_int h3
   obtain ⟨z4, rfl, b4⟩ := op_int h4
   obtain ⟨z5, rfl⟩ := op_str h5
   obtain ⟨fs, hfl, hfn⟩ := op_fds h6
   obtain ⟨bs, hbw, hba⟩ := op_bytes h7
   obtain ⟨pq, cq, rfl⟩ := hbw.form
   obtain ⟨z8, rfl, b8⟩ := op_int h8
   obtain ⟨z9, rfl, b9⟩ := op_int h9
   obtain ⟨z10, rfl, b10⟩ := op_int h10
   obtain ⟨z11, rfl, b11⟩ := op_int h11
   exact ⟨⟨z0, z1, z2, z3, z4, z5, fs, bs, z8, z9, z10, z11⟩, c6, pq, cq, rfl, hfl, hfn, b4, hbw, hba⟩
end
end Go.Proofs.YthabffjgdhfbmaaGreatDoor
namespace Go.Proofs.YthabffjgdhfbmaaGreatDoor
open Go.RowKit
theorem DvJ.i {d : Dv} (h : DvJ d) (hl : d.fs.length ≤ 8) : DvI d :=
 ⟨by have := h.nm; omega, fun f hf => by have k := h.fs f hf; exact ⟨by have := k.nm; omega, k.pl, k.wd, k.sn, k.sd, k.on, k.od⟩, h.sz, by omega⟩
theorem DvI.snd {d : Dv} (h : DvI d) (hc : ckE d = 0) (hq : AllBytes d.rq) : Snd d := ⟨hc, fun f hf => by have k := h.fs f hf; exact ⟨k.pl, k.wd, k.sn, k.sd, k.on, k.od⟩, hq⟩
theorem bytes_form {x : World} {v : Value} {bs : List Nat} (h : BytesAt x v bs) : ∃ p c, v = .slice p bs.length c := by
 rcases h with ⟨h1, h2⟩ | ⟨g, o, cap, h, _⟩
 · exact ⟨none, 0, by rw [h1, h2]; rfl⟩
 · exact ⟨_, _, h⟩
def ShCkC (w : World) (d : Dv) (fv qv : Value) (T : Int) : Prop := ∀ x, Below w.heap.size w x → Calls Tryz.prog 22 #[dvV d fv qv] x (QA x T)
theorem shCkC {d : Dv} {fv qv : Value} {w : World} (hi : DvI d) (hq : ∃ p c, qv = .slice p d.rq.length c) (hf : FldsV w fv d.fs) : ShCkC w d fv qv (ckE d) := fun x hx => check_any d fv qv x hi hq (hf.below hx)
def WrnC (w : World) (d : Dv) (fv qv : Value) : Prop := ∀ x, Below w.heap.size w x → Calls Tryz.prog 23 #[dvV d fv qv] x fun e y => e = .returned (.string (txt (textD d))) ∧ Below x.heap.size x y
theorem shtext_any (d : Dv) (fv qv : Value) (w : World) (hi : DvI d) (hr : AllBytes d.rq) (hq : BytesW w qv d.rq) (hf : FldsV w fv d.fs) :
 Calls Tryz.prog 10 #[dvV d fv qv] w fun e y => e = .returned (.tuple #[.string (txt (shT d)), .int .i64 (ckE d)]) ∧ Below w.heap.size w y := by
 have ck : Hid (ShCkC w d fv qv (ckE d)) := shCkC hi hq.form hf
 have B0 : Hid (Below w.heap.size w (w.alloc (.cells #[.string (txt d.nm), .int .i64 d.st, .int .i64 d.es, .int .i64 d.mx, .int .i64 d.sz, .string (txt d.sm), fv, qv, .int .i64 d.po, .int .i64 d.ti, .int .i64 d.re, .int .i64 d.ag] 33))) := (Below.refl _ _).alloc (Nat.le_refl _) _
 have D0 : Hid (DevB (w.alloc (.cells #[.string (txt d.nm), .int .i64 d.st, .int .i64 d.es, .int .i64 d.mx, .int .i64 d.sz, .string (txt d.sm), fv, qv, .int .i64 d.po, .int .i64 d.ti, .int .i64 d.re, .int .i64 d.ag] 33)) w.heap.size d fv qv) := DevB.new hf _
 by_cases h0 : ckE d = 0
 · have wr : Hid (WrnC w d fv qv) := fun x hx => shwritten_any d fv qv x (hi.snd h0 hr).ok (hf.below hx) ((hq.at (fun e => by have := (hi.snd h0 hr).ok.rq.1; rw [e] at this; simp at this)).below hx)
   have eT : shT d = textD d := by unfold shT; rw [if_pos h0]
   rw [eT, h0]
   rw [h0] at ck
   clear hi hr hq hf h0 eT
   replace wr : Hid (∀ x, Below w.heap.size w x → Calls Tryz.prog 23 #[dvV d fv qv] x fun e y => e = .returned (.string (txt (textD d))) ∧ Below x.heap.size x y) := wr
   go_enter Tryz.func10, Tryz.ntmps10
   go_wp2_with fail
   refine (ck.out (w.alloc (.cells #[.string (txt d.nm), .int .i64 d.st, .int .i64 d.es, .int .i64 d.mx, .int .i64 d.sz, .string (txt d.sm), fv, qv, .int .i64 d.po, .int .i64 d.ti, .int .i64 d.re, .int .i64 d.ag] 33)) B0.out).mono ?_
   rintro e y ⟨rfl, hb⟩
   have B1 : Hid (Below w.heap.size w y) := B0.out.trans (hb.mono B0.out.size)
   obtain ⟨c0, c1, c2, c3, c4, c5, c6, c7, c8, c9, c10, c11⟩ := (D0.out.below hb).cells
   clear hb B0 D0 ck
   go_wp2_with fail
   refine (wr.out y B1.out).mono ?_
   rintro e z ⟨rfl, hb⟩
   have B2 : Hid (Below w.heap.size w z) := B1.out.trans (hb.mono B1.out.size)
   clear hb B1 wr
   go_wp2
   go_returns
   exact ⟨rfl, B2.out⟩
 · have eT : shT d = [] := by unfold shT; rw [if_neg h0]
   rw [eT]
   have hne : ((ckE d) == 0) = false := beq_eq_false_iff_ne.2 h0
   clear hi hr hq hf h0 eT
   generalize ckE d = T at *
   go_enter Tryz.func10, Tryz.ntmps10
   go_wp2_with fail
   refine (ck.out (w.alloc (.cells #[.string (txt d.nm), .int .i64 d.st, .int .i64 d.es, .int .i64 d.mx, .int .i64 d.sz, .string (txt d.sm), fv, qv, .int .i64 d.po, .int .i64 d.ti, .int .i64 d.re, .int .i64 d.ag] 33)) B0.out).mono ?_
   rintro e y ⟨rfl, hb⟩
   have B1 : Hid (Below w.heap.size w y) := B0.out.trans (hb.mono B0.out.size)
   clear hb B0 D0 ck
   go_wp2
   go_returns
   exact ⟨rfl, B1.out⟩
theorem parse_j (l : List UInt8) : DvJ (parseM l).1 ∧ (parseM l).1.fs.length ≤ 8 := by
 unfold parseM
 split
 · exact ⟨read_j _, read_fs _⟩
 · exact ⟨dv0_j, Nat.zero_le _⟩
theorem shread_any (s : ByteArray) (w : World) (T7 : Tab7 w) : Calls Tryz.prog 13 #[.string s] w (ReadQ w (chkM (parseM s.data.toList))) := by
 have B0 : Hid (Below w.heap.size w (w.alloc (.cells dz 33))) := (Below.refl _ _).alloc (Nat.le_refl _) _
 have R0 : Hid ((w.alloc (.cells dz 33)).heap[w.heap.size]? = some (.cells dz 33 (0, 0))) := World.alloc_heap_new w _
 have pc : Hid (Calls Tryz.prog 28 #[.string s] (w.alloc (.cells dz 33)) (ReadQ (w.alloc (.cells dz 33)) (parseM s.data.toList))) := parse_any s _ (T7.below B0.out)
 have hj := parse_j s.data.toList
 clear T7
 generalize parseM s.data.toList = T at *
 obtain ⟨U, hU⟩ : ∃ U, chkM T = U := ⟨_, rfl⟩
 rw [hU]
 replace hU : Hid (chkM T = U) := hU
 go_enter Tryz.func13, Tryz.ntmps13
 go_upto_region 1 with fail
 change Code.wp Tryz.prog _ _ _ (w.alloc (.cells dz 33))
 generalize w.alloc (.cells dz 33) = w0 at *
 go_wp2_with fail
 refine pc.out.mono ?_
 rintro e y ⟨fv, qv, rfl, hf, hq, hb, nf0, nq0⟩
 have ck : Hid (ShCkC y T.1 fv qv (ckE T.1)) := shCkC (hj.1.i hj.2) (bytes_form hq) hf.v
 obtain ⟨pf, nf, cf, rfl⟩ := hf.form
 obtain ⟨pq, mq, cq, rfl⟩ := hq.form'
 have R1 : Hid (y.heap[w.heap.size]? = some (.cells dz 33 (0, 0))) := (hb.block _ (Array.getElem?_eq_some_iff.1 R0.out).1).trans R0.out
 have B1 : Hid (Below w.heap.size w y) := B0.out.trans (hb.mono B0.out.size)
 have Rl : w.heap.size < w0.heap.size := (Array.getElem?_eq_some_iff.1 R0.out).1
 have fN : Hid (∀ g, (Value.slice pf nf cf).ownBlock = some g → w.heap.size < g) := fun g h => by have := nf0 g h; omega
 have qN : Hid (∀ g, (Value.slice pq mq cq).ownBlock = some g → w.heap.size < g) := fun g h => by have := nq0 g h; omega
 replace hf : Hid (FldsAt y (.slice pf nf cf) T.1.fs) := hf
 replace hq : Hid (BytesAt y (.slice pq mq cq) T.1.rq) := hq
 obtain ⟨d, ln, en⟩ := T
 clear hb nf0 nq0 Rl R0 B0 pc hj
 simp only at *
 have YD : Hid ((y.alloc (.cells #[.string (txt d.nm), .int .i64 d.st, .int .i64 d.es, .int .i64 d.mx, .int .i64 d.sz, .string (txt d.sm), .slice pf nf cf, .slice pq mq cq, .int .i64 d.po, .int .i64 d.ti, .int .i64 d.re, .int .i64 d.ag] 33)).heap[y.heap.size]? = some (.cells #[.string (txt d.nm), .int .i64 d.st, .int .i64 d.es, .int .i64 d.mx, .int .i64 d.sz, .string (txt d.sm), .slice pf nf cf, .slice pq mq cq, .int .i64 d.po, .int .i64 d.ti, .int .i64 d.re, .int .i64 d.ag] 33 (0, 0))) := World.alloc_heap_new y _
 have YB : Hid (Below y.heap.size y (y.alloc (.cells #[.string (txt d.nm), .int .i64 d.st, .int .i64 d.es, .int .i64 d.mx, .int .i64 d.sz, .string (txt d.sm), .slice pf nf cf, .slice pq mq cq, .int .i64 d.po, .int .i64 d.ti, .int .i64 d.re, .int .i64 d.ag] 33))) := (Below.refl _ _).alloc (Nat.le_refl _) _
 by_cases he : en = 0
 · subst he
   have h1 : chkM (d, ln, 0) = if cN d = 0 then (d, 0, 0) else (dv0, ln, cN d) := by unfold chkM; rw [if_pos rfl]
   have hU1 := hU.out
   rw [h1] at hU1
   clear hU
   by_cases hc : cN d = 0
   · rw [if_pos hc] at hU1
     subst hU1
     rw [cN_0.1 hc] at ck
     clear h1 hc
     go_wp2_with fail
     change Calls Tryz.prog _ _ (y.alloc (.cells #[.string (txt d.nm), .int .i64 d.st, .int .i64 d.es, .int .i64 d.mx, .int .i64 d.sz, .string (txt d.sm), .slice pf nf cf, .slice pq mq cq, .int .i64 d.po, .int .i64 d.ti, .int .i64 d.re, .int .i64 d.ag] 33)) _
     generalize y.alloc (.cells #[.string (txt d.nm), .int .i64 d.st, .int .i64 d.es, .int .i64 d.mx, .int .i64 d.sz, .string (txt d.sm), .slice pf nf cf, .slice pq mq cq, .int .i64 d.po, .int .i64 d.ti, .int .i64 d.re, .int .i64 d.ag] 33) = y1 at *
     refine (ck.out y1 YB.out).mono ?_
     rintro e z ⟨rfl, hb⟩
     have b2 : Below y.heap.size y z := YB.out.trans (hb.mono YB.out.size)
     have RZ : Hid (z.heap[w.heap.size]? = some (.cells dz 33 (0, 0))) := (b2.block _ (Array.getElem?_eq_some_iff.1 R1.out).1).trans R1.out
     have BZ : Hid (Below w.heap.size w z) := B1.out.trans (b2.mono B1.out.size)
     have DZ := (hb.block _ (Array.getElem?_eq_some_iff.1 YD.out).1).trans YD.out
     have fz : Hid (FldsAt z (.slice pf nf cf) d.fs) := hf.out.below b2
     have qz : Hid (BytesAt z (.slice pq mq cq) d.rq) := hq.out.below b2
     obtain ⟨a0, x0⟩ := rd_cell DZ 0
     obtain ⟨a1, x1⟩ := rd_cell DZ 1
     obtain ⟨a2, x2⟩ := rd_cell DZ 2
     obtain ⟨a3, x3⟩ := rd_cell DZ 3
     obtain ⟨a4, x4⟩ := rd_cell DZ 4
     obtain ⟨a5, x5⟩ := rd_cell DZ 5
     obtain ⟨a6, x6⟩ := rd_cell DZ 6
     obtain ⟨a7, x7⟩ := rd_cell DZ 7
     obtain ⟨a8, x8⟩ := rd_cell DZ 8
     obtain ⟨a9, x9⟩ := rd_cell DZ 9
     obtain ⟨a10, x10⟩ := rd_cell DZ 10
     obtain ⟨a11, x11⟩ := rd_cell DZ 11
     simp only [List.getElem?_toArray, List.getElem?_cons_zero, List.getElem?_cons_succ] at a0 a1 a2 a3 a4 a5 a6 a7 a8 a9 a10 a11
     obtain ⟨c0, f0⟩ := rd_cell RZ.out 0
     obtain ⟨c1, f1⟩ := rd_cell RZ.out 1
     obtain ⟨c2, f2⟩ := rd_cell RZ.out 2
     obtain ⟨c3, f3⟩ := rd_cell RZ.out 3
     obtain ⟨c4, f4⟩ := rd_cell RZ.out 4
     obtain ⟨c5, f5⟩ := rd_cell RZ.out 5
     obtain ⟨c6, f6⟩ := rd_cell RZ.out 6
     obtain ⟨c7, f7⟩ := rd_cell RZ.out 7
     obtain ⟨c8, f8⟩ := rd_cell RZ.out 8
     obtain ⟨c9, f9⟩ := rd_cell RZ.out 9
     obtain ⟨c10, f10⟩ := rd_cell RZ.out 10
     obtain ⟨c11, f11⟩ := rd_cell RZ.out 11
     simp only [List.getElem?_toArray, List.getElem?_cons_zero, List.getElem?_cons_succ] at c0 c1 c2 c3 c4 c5 c6 c7 c8 c9 c10 c11
     clear b2 hb ck R1 B1 YD YB DZ hf hq x0 x1 x2 x3 x4 x5 x6 x7 x8 x9 x10 x11
     go_wp2
     change bodyPost _ _ _ _ _ (put12 z w.heap.size (.string (txt d.nm)) (.int .i64 d.st) (.int .i64 d.es) (.int .i64 d.mx) (.int .i64 d.sz) (.string (txt d.sm)) (.slice pf nf cf) (.slice pq mq cq) (.int .i64 d.po) (.int .i64 d.ti) (.int .i64 d.re) (.int .i64 d.ag))
     have pa := put12_at (y := z) RZ.out (.string (txt d.nm)) (.int .i64 d.st) (.int .i64 d.es) (.int .i64 d.mx) (.int .i64 d.sz) (.string (txt d.sm)) (.slice pf nf cf) (.slice pq mq cq) (.int .i64 d.po) (.int .i64 d.ti) (.int .i64 d.re) (.int .i64 d.ag)
     have pb := put12_below BZ.out (Nat.le_refl w.heap.size) (.string (txt d.nm)) (.int .i64 d.st) (.int .i64 d.es) (.int .i64 d.mx) (.int .i64 d.sz) (.string (txt d.sm)) (.slice pf nf cf) (.slice pq mq cq) (.int .i64 d.po) (.int .i64 d.ti) (.int .i64 d.re) (.int .i64 d.ag)
     have off : ∀ g, w.heap.size < g → (put12 z w.heap.size (.string (txt d.nm)) (.int .i64 d.st) (.int .i64 d.es) (.int .i64 d.mx) (.int .i64 d.sz) (.string (txt d.sm)) (.slice pf nf cf) (.slice pq mq cq) (.int .i64 d.po) (.int .i64 d.ti) (.int .i64 d.re) (.int .i64 d.ag)).heap[g]? = z.heap[g]? := fun g hg => put12_off (by omega) _ _ _ _ _ _ _ _ _ _ _ _
     generalize put12 z w.heap.size (.string (txt d.nm)) (.int .i64 d.st) (.int .i64 d.es) (.int .i64 d.mx) (.int .i64 d.sz) (.string (txt d.sm)) (.slice pf nf cf) (.slice pq mq cq) (.int .i64 d.po) (.int .i64 d.ti) (.int .i64 d.re) (.int .i64 d.ag) = yy at *
     refine bodyPost_ret (res_dev3 Tryz.results13 rfl rfl rfl pa) rfl ?_
     exact ⟨.slice pf nf cf, .slice pq mq cq, rfl, fz.out.on' fun g hg => off g (fN.out g hg), qz.out.on' fun g hg => off g (qN.out g hg), pb, fun g h => Nat.le_of_lt (fN.out g h), fun g h => Nat.le_of_lt (qN.out g h)⟩
   · rw [if_neg hc] at hU1
     subst hU1
     have hT := ck_nat d
     have hne : (((cN d : Nat) : Int) == 0) = false := beq_eq_false_iff_ne.2 (by omega)
     have ck' : Hid (ShCkC y d (.slice pf nf cf) (.slice pq mq cq) ((cN d : Nat) : Int)) := by unfold cN; rw [hT]; exact ck.out
     clear h1 hc hT ck
     generalize cN d = E at *
     go_wp2_with fail
     change Calls Tryz.prog _ _ (y.alloc (.cells #[.string (txt d.nm), .int .i64 d.st, .int .i64 d.es, .int .i64 d.mx, .int .i64 d.sz, .string (txt d.sm), .slice pf nf cf, .slice pq mq cq, .int .i64 d.po, .int .i64 d.ti, .int .i64 d.re, .int .i64 d.ag] 33)) _
     generalize y.alloc (.cells #[.string (txt d.nm), .int .i64 d.st, .int .i64 d.es, .int .i64 d.mx, .int .i64 d.sz, .string (txt d.sm), .slice pf nf cf, .slice pq mq cq, .int .i64 d.po, .int .i64 d.ti, .int .i64 d.re, .int .i64 d.ag] 33) = y1 at *
     refine (ck'.out y1 YB.out).mono ?_
     rintro e z ⟨rfl, hb⟩
     have b2 : Below y.heap.size y z := YB.out.trans (hb.mono YB.out.size)
     have RZ : Hid (z.heap[w.heap.size]? = some (.cells dz 33 (0, 0))) := (b2.block _ (Array.getElem?_eq_some_iff.1 R1.out).1).trans R1.out
     have BZ : Hid (Below w.heap.size w z) := B1.out.trans (b2.mono B1.out.size)
     obtain ⟨c0, f0⟩ := rd_cell RZ.out 0
     obtain ⟨c1, f1⟩ := rd_cell RZ.out 1
     obtain ⟨c2, f2⟩ := rd_cell RZ.out 2
     obtain ⟨c3, f3⟩ := rd_cell RZ.out 3
     obtain ⟨c4, f4⟩ := rd_cell RZ.out 4
     obtain ⟨c5, f5⟩ := rd_cell RZ.out 5
     obtain ⟨c6, f6⟩ := rd_cell RZ.out 6
     obtain ⟨c7, f7⟩ := rd_cell RZ.out 7
     obtain ⟨c8, f8⟩ := rd_cell RZ.out 8
     obtain ⟨c9, f9⟩ := rd_cell RZ.out 9
     obtain ⟨c10, f10⟩ := rd_cell RZ.out 10
     obtain ⟨c11, f11⟩ := rd_cell RZ.out 11
     simp only [List.getElem?_toArray, List.getElem?_cons_zero, List.getElem?_cons_succ] at c0 c1 c2 c3 c4 c5 c6 c7 c8 c9 c10 c11
     clear b2 hb ck' R1 B1 YD YB hf hq fN qN
     go_wp2
     change bodyPost _ _ _ _ _ (put12 z w.heap.size (.string ⟨#[]⟩) (.int .i64 0) (.int .i64 0) (.int .i64 0) (.int .i64 0) (.string ⟨#[]⟩) (.slice none 0 0) (.slice none 0 0) (.int .i64 0) (.int .i64 0) (.int .i64 0) (.int .i64 0))
     have pa := put12_at (y := z) RZ.out (.string ⟨#[]⟩) (.int .i64 0) (.int .i64 0) (.int .i64 0) (.int .i64 0) (.string ⟨#[]⟩) (.slice none 0 0) (.slice none 0 0) (.int .i64 0) (.int .i64 0) (.int .i64 0) (.int .i64 0)
     have pb := put12_below BZ.out (Nat.le_refl w.heap.size) (.string ⟨#[]⟩) (.int .i64 0) (.int .i64 0) (.int .i64 0) (.int .i64 0) (.string ⟨#[]⟩) (.slice none 0 0) (.slice none 0 0) (.int .i64 0) (.int .i64 0) (.int .i64 0) (.int .i64 0)
     generalize put12 z w.heap.size (.string ⟨#[]⟩) (.int .i64 0) (.int .i64 0) (.int .i64 0) (.int .i64 0) (.string ⟨#[]⟩) (.slice none 0 0) (.slice none 0 0) (.int .i64 0) (.int .i64 0) (.int .i64 0) (.int .i64 0) = yy at *
     refine bodyPost_ret (res_dev3 Tryz.results13 rfl rfl rfl pa) rfl ?_
     exact ⟨nilS, nilS, rfl, .inl ⟨rfl, rfl⟩, .inl ⟨rfl, rfl⟩, pb, fun g h => (by cases h), fun g h => (by cases h)⟩
 · have h1 : chkM (d, ln, en) = (dv0, ln, en) := by unfold chkM; rw [if_neg he]
   have hU1 := hU.out
   rw [h1] at hU1
   subst hU1
   have hne : (((en : Nat) : Int) == 0) = false := beq_eq_false_iff_ne.2 (by omega)
   clear h1 he ck hU
   have RZ : Hid ((y.alloc (.cells #[.string (txt d.nm), .int .i64 d.st, .int .i64 d.es, .int .i64 d.mx, .int .i64 d.sz, .string (txt d.sm), .slice pf nf cf, .slice pq mq cq, .int .i64 d.po, .int .i64 d.ti, .int .i64 d.re, .int .i64 d.ag] 33)).heap[w.heap.size]? = some (.cells dz 33 (0, 0))) := (YB.out.block _ (Array.getElem?_eq_some_iff.1 R1.out).1).trans R1.out
   have BZ : Hid (Below w.heap.size w (y.alloc (.cells #[.string (txt d.nm), .int .i64 d.st, .int .i64 d.es, .int .i64 d.mx, .int .i64 d.sz, .string (txt d.sm), .slice pf nf cf, .slice pq mq cq, .int .i64 d.po, .int .i64 d.ti, .int .i64 d.re, .int .i64 d.ag] 33))) := B1.out.trans (YB.out.mono B1.out.size)
   go_upto_region 2 with fail
   change Code.wp Tryz.prog _ _ _ (y.alloc (.cells #[.string (txt d.nm), .int .i64 d.st, .int .i64 d.es, .int .i64 d.mx, .int .i64 d.sz, .string (txt d.sm), .slice pf nf cf, .slice pq mq cq, .int .i64 d.po, .int .i64 d.ti, .int .i64 d.re, .int .i64 d.ag] 33))
   generalize y.alloc (.cells #[.string (txt d.nm), .int .i64 d.st, .int .i64 d.es, .int .i64 d.mx, .int .i64 d.sz, .string (txt d.sm), .slice pf nf cf, .slice pq mq cq, .int .i64 d.po, .int .i64 d.ti, .int .i64 d.re, .int .i64 d.ag] 33) = z at *
   obtain ⟨c0, f0⟩ := rd_cell RZ.out 0
   obtain ⟨c1, f1⟩ := rd_cell RZ.out 1
   obtain ⟨c2, f2⟩ := rd_cell RZ.out 2
   obtain ⟨c3, f3⟩ := rd_cell RZ.out 3
   obtain ⟨c4, f4⟩ := rd_cell RZ.out 4
   obtain ⟨c5, f5⟩ := rd_cell RZ.out 5
   obtain ⟨c6, f6⟩ := rd_cell RZ.out 6
   obtain ⟨c7, f7⟩ := rd_cell RZ.out 7
   obtain ⟨c8, f8⟩ := rd_cell RZ.out 8
   obtain ⟨c9, f9⟩ := rd_cell RZ.out 9
   obtain ⟨c10, f10⟩ := rd_cell RZ.out 10
   obtain ⟨c11, f11⟩ := rd_cell RZ.out 11
   simp only [List.getElem?_toArray, List.getElem?_cons_zero, List.getElem?_cons_succ] at c0 c1 c2 c3 c4 c5 c6 c7 c8 c9 c10 c11
   clear R1 B1 YD YB hf hq fN qN
   go_wp2
   change bodyPost _ _ _ _ _ (put12 z w.heap.size (.string ⟨#[]⟩) (.int .i64 0) (.int .i64 0) (.int .i64 0) (.int .i64 0) (.string ⟨#[]⟩) (.slice none 0 0) (.slice none 0 0) (.int .i64 0) (.int .i64 0) (.int .i64 0) (.int .i64 0))
   have pa := put12_at (y := z) RZ.out (.string ⟨#[]⟩) (.int .i64 0) (.int .i64 0) (.int .i64 0) (.int .i64 0) (.string ⟨#[]⟩) (.slice none 0 0) (.slice none 0 0) (.int .i64 0) (.int .i64 0) (.int .i64 0) (.int .i64 0)
   have pb := put12_below BZ.out (Nat.le_refl w.heap.size) (.string ⟨#[]⟩) (.int .i64 0) (.int .i64 0) (.int .i64 0) (.int .i64 0) (.string ⟨#[]⟩) (.slice none 0 0) (.slice none 0 0) (.int .i64 0) (.int .i64 0) (.int .i64 0) (.int .i64 0)
   generalize put12 z w.heap.size (.string ⟨#[]⟩) (.int .i64 0) (.int .i64 0) (.int .i64 0) (.int .i64 0) (.string ⟨#[]⟩) (.slice none 0 0) (.slice none 0 0) (.int .i64 0) (.int .i64 0) (.int .i64 0) (.int .i64 0) = yy at *
   refine bodyPost_ret (res_dev3 Tryz.results13 rfl rfl rfl pa) rfl ?_
   exact ⟨nilS, nilS, rfl, .inl ⟨rfl, rfl⟩, .inl ⟨rfl, rfl⟩, pb, fun g h => (by cases h), fun g h => (by cases h)⟩
theorem parse_text {d : Dv} (h : DvOk d) : parseM (textD d) = (d, 0, 0) := by
 have hl : (textD d).length ≤ 4000 := by have := h.len; omega
 obtain ⟨h1, h2, h3⟩ := lex_text (linesW d) h.lines hl
 unfold parseM
 rw [show lexErr (textD d) = 0 from h3, if_pos rfl, show lexRows (textD d) = nrL 1 (linesW d) from h1]
 exact read_lines h (wds_nr _ 1)
def awd : Dv := ⟨[97], 2, 27, 32, 3, [120, 111, 114], [], [5], 10, 3, 0, 30⟩
theorem awd_ck : ckE awd = 0 := of_decide_eq_true (by kernel_rfl)
theorem awd_i : DvI awd := ⟨by decide, fun f hf => (by cases hf), ⟨by decide, by decide⟩, by decide⟩
theorem awd_b : AllBytes awd.rq := fun c hc => by
 have : c = 5 := by simpa [awd] using hc
 omega
theorem awd_len : 20 < (txt (textD awd)).size := by
 rw [txt_size]
 exact of_decide_eq_true (by kernel_rfl)
def AwT (S : ByteArray) (p : Addr) : World → Prop := fun x => Calls Tryz.prog 10 #[.agg #[.string ⟨#[97]⟩, .int .i64 2, .int .i64 27, .int .i64 32, .int .i64 3, .string ⟨#[120, 111, 114]⟩, .slice none 0 0, .slice (some p) 1 1, .int .i64 10, .int .i64 3, .int .i64 0, .int .i64 30]] x fun e y => e = .returned (.tuple #[.string S, .int .i64 0]) ∧ Below x.heap.size x y
theorem shAwT {x : World} {g : Nat} (h : x.cell? ⟨g, 0, none⟩ = some (.int .u8 5)) (hg : g < x.heap.size) : AwT (txt (textD awd)) ⟨g, 0, none⟩ x := by
 have k := shtext_any awd (.slice none 0 0) (.slice (some ⟨g, 0, none⟩) 1 1) x awd_i awd_b (.inr ⟨g, 0, 1, rfl, fun j hj => by
  have e : j = 0 := by simp [awd] at hj; exact hj
  subst e
  exact h, hg⟩) (.inl ⟨none, 0, rfl, rfl⟩)
 have e : shT awd = textD awd := by unfold shT; rw [if_pos awd_ck]
 rw [e, awd_ck] at k
 exact k
def AwR (S : ByteArray) : Prop := ∀ x, Tab7 x → Calls Tryz.prog 13 #[.string S] x fun e y => (∃ fv qv, e = .returned (.tuple #[.agg #[.string ⟨#[97]⟩, .int .i64 2, .int .i64 27, .int .i64 32, .int .i64 3, .string ⟨#[120, 111, 114]⟩, fv, qv, .int .i64 10, .int .i64 3, .int .i64 0, .int .i64 30], .int .i64 0, .int .i64 0]) ∧ (∃ p n c, fv = .slice p n c) ∧ ∃ p n c, qv = .slice p n c) ∧ Below x.heap.size x y
theorem awR : AwR (txt (textD awd)) := fun x T => by
 refine (shread_any (txt (textD awd)) x T).mono ?_
 have e : chkM (parseM (txt (textD awd)).data.toList) = (awd, 0, 0) := by
  rw [show (txt (textD awd)).data.toList = textD awd from rfl, parse_text (awd_i.snd awd_ck awd_b).ok, chk_sound awd_ck]
 rw [e]
 rintro e y ⟨fv, qv, rfl, hf, hq, hb, _, _⟩
 exact ⟨⟨fv, qv, rfl, hf.form, hq.form'⟩, hb⟩
theorem awake10 (w : World) (T7 : Tab7 w) : Calls Tryz.prog 8 #[] w fun e y => e = .returned (.bool true) ∧ Below w.heap.size w y := by
 have B0 : Hid (Below w.heap.size w ((w.alloc (.cells #[.int .u8 5] 5)).alloc (.cells #[.string ⟨#[97]⟩, .int .i64 2, .int .i64 27, .int .i64 32, .int .i64 3, .string ⟨#[120, 111, 114]⟩, .slice none 0 0, .slice (some ⟨w.heap.size, 0, none⟩) 1 1, .int .i64 10, .int .i64 3, .int .i64 0, .int .i64 30] 33))) := ((Below.refl _ _).alloc (Nat.le_refl _) _).alloc (by rw [World.size_alloc]; omega) _
 have tx : Hid (AwT (txt (textD awd)) ⟨w.heap.size, 0, none⟩ ((w.alloc (.cells #[.int .u8 5] 5)).alloc (.cells #[.string ⟨#[97]⟩, .int .i64 2, .int .i64 27, .int .i64 32, .int .i64 3, .string ⟨#[120, 111, 114]⟩, .slice none 0 0, .slice (some ⟨w.heap.size, 0, none⟩) 1 1, .int .i64 10, .int .i64 3, .int .i64 0, .int .i64 30] 33))) := by
  have h1 := cell_1 w (.int .u8 5) 5
  have hb : Below (w.alloc (.cells #[.int .u8 5] 5)).heap.size (w.alloc (.cells #[.int .u8 5] 5)) ((w.alloc (.cells #[.int .u8 5] 5)).alloc (.cells #[.string ⟨#[97]⟩, .int .i64 2, .int .i64 27, .int .i64 32, .int .i64 3, .string ⟨#[120, 111, 114]⟩, .slice none 0 0, .slice (some ⟨w.heap.size, 0, none⟩) 1 1, .int .i64 10, .int .i64 3, .int .i64 0, .int .i64 30] 33)) := (Below.refl _ _).alloc (Nat.le_refl _) _
  obtain ⟨k1, k2⟩ := cell_keep ⟨h1, by rw [World.size_alloc]; exact Nat.lt_succ_self _⟩ hb
  exact shAwT k1 k2
 have rd : Hid (AwR (txt (textD awd))) := awR
 have hS := awd_len
 replace T7 : Hid (Tab7 w) := T7
 generalize txt (textD awd) = S at *
 have hS' : (20 : Int) < (S.size : Int) := by omega
 clear hS
 go_enter Tryz.func8, Tryz.ntmps8
 go_wp2_with fail
 generalize (w.alloc (.cells #[.int .u8 5] 5)).alloc (.cells #[.string ⟨#[97]⟩, .int .i64 2, .int .i64 27, .int .i64 32, .int .i64 3, .string ⟨#[120, 111, 114]⟩, .slice none 0 0, .slice (some ⟨w.heap.size, 0, none⟩) 1 1, .int .i64 10, .int .i64 3, .int .i64 0, .int .i64 30] 33) = w2 at *
 refine tx.out.mono ?_
 rintro e y ⟨rfl, hb⟩
 have B1 : Hid (Below w.heap.size w y) := B0.out.trans (hb.mono B0.out.size)
 clear hb tx B0
 go_wp2_with fail
 refine (rd.out y (T7.out.below B1.out)).mono ?_
 rintro e z ⟨⟨fv, qv, rfl, ⟨pf, nf, cf, rfl⟩, ⟨pq, nq, cq, rfl⟩⟩, hb⟩
 have B2 : Hid (Below w.heap.size w z) := B1.out.trans (hb.mono B1.out.size)
 have B3 : Hid (∀ o, Below w.heap.size w (z.alloc o)) := fun o => B2.out.alloc B2.out.size o
 clear hb rd B1 T7
 go_wp2
 go_ret
 exact ⟨rfl, B3.out _⟩
theorem plain_any (n d : Int) (w : World) : Calls Tryz.prog 32 #[rv n d] w fun e w' => e = .returned (rv n d) ∧ Below w.heap.size w w' := by
 go_enter Tryz.func32, Tryz.ntmps32
 go_wp2
 go_returns
 exact ⟨rfl, by go_grown⟩
abbrev dvB (d : Dv) (fv qv : Value) : Array Value := #[.string (txt d.nm), .int .i64 d.st, .int .i64 d.es, .int .i64 d.mx, .int .i64 d.sz, .string (txt d.sm), fv, qv, .int .i64 d.po, .int .i64 d.ti, .int .i64 d.re, .int .i64 d.ag]
abbrev zF : Array Value := #[.string ⟨#[]⟩, .int .i64 0, .string ⟨#[]⟩, .int .i64 0, .int .i64 0, .int .i64 0, .int .i64 0, .int .i64 0, .string ⟨#[]⟩]
abbrev fdA (f : Fd) : Array Value := #[.string (txt f.nm), .int .i64 f.pl, .string (txt f.kd), .int .i64 f.wd, .int .i64 f.sn, .int .i64 f.sd, .int .i64 f.on, .int .i64 f.od, .string (txt f.un)]
def put9 (z : World) (b : Nat) (f : Fd) : World := (((((((((z.setCell ⟨b, 0, none⟩ (.string (txt f.nm))).setCell ⟨b, 1, none⟩ (.int .i64 f.pl)).setCell ⟨b, 2, none⟩ (.string (txt f.kd))).setCell ⟨b, 3, none⟩ (.int .i64 f.wd)).setCell ⟨b, 4, none⟩ (.int .i64 f.sn)).setCell ⟨b, 5, none⟩ (.int .i64 f.sd)).setCell ⟨b, 6, none⟩ (.int .i64 f.on)).setCell ⟨b, 7, none⟩ (.int .i64 f.od)).setCell ⟨b, 8, none⟩ (.string (txt f.un)))
theorem put9_at {z : World} {b : Nat} {f : Fd} {t : TypeId} (h : z.heap[b]? = some (.cells zF t (0, 0))) : (put9 z b f).heap[b]? = some (.cells (fdA f) t (0, 0)) := by
 unfold put9
 refine (rd_set (rd_set (rd_set (rd_set (rd_set (rd_set (rd_set (rd_set (rd_set h 0 _) 1 _) 2 _) 3 _) 4 _) 5 _) 6 _) 7 _) 8 _).trans ?_
 simp only [List.setIfInBounds_toArray, List.set_cons_zero, List.set_cons_succ]
theorem put9_below {w z : World} {L b : Nat} {f : Fd} (h : Below L w z) (hb : L ≤ b) : Below L w (put9 z b f) := by
 unfold put9
 repeat (refine Below.setCell ?_ hb _)
 exact h
theorem put9_off {z : World} {b k : Nat} {f : Fd} (hk : k ≠ b) : (put9 z b f).heap[k]? = z.heap[k]? := by
 unfold put9
 simp only [Below.heap_setCell _ _ _ _ (show k ≠ (⟨b, _, none⟩ : Addr).block from hk)]
structure SmG where
 b1 : Nat
 b2 : Nat
structure SmW (w0 : World) (f : Fd) (γ : SmG) (x : Array Bool) (z : World) : Prop where
 low : Below w0.heap.size w0 z
 o12 : x.getD 12 false = true → x.getD 10 false = true
 o13 : x.getD 13 false = true → x.getD 11 false = true
 bx : x.getD 10 false = true → w0.heap.size ≤ γ.b1 ∧ z.heap[γ.b1]? = some (.cells (if x.getD 12 false = true then fdA f else zF) 70 (0, 0))
 by' : x.getD 11 false = true → w0.heap.size ≤ γ.b2 ∧ z.heap[γ.b2]? = some (.cells (if x.getD 13 false = true then fdA f else zF) 64 (0, 0))
 ne : x.getD 10 false = true → x.getD 11 false = true → γ.b1 ≠ γ.b2
theorem SmW.other {w0 : World} {f : Fd} {γ : SmG} {x : Array Bool} {z : World} (h : SmW w0 f γ x z) {i : Nat} (hi : i < 10) : SmW w0 f γ (x.setIfInBounds i true) z := by
 obtain ⟨low, o12, o13, bx, by', ne⟩ := h
 have e : ∀ j, 10 ≤ j → (x.setIfInBounds i true).getD j false = x.getD j false := fun j hj => getD_set_ne false (by omega)
 refine ⟨low, ?_, ?_, ?_, ?_, ?_⟩
 · rw [e 12 (by omega), e 10 (by omega)]; exact o12
 · rw [e 13 (by omega), e 11 (by omega)]; exact o13
 · rw [e 12 (by omega), e 10 (by omega)]; exact bx
 · rw [e 13 (by omega), e 11 (by omega)]; exact by'
 · rw [e 10 (by omega), e 11 (by omega)]; exact ne
theorem SmW.allocX {w0 : World} {f : Fd} {γ : SmG} {x : Array Bool} {z : World} (h : SmW w0 f γ x z) (h10 : x.getD 10 false = false) (h14 : x.size = 14) : SmW w0 f ⟨z.heap.size, γ.b2⟩ (x.setIfInBounds 10 true) (z.alloc (.cells zF 70)) := by
 obtain ⟨low, o12, o13, bx, by', ne⟩ := h
 have s10 : (x.setIfInBounds 10 true).getD 10 false = true := getD_set_at (by rw [h14]; decide)
 have e11 : (x.setIfInBounds 10 true).getD 11 false = x.getD 11 false := getD_set_ne false (by decide)
 have e12 : (x.setIfInBounds 10 true).getD 12 false = x.getD 12 false := getD_set_ne false (by decide)
 have e13 : (x.setIfInBounds 10 true).getD 13 false = x.getD 13 false := getD_set_ne false (by decide)
 have x12 : x.getD 12 false = false := by
  cases e : x.getD 12 false
  · rfl
  · rw [o12 e] at h10; cases h10
 have ba : Below z.heap.size z (z.alloc (.cells zF 70)) := (Below.refl _ _).alloc (Nat.le_refl _) _
 refine ⟨low.alloc low.size _, fun _ => s10, by rw [e11, e13]; exact o13, fun _ => ⟨low.size, ?_⟩, ?_, ?_⟩
 · rw [e12, x12]; exact World.alloc_heap_new z _
 · rw [e11, e13]; intro k
   have q := by' k
   exact ⟨q.1, (ba.block _ (Array.getElem?_eq_some_iff.1 q.2).1).trans q.2⟩
 · rw [e11]; intro _ k
   have q := (Array.getElem?_eq_some_iff.1 (by' k).2).1
   show z.heap.size ≠ γ.b2
   omega
theorem SmW.allocY {w0 : World} {f : Fd} {γ : SmG} {x : Array Bool} {z : World} (h : SmW w0 f γ x z) (h11 : x.getD 11 false = false) (h14 : x.size = 14) : SmW w0 f ⟨γ.b1, z.heap.size⟩ (x.setIfInBounds 11 true) (z.alloc (.cells zF 64)) := by
 obtain ⟨low, o12, o13, bx, by', ne⟩ := h
 have s11 : (x.setIfInBounds 11 true).getD 11 false = true := getD_set_at (by rw [h14]; decide)
 have e10 : (x.setIfInBounds 11 true).getD 10 false = x.getD 10 false := getD_set_ne false (by decide)
 have e12 : (x.setIfInBounds 11 true).getD 12 false = x.getD 12 false := getD_set_ne false (by decide)
 have e13 : (x.setIfInBounds 11 true).getD 13 false = x.getD 13 false := getD_set_ne false (by decide)
 have x13 : x.getD 13 false = false := by
  cases e : x.getD 13 false
  · rfl
  · rw [o13 e] at h11; cases h11
 have ba : Below z.heap.size z (z.alloc (.cells zF 64)) := (Below.refl _ _).alloc (Nat.le_refl _) _
 refine ⟨low.alloc low.size _, by rw [e10, e12]; exact o12, fun _ => s11, ?_, fun _ => ⟨low.size, ?_⟩, ?_⟩
 · rw [e10, e12]; intro k
   have q := bx k
   exact ⟨q.1, (ba.block _ (Array.getElem?_eq_some_iff.1 q.2).1).trans q.2⟩
 · rw [e13, x13]; exact World.alloc_heap_new z _
 · rw [e10]; intro k _
   have q := (Array.getElem?_eq_some_iff.1 (bx k).2).1
   show γ.b1 ≠ z.heap.size
   omega
theorem SmW.storeX {w0 : World} {f : Fd} {γ : SmG} {x : Array Bool} {z : World} (h : SmW w0 f γ x z) (h10 : x.getD 10 false = true) (h12 : x.getD 12 false = false) (h14 : x.size = 14) : SmW w0 f γ (x.setIfInBounds 12 true) (put9 z γ.b1 f) := by
 obtain ⟨low, o12, o13, bx, by', ne⟩ := h
 have s12 : (x.setIfInBounds 12 true).getD 12 false = true := getD_set_at (by rw [h14]; decide)
 have e10 : (x.setIfInBounds 12 true).getD 10 false = x.getD 10 false := getD_set_ne false (by decide)
 have e11 : (x.setIfInBounds 12 true).getD 11 false = x.getD 11 false := getD_set_ne false (by decide)
 have e13 : (x.setIfInBounds 12 true).getD 13 false = x.getD 13 false := getD_set_ne false (by decide)
 have q := bx h10
 rw [h12] at q
 refine ⟨put9_below low q.1, fun _ => e10.trans h10, by rw [e11, e13]; exact o13, fun _ => ⟨q.1, by rw [s12, if_pos rfl]; exact put9_at q.2⟩, ?_, by rw [e10, e11]; exact ne⟩
 rw [e11, e13]; intro k
 have q2 := by' k
 exact ⟨q2.1, (put9_off (fun e => ne h10 k e.symm)).trans q2.2⟩
theorem SmW.storeY {w0 : World} {f : Fd} {γ : SmG} {x : Array Bool} {z : World} (h : SmW w0 f γ x z) (h11 : x.getD 11 false = true) (h13 : x.getD 13 false = false) (h14 : x.size = 14) : SmW w0 f γ (x.setIfInBounds 13 true) (put9 z γ.b2 f) := by
 obtain ⟨low, o12, o13, bx, by', ne⟩ := h
 have s13 : (x.setIfInBounds 13 true).getD 13 false = true := getD_set_at (by rw [h14]; decide)
 have e10 : (x.setIfInBounds 13 true).getD 10 false = x.getD 10 false := getD_set_ne false (by decide)
 have e11 : (x.setIfInBounds 13 true).getD 11 false = x.getD 11 false := getD_set_ne false (by decide)
 have e12 : (x.setIfInBounds 13 true).getD 12 false = x.getD 12 false := getD_set_ne false (by decide)
 have q := by' h11
 rw [h13] at q
 refine ⟨put9_below low q.1, by rw [e10, e12]; exact o12, fun _ => e11.trans h11, ?_, fun _ => ⟨q.1, by rw [s13, if_pos rfl]; exact put9_at q.2⟩, by rw [e10, e11]; exact ne⟩
 rw [e10, e12]; intro k
 have q2 := bx k
 exact ⟨q2.1, (put9_off (ne k h11)).trans q2.2⟩
def smV (A ga oa gb ob k : Nat) (fa fb : Value) (f : Fd) (γ : SmG) (i : Nat) : Value :=
 (#[.pointer (some ⟨A, 6, none⟩), fa, .int .i64 (k : Int), .pointer (some ⟨ga, oa + k * 9, none⟩), .agg (fdA f), .pointer (some ⟨A + 1, 6, none⟩), fb, .int .i64 (k : Int), .pointer (some ⟨gb, ob + k * 9, none⟩), .agg (fdA f), .pointer (some ⟨γ.b1, 0, none⟩), .pointer (some ⟨γ.b2, 0, none⟩), undef, undef] : Array Value).getD i undef
def SmP (A ga oa gb ob k : Nat) (fa fb : Value) (f : Fd) (γ : SmG) (_x : Array Bool) (i : Nat) (v : Value) (_z : World) : Prop := v = smV A ga oa gb ob k fa fb f γ i
theorem smV_x {A ga oa gb ob k : Nat} {fa fb : Value} {f : Fd} {γ : SmG} {b : Nat} {j : Nat} (h : j ≠ 10) : smV A ga oa gb ob k fa fb f γ j = smV A ga oa gb ob k fa fb f ⟨b, γ.b2⟩ j := by
 unfold smV
 match j, h with
 | 0, _ => rfl
 | 1, _ => rfl
 | 2, _ => rfl
 | 3, _ => rfl
 | 4, _ => rfl
 | 5, _ => rfl
 | 6, _ => rfl
 | 7, _ => rfl
 | 8, _ => rfl
 | 9, _ => rfl
 | 10, h => exact absurd rfl h
 | 11, _ => rfl
 | 12, _ => rfl
 | 13, _ => rfl
 | (n + 14), _ => rfl
theorem smV_y {A ga oa gb ob k : Nat} {fa fb : Value} {f : Fd} {γ : SmG} {b : Nat} {j : Nat} (h : j ≠ 11) : smV A ga oa gb ob k fa fb f γ j = smV A ga oa gb ob k fa fb f ⟨γ.b1, b⟩ j := by
 unfold smV
 match j, h with
 | 0, _ => rfl
 | 1, _ => rfl
 | 2, _ => rfl
 | 3, _ => rfl
 | 4, _ => rfl
 | 5, _ => rfl
 | 6, _ => rfl
 | 7, _ => rfl
 | 8, _ => rfl
 | 9, _ => rfl
 | 10, _ => rfl
 | 11, h => exact absurd rfl h
 | 12, _ => rfl
 | 13, _ => rfl
 | (n + 14), _ => rfl
theorem gD_q {x : Array Bool} {j : Nat} (h : x[j]?.getD false = true) : x.getD j false = true := by rw [Array.getD_eq_getD_getElem?]; exact h
theorem FldsIn.nine {x : World} {g o : Nat} {fs : List Fd} (h : FldsIn x g o fs) {k : Nat} (hk : k < fs.length) (i : Nat) (v : Value) (hv : (fdC fs[k])[i]? = some v) : x.cell? ⟨g, o + k * 9 + i, none⟩ = some v := by
 rw [Nat.mul_comm k 9]; exact h k hk i v hv
end Go.Proofs.YthabffjgdhfbmaaGreatDoor
