/-
  Texts that belong together, one behind the other: DsParse, SnOp, ShTx, ShAw, DsRR, PlainR. Conditions: as each says.
-/
import Derived.ChangeOld
import Derived.Deep.AppendLies
import Derived.Deep.CutRange
import Derived.Deep.RegionHeld3
import Derived.Deep.SlicePairs
import Derived.Deep.Strs
import Derived.Laws.BitsAllLaws
import Derived.Laws.OwnMore
import Derived.Laws.Shifts
import Derived.Lib.QuietBelowIn
import Derived.OpenShut
import Derived.ProofKit
import Derived.RangeFuncCalls
import Derived.ShutString
import Derived.Sort.BigQuietIn
import Derived.Test.YthabffjgdhfbmaaGreatDoorProg
import Derived.Test.YthabffjgdhfbmaaGreatDoorJr1
import Derived.Test.YthabffjgdhfbmaaGreatDoorJr2
import Derived.Test.YthabffjgdhfbmaaGreatDoorJr3
import Derived.Test.YthabffjgdhfbmaaGreatDoorJr4
import Derived.Test.YthabffjgdhfbmaaGreatDoorJr5
import Derived.Test.YthabffjgdhfbmaaGreatDoorJr6
import Derived.Test.YthabffjgdhfbmaaGreatDoorJr7
import Derived.Test.YthabffjgdhfbmaaGreatDoorJr8
import Derived.Test.YthabffjgdhfbmaaGreatDoorJr9
import Derived.Test.YthabffjgdhfbmaaGreatDoorJr10
import Derived.Test.YthabffjgdhfbmaaGreatDoorJr11
import Derived.Test.YthabffjgdhfbmaaGreatDoorJr12
import Derived.Test.YthabffjgdhfbmaaGreatDoorJr13
import Derived.Test.YthabffjgdhfbmaaGreatDoorJr14
import Derived.Test.YthabffjgdhfbmaaGreatDoorJr15
import Derived.Test.YthabffjgdhfbmaaGreatDoorJr16
import Derived.Test.YthabffjgdhfbmaaGreatDoorJr17
import Derived.Test.YthabffjgdhfbmaaGreatDoorJr18
import Derived.Test.YthabffjgdhfbmaaGreatDoorJr19
set_option maxRecDepth 100000
set_option maxHeartbeats 32000000
set_option linter.unusedVariables false
namespace Go.Proofs.YthabffjgdhfbmaaGreatDoor
open Go.RowKit
def parseM (l : List UInt8) : Dv × Int × Nat := if lexErr l = 0 then readM (lrOf (lexRows l)) else (dv0, (lexLine l : Int), lexErr l)
theorem RowsAtC.rowsC {x : World} {v : Value} {rs : List Ln} (h : RowsAtC x v rs) : RowsC x.heap.size x v (lrOf rs) := by
 have hl : (lrOf rs).length = rs.length := by unfold lrOf; simp
 rcases h with ⟨h1, h2⟩ | ⟨g, o, cap, h1, h2, h3⟩
 · exact .inl ⟨h1, by rw [h2]; rfl⟩
 · refine .inr ⟨g, o, cap, by rw [hl]; exact h1, fun j hj => ?_, h3⟩
   have hj' : j < rs.length := by omega
   have e : (lrOf rs)[j] = ((rs[j].1 : Int), rs[j].2) := by
    have k : (lrOf rs)[j]? = some ((rs[j].1 : Int), rs[j].2) := by unfold lrOf; rw [List.getElem?_map, List.getElem?_eq_getElem hj']; rfl
    rw [List.getElem?_eq_getElem hj] at k
    exact Option.some.inj k
   rw [e]
   obtain ⟨q1, u, q2, q3, q4⟩ := h2 j hj'
   refine ⟨q1, u, q2, ?_⟩
   rcases q3 with k | ⟨g', o', cap', k1, k2, k3⟩
   · exact .inl ⟨none, 0, k⟩
   · exact .inr ⟨g', o', cap', k1, q4 _ _ _ k1, k2, k3⟩
def RdC (rs : List Lr) : Prop := ∀ x v, RowsC x.heap.size x v rs → Calls Tryz.prog 40 #[v] x (ReadQ x (readM rs))
theorem flush_wd {M : Nat} {ws : List Wd} {w : Wd} (h : ∀ z ∈ ws, z.length ≤ M) (hw : w.length ≤ M) : ∀ z ∈ flushW ws w, z.length ≤ M := by
 intro z hz
 unfold flushW at hz
 split at hz
 · exact h z hz
 · rcases List.mem_append.1 hz with hz | hz
   · exact h z hz
   · have : z = w := by simpa using hz
     rw [this]; exact hw
theorem close_wd {M l : Nat} {ws : List Wd} (h : ∀ z ∈ ws, z.length ≤ M) : ∀ r ∈ closeL l ws, ∀ z ∈ r.2, z.length ≤ M := by
 intro r hr z hz
 unfold closeL at hr
 split at hr
 · have : r = (l, ws) := by simpa using hr
   rw [this] at hz; exact h z hz
 · cases hr
theorem scan_wd (s : List UInt8) : ∀ (l : Nat) (ws : List Wd) (w : Wd) (R : List Ln) (M : Nat), scanL l ws w s = .ok R → (∀ z ∈ ws, z.length ≤ M) → w.length + s.length ≤ M → ∀ r ∈ R, ∀ z ∈ r.2, z.length ≤ M := by
 induction s with
 | nil =>
  intro l ws w R M h hws hw
  unfold scanL at h
  cases h
  exact close_wd (flush_wd hws (by simpa using hw))
 | cons c s ih =>
  intro l ws w R M h hws hw
  rw [List.length_cons] at hw
  unfold scanL at h
  by_cases h10 : c = 10
  · rw [if_pos h10] at h
    cases hs : scanL (l + 1) [] [] s with
    | error n => rw [hs] at h; cases h
    | ok t =>
     rw [hs] at h
     cases h
     intro r hr
     rcases List.mem_append.1 hr with hr | hr
     · exact close_wd (flush_wd hws (by omega)) r hr
     · exact ih _ _ _ _ M hs (fun z hz => by cases hz) (by simp; omega) r hr
  rw [if_neg h10] at h
  by_cases h32 : c = 32
  · rw [if_pos h32] at h
    exact ih _ _ _ _ M h (flush_wd hws (by omega)) (by simp; omega)
  rw [if_neg h32] at h
  split at h
  · exact ih _ _ _ _ M h hws (by simp; omega)
  · cases h
theorem lines_bd (l : List UInt8) : ((lrOf (lexRows l)).length : Int) ≤ 4500 ∧ (∀ r ∈ lrOf (lexRows l), (r.2.length : Int) ≤ 4500) ∧ ∀ r ∈ lrOf (lexRows l), ∀ z ∈ r.2, (z.length : Int) ≤ 5000 := by
 have h := lex_len l
 have hl : (lrOf (lexRows l)).length = (lexRows l).length := by unfold lrOf; simp
 refine ⟨by omega, fun r hr => ?_, fun r hr z hz => ?_⟩
 · obtain ⟨q, hq, rfl⟩ := List.mem_map.1 hr
   have := h.2 q hq
   show (q.2.length : Int) ≤ 4500
   omega
 · obtain ⟨q, hq, rfl⟩ := List.mem_map.1 hr
   have hz : z ∈ q.2 := hz
   have k : z.length ≤ 4000 := by
    unfold lexRows at hq
    split at hq
    · rename_i hs
      cases hc : scanL 1 [] [] l with
      | error n => rw [hc] at hq; cases hq
      | ok R =>
       rw [hc] at hq
       exact scan_wd l _ _ _ R 4000 hc (fun z hz => by cases hz) (by simp; omega) q hq z hz
    · cases hq
   omega
theorem FldsAt.form {y : World} {v : Value} {fs : List Fd} (h : FldsAt y v fs) : ∃ p n c, v = .slice p n c := by
 rcases h with ⟨rfl, _⟩ | ⟨g, o, cap, rfl, _⟩
 · exact ⟨none, 0, 0, rfl⟩
 · exact ⟨_, _, _, rfl⟩
theorem BytesAt.form' {y : World} {v : Value} {bs : List Nat} (h : BytesAt y v bs) : ∃ p n c, v = .slice p n c := by
 rcases h with ⟨rfl, _⟩ | ⟨g, o, cap, rfl, _⟩
 · exact ⟨none, 0, 0, rfl⟩
 · exact ⟨_, _, _, rfl⟩
theorem FldsAt.on' {x y : World} {v : Value} {fs : List Fd} (h : FldsAt x v fs) (hk : ∀ g, v.ownBlock = some g → y.heap[g]? = x.heap[g]?) : FldsAt y v fs := by
 rcases h with h | ⟨g, o, cap, rfl, h0, h2, h3⟩
 · exact .inl h
 · have k := hk g rfl
   refine .inr ⟨g, o, cap, rfl, h0, fun j hj i u hu => (World.cell?_of_block (a := ⟨g, o + 9 * j + i, none⟩) k).trans (h2 j hj i u hu), ?_⟩
   rw [Array.getElem?_eq_getElem h3] at k
   exact (Array.getElem?_eq_some_iff.1 k).1
theorem BytesAt.on' {x y : World} {v : Value} {bs : List Nat} (h : BytesAt x v bs) (hk : ∀ g, v.ownBlock = some g → y.heap[g]? = x.heap[g]?) : BytesAt y v bs := by
 rcases h with h | ⟨g, o, cap, rfl, h2, h3⟩
 · exact .inl h
 · have k := hk g rfl
   refine .inr ⟨g, o, cap, rfl, fun j hj => (World.cell?_of_block (a := ⟨g, o + j, none⟩) k).trans (h2 j hj), ?_⟩
   rw [Array.getElem?_eq_getElem h3] at k
   exact (Array.getElem?_eq_some_iff.1 k).1
theorem parse_any (s : ByteArray) (w : World) (T7 : Tab7 w) : Calls Tryz.prog 28 #[.string s] w (ReadQ w (parseM s.data.toList)) := by
 have B0 : Hid (Below w.heap.size w (w.alloc (.cells dz 33))) := (Below.refl _ _).alloc (Nat.le_refl _) _
 have R0 : Hid ((w.alloc (.cells dz 33)).heap[w.heap.size]? = some (.cells dz 33 (0, 0))) := World.alloc_heap_new w _
 have hR : Hid (Calls Tryz.prog 38 #[.string s] (w.alloc (.cells dz 33)) fun e w' => ∃ v, e = .returned (.tuple #[v, .int .i64 ((lexLine s.data.toList : Nat) : Int), .int .i64 ((lexErr s.data.toList : Nat) : Int)]) ∧ RowsAtC w' v (lexRows s.data.toList) ∧ Below (w.alloc (.cells dz 33)).heap.size (w.alloc (.cells dz 33)) w') := HRC s _ (T7.below B0.out)
 clear T7
 by_cases he : lexErr s.data.toList = 0
 · have eT : parseM s.data.toList = readM (lrOf (lexRows s.data.toList)) := by unfold parseM; rw [if_pos he]
   rw [eT]
   rw [he] at hR
   have bd := lines_bd s.data.toList
   generalize lexRows s.data.toList = rs at *
   have rd : Hid (RdC (lrOf rs)) := fun x v h => dread_any (lrOf rs) v x h bd.1 bd.2.1 bd.2.2
   clear he eT bd
   generalize ((lexLine s.data.toList : Nat) : Int) = L at *
   go_enter Tryz.func28, Tryz.ntmps28
   go_upto_region 1 with fail
   change Code.wp Tryz.prog _ _ _ (w.alloc (.cells dz 33))
   generalize w.alloc (.cells dz 33) = w0 at *
   go_wp2_with fail
   refine hR.out.mono ?_
   rintro e w1 ⟨v, rfl, hv, hb1⟩
   have rc := rd.out w1 v hv.rowsC
   have R1 : Hid (w1.heap[w.heap.size]? = some (.cells dz 33 (0, 0))) := (hb1.block _ (Array.getElem?_eq_some_iff.1 R0.out).1).trans R0.out
   have B1 : Hid (Below w.heap.size w w1) := B0.out.trans (hb1.mono B0.out.size)
   generalize readM (lrOf rs) = T at *
   replace rc : Hid (Calls Tryz.prog 40 #[v] w1 (ReadQ w1 T)) := rc
   clear hv hb1 hR rd R0 B0
   go_wp2_with fail
   refine rc.out.mono ?_
   rintro e y ⟨fv, qv, rfl, hf, hq, hb, nf0, nq0⟩
   obtain ⟨pf, nf, cf, rfl⟩ := hf.form
   obtain ⟨pq, mq, cq, rfl⟩ := hq.form'
   have R2 : y.heap[w.heap.size]? = some (.cells dz 33 (0, 0)) := (hb.block _ (Array.getElem?_eq_some_iff.1 R1.out).1).trans R1.out
   have B2 : Hid (Below w.heap.size w y) := B1.out.trans (hb.mono B1.out.size)
   have Rl : w.heap.size < w1.heap.size := (Array.getElem?_eq_some_iff.1 R1.out).1
   replace hf : Hid (FldsAt y (.slice pf nf cf) T.1.fs) := hf
   replace hq : Hid (BytesAt y (.slice pq mq cq) T.1.rq) := hq
   have fN : Hid (∀ g, (Value.slice pf nf cf).ownBlock = some g → w.heap.size < g) := fun g h => by have := nf0 g h; omega
   have qN : Hid (∀ g, (Value.slice pq mq cq).ownBlock = some g → w.heap.size < g) := fun g h => by have := nq0 g h; omega
   obtain ⟨c0, f0, c1, f1, c2, f2, c3, f3, c4, f4, c5, f5, c6, f6, c7, f7, c8, f8, c9, f9, c10, f10, c11, f11⟩ := rd12 R2
   replace R2 : Hid (y.heap[w.heap.size]? = some (.cells dz 33 (0, 0))) := R2
   clear nf0 nq0 hb rc R1 B1 Rl
   obtain ⟨d, ln, en⟩ := T
   simp only at *
   go_wp2
   change bodyPost _ _ _ _ _ (putD y w.heap.size d (.slice pf nf cf) (.slice pq mq cq))
   have pa := putD_at (y := y) R2.out d (.slice pf nf cf) (.slice pq mq cq)
   have pb := putD_below B2.out (Nat.le_refl w.heap.size) d (.slice pf nf cf) (.slice pq mq cq)
   have off : ∀ g, w.heap.size < g → (putD y w.heap.size d (.slice pf nf cf) (.slice pq mq cq)).heap[g]? = y.heap[g]? := fun g hg => put12_off (by omega) _ _ _ _ _ _ _ _ _ _ _ _
   generalize putD y w.heap.size d (.slice pf nf cf) (.slice pq mq cq) = yy at *
   refine bodyPost_ret (res_dev3 Tryz.results28 rfl rfl rfl pa) rfl ?_
   exact ⟨.slice pf nf cf, .slice pq mq cq, rfl, hf.out.on' fun g hg => off g (fN.out g hg), hq.out.on' fun g hg => off g (qN.out g hg), pb, fun g h => Nat.le_of_lt (fN.out g h), fun g h => Nat.le_of_lt (qN.out g h)⟩
 · have eT : parseM s.data.toList = (dv0, (lexLine s.data.toList : Int), lexErr s.data.toList) := by unfold parseM; rw [if_neg he]
   rw [eT]
   have hne : (((lexErr s.data.toList : Nat) : Int) != 0) = true := by rw [bne_iff_ne]; omega
   generalize lexRows s.data.toList = rs at *
   generalize lexErr s.data.toList = E at *
   generalize lexLine s.data.toList = L at *
   clear he eT
   go_enter Tryz.func28, Tryz.ntmps28
   go_upto_region 1 with fail
   change Code.wp Tryz.prog _ _ _ (w.alloc (.cells dz 33))
   generalize w.alloc (.cells dz 33) = w0 at *
   go_wp2_with fail
   refine hR.out.mono ?_
   rintro e w1 ⟨v, rfl, hv, hb1⟩
   have R1 : w1.heap[w.heap.size]? = some (.cells dz 33 (0, 0)) := (hb1.block _ (Array.getElem?_eq_some_iff.1 R0.out).1).trans R0.out
   have B1 : Hid (Below w.heap.size w w1) := B0.out.trans (hb1.mono B0.out.size)
   obtain ⟨c0, f0, c1, f1, c2, f2, c3, f3, c4, f4, c5, f5, c6, f6, c7, f7, c8, f8, c9, f9, c10, f10, c11, f11⟩ := rd12 R1
   replace R1 : Hid (w1.heap[w.heap.size]? = some (.cells dz 33 (0, 0))) := R1
   clear hv hb1 hR R0 B0
   go_wp2_with fail
   change bodyPost _ _ _ _ _ (put12 w1 w.heap.size (.string ⟨#[]⟩) (.int .i64 0) (.int .i64 0) (.int .i64 0) (.int .i64 0) (.string ⟨#[]⟩) (.slice none 0 0) (.slice none 0 0) (.int .i64 0) (.int .i64 0) (.int .i64 0) (.int .i64 0))
   have pa := put12_at (y := w1) R1.out (.string ⟨#[]⟩) (.int .i64 0) (.int .i64 0) (.int .i64 0) (.int .i64 0) (.string ⟨#[]⟩) (.slice none 0 0) (.slice none 0 0) (.int .i64 0) (.int .i64 0) (.int .i64 0) (.int .i64 0)
   have pb := put12_below B1.out (Nat.le_refl w.heap.size) (.string ⟨#[]⟩) (.int .i64 0) (.int .i64 0) (.int .i64 0) (.int .i64 0) (.string ⟨#[]⟩) (.slice none 0 0) (.slice none 0 0) (.int .i64 0) (.int .i64 0) (.int .i64 0) (.int .i64 0)
   generalize put12 w1 w.heap.size (.string ⟨#[]⟩) (.int .i64 0) (.int .i64 0) (.int .i64 0) (.int .i64 0) (.string ⟨#[]⟩) (.slice none 0 0) (.slice none 0 0) (.int .i64 0) (.int .i64 0) (.int .i64 0) (.int .i64 0) = yy at *
   refine bodyPost_ret (res_dev3 Tryz.results28 rfl rfl rfl pa) rfl ?_
   exact ⟨nilS, nilS, rfl, .inl ⟨rfl, rfl⟩, .inl ⟨rfl, rfl⟩, pb, fun g h => (by cases h), fun g h => (by cases h)⟩
end Go.Proofs.YthabffjgdhfbmaaGreatDoor
namespace Go.Proofs.YthabffjgdhfbmaaGreatDoor
open Go.ChangeShapes Go.WideShapes Go.ChangeAt Go.RowKit
open Go.Deep (open_slice)
section
variable {H : Type} {enc : TypeId × Value → H} {w : World}
def BytesW (x : World) (v : Value) (bs : List Nat) : Prop := (∃ a c, v = .slice a 0 c ∧ bs = []) ∨ ∃ g o cap, v = .slice (some ⟨g, o, none⟩) bs.length cap ∧ BytesIn x g o bs ∧ g < x.heap.size
theorem BytesW.form {x : World} {v : Value} {bs : List Nat} (h : BytesW x v bs) : ∃ p c, v = .slice p bs.length c := by
 rcases h with ⟨a, c, h, rfl⟩ | ⟨g, o, cap, h, _⟩
 · exact ⟨_, _, h⟩
 · exact ⟨_, _, h⟩
theorem BytesW.at {x : World} {v : Value} {bs : List Nat} (h : BytesW x v bs) (hn : ¬ bs = []) : BytesAt x v bs := by
 rcases h with ⟨a, c, h, e⟩ | h
 · exact absurd e hn
 · exact .inr h
end
end Go.Proofs.YthabffjgdhfbmaaGreatDoor
namespace Go.Proofs.YthabffjgdhfbmaaGreatDoor
open Go.RowKit
theorem DvJ.i {d : Dv} (h : DvJ d) (hl : d.fs.length ≤ 8) : DvI d :=
 ⟨by have := h.nm; omega, fun f hf => by have k := h.fs f hf; exact ⟨by have := k.nm; omega, k.pl, k.wd, k.sn, k.sd, k.on, k.od⟩, h.sz, by omega⟩
theorem DvI.snd {d : Dv} (h : DvI d) (hc : ckE d = 0) (hq : AllBytes d.rq) : Snd d := ⟨hc, fun f hf => by have k := h.fs f hf; exact ⟨k.pl, k.wd, k.sn, k.sd, k.on, k.od⟩, hq⟩
theorem bytes_form {x : World} {v : Value} {bs : List Nat} (h : BytesAt x v bs) : ∃ p c, v = .slice p bs.length c := by
 rcases h with ⟨h1, h2⟩ | ⟨g, o, cap, h, _⟩
 · exact ⟨none, 0, by rw [h1, h2]; rfl⟩
 · exact ⟨_, _, h⟩
def ShCkC (w : World) (d : Dv) (fv qv : Value) (T : Int) : Prop := ∀ x, Below w.heap.size w x → Calls Tryz.prog 22 #[dvV d fv qv] x (QA x T)
theorem shCkC {d : Dv} {fv qv : Value} {w : World} (hi : DvI d) (hq : ∃ p c, qv = .slice p d.rq.length c) (hf : FldsV w fv d.fs) : ShCkC w d fv qv (ckE d) := fun x hx => check_any d fv qv x hi hq (hf.below hx)
def WrnC (w : World) (d : Dv) (fv qv : Value) : Prop := ∀ x, Below w.heap.size w x → Calls Tryz.prog 23 #[dvV d fv qv] x fun e y => e = .returned (.string (txt (textD d))) ∧ Below x.heap.size x y
theorem shtext_any (d : Dv) (fv qv : Value) (w : World) (hi : DvI d) (hr : AllBytes d.rq) (hq : BytesW w qv d.rq) (hf : FldsV w fv d.fs) :
 Calls Tryz.prog 10 #[dvV d fv qv] w fun e y => e = .returned (.tuple #[.string (txt (shT d)), .int .i64 (ckE d)]) ∧ Below w.heap.size w y := by
 have ck : Hid (ShCkC w d fv qv (ckE d)) := shCkC hi hq.form hf
 have B0 : Hid (Below w.heap.size w (w.alloc (.cells #[.string (txt d.nm), .int .i64 d.st, .int .i64 d.es, .int .i64 d.mx, .int .i64 d.sz, .string (txt d.sm), fv, qv, .int .i64 d.po, .int .i64 d.ti, .int .i64 d.re, .int .i64 d.ag] 33))) := (Below.refl _ _).alloc (Nat.le_refl _) _
 have D0 : Hid (DevB (w.alloc (.cells #[.string (txt d.nm), .int .i64 d.st, .int .i64 d.es, .int .i64 d.mx, .int .i64 d.sz, .string (txt d.sm), fv, qv, .int .i64 d.po, .int .i64 d.ti, .int .i64 d.re, .int .i64 d.ag] 33)) w.heap.size d fv qv) := DevB.new hf _
 by_cases h0 : ckE d = 0
 · have wr : Hid (WrnC w d fv qv) := fun x hx => shwritten_any d fv qv x (hi.snd h0 hr).ok (hf.below hx) ((hq.at (fun e => by have := (hi.snd h0 hr).ok.rq.1; rw [e] at this; simp at this)).below hx)
   have eT : shT d = textD d := by unfold shT; rw [if_pos h0]
   rw [eT, h0]
   rw [h0] at ck
   clear hi hr hq hf h0 eT
   replace wr : Hid (∀ x, Below w.heap.size w x → Calls Tryz.prog 23 #[dvV d fv qv] x fun e y => e = .returned (.string (txt (textD d))) ∧ Below x.heap.size x y) := wr
   go_enter Tryz.func10, Tryz.ntmps10
   go_wp2_with fail
   refine (ck.out (w.alloc (.cells #[.string (txt d.nm), .int .i64 d.st, .int .i64 d.es, .int .i64 d.mx, .int .i64 d.sz, .string (txt d.sm), fv, qv, .int .i64 d.po, .int .i64 d.ti, .int .i64 d.re, .int .i64 d.ag] 33)) B0.out).mono ?_
   rintro e y ⟨rfl, hb⟩
   have B1 : Hid (Below w.heap.size w y) := B0.out.trans (hb.mono B0.out.size)
   obtain ⟨c0, c1, c2, c3, c4, c5, c6, c7, c8, c9, c10, c11⟩ := (D0.out.below hb).cells
   clear hb B0 D0 ck
   go_wp2_with fail
   refine (wr.out y B1.out).mono ?_
   rintro e z ⟨rfl, hb⟩
   have B2 : Hid (Below w.heap.size w z) := B1.out.trans (hb.mono B1.out.size)
   clear hb B1 wr
   go_wp2
   go_returns
   exact ⟨rfl, B2.out⟩
 · have eT : shT d = [] := by unfold shT; rw [if_neg h0]
   rw [eT]
   have hne : ((ckE d) == 0) = false := beq_eq_false_iff_ne.2 h0
   clear hi hr hq hf h0 eT
   generalize ckE d = T at *
   go_enter Tryz.func10, Tryz.ntmps10
   go_wp2_with fail
   refine (ck.out (w.alloc (.cells #[.string (txt d.nm), .int .i64 d.st, .int .i64 d.es, .int .i64 d.mx, .int .i64 d.sz, .string (txt d.sm), fv, qv, .int .i64 d.po, .int .i64 d.ti, .int .i64 d.re, .int .i64 d.ag] 33)) B0.out).mono ?_
   rintro e y ⟨rfl, hb⟩
   have B1 : Hid (Below w.heap.size w y) := B0.out.trans (hb.mono B0.out.size)
   clear hb B0 D0 ck
   go_wp2
   go_returns
   exact ⟨rfl, B1.out⟩
theorem parse_j (l : List UInt8) : DvJ (parseM l).1 ∧ (parseM l).1.fs.length ≤ 8 := by
 unfold parseM
 split
 · exact ⟨read_j _, read_fs _⟩
 · exact ⟨dv0_j, Nat.zero_le _⟩
theorem shread_any (s : ByteArray) (w : World) (T7 : Tab7 w) : Calls Tryz.prog 13 #[.string s] w (ReadQ w (chkM (parseM s.data.toList))) := by
 have B0 : Hid (Below w.heap.size w (w.alloc (.cells dz 33))) := (Below.refl _ _).alloc (Nat.le_refl _) _
 have R0 : Hid ((w.alloc (.cells dz 33)).heap[w.heap.size]? = some (.cells dz 33 (0, 0))) := World.alloc_heap_new w _
 have pc : Hid (Calls Tryz.prog 28 #[.string s] (w.alloc (.cells dz 33)) (ReadQ (w.alloc (.cells dz 33)) (parseM s.data.toList))) := parse_any s _ (T7.below B0.out)
 have hj := parse_j s.data.toList
 clear T7
 generalize parseM s.data.toList = T at *
 obtain ⟨U, hU⟩ : ∃ U, chkM T = U := ⟨_, rfl⟩
 rw [hU]
 replace hU : Hid (chkM T = U) := hU
 go_enter Tryz.func13, Tryz.ntmps13
 go_upto_region 1 with fail
 change Code.wp Tryz.prog _ _ _ (w.alloc (.cells dz 33))
 generalize w.alloc (.cells dz 33) = w0 at *
 go_wp2_with fail
 refine pc.out.mono ?_
 rintro e y ⟨fv, qv, rfl, hf, hq, hb, nf0, nq0⟩
 have ck : Hid (ShCkC y T.1 fv qv (ckE T.1)) := shCkC (hj.1.i hj.2) (bytes_form hq) hf.v
 obtain ⟨pf, nf, cf, rfl⟩ := hf.form
 obtain ⟨pq, mq, cq, rfl⟩ := hq.form'
 have R1 : Hid (y.heap[w.heap.size]? = some (.cells dz 33 (0, 0))) := (hb.block _ (Array.getElem?_eq_some_iff.1 R0.out).1).trans R0.out
 have B1 : Hid (Below w.heap.size w y) := B0.out.trans (hb.mono B0.out.size)
 have Rl : w.heap.size < w0.heap.size := (Array.getElem?_eq_some_iff.1 R0.out).1
 have fN : Hid (∀ g, (Value.slice pf nf cf).ownBlock = some g → w.heap.size < g) := fun g h => by have := nf0 g h; omega
 have qN : Hid (∀ g, (Value.slice pq mq cq).ownBlock = some g → w.heap.size < g) := fun g h => by have := nq0 g h; omega
 replace hf : Hid (FldsAt y (.slice pf nf cf) T.1.fs) := hf
 replace hq : Hid (BytesAt y (.slice pq mq cq) T.1.rq) := hq
 obtain ⟨d, ln, en⟩ := T
 clear hb nf0 nq0 Rl R0 B0 pc hj
 simp only at *
 have YD : Hid ((y.alloc (.cells #[.string (txt d.nm), .int .i64 d.st, .int .i64 d.es, .int .i64 d.mx, .int .i64 d.sz, .string (txt d.sm), .slice pf nf cf, .slice pq mq cq, .int .i64 d.po, .int .i64 d.ti, .int .i64 d.re, .int .i64 d.ag] 33)).heap[y.heap.size]? = some (.cells #[.string (txt d.nm), .int .i64 d.st, .int .i64 d.es, .int .i64 d.mx, .int .i64 d.sz, .string (txt d.sm), .slice pf nf cf, .slice pq mq cq, .int .i64 d.po, .int .i64 d.ti, .int .i64 d.re, .int .i64 d.ag] 33 (0, 0))) := World.alloc_heap_new y _
 have YB : Hid (Below y.heap.size y (y.alloc (.cells #[.string (txt d.nm), .int .i64 d.st, .int .i64 d.es, .int .i64 d.mx, .int .i64 d.sz, .string (txt d.sm), .slice pf nf cf, .slice pq mq cq, .int .i64 d.po, .int .i64 d.ti, .int .i64 d.re, .int .i64 d.ag] 33))) := (Below.refl _ _).alloc (Nat.le_refl _) _
 by_cases he : en = 0
 · subst he
   have h1 : chkM (d, ln, 0) = if cN d = 0 then (d, 0, 0) else (dv0, ln, cN d) := by unfold chkM; rw [if_pos rfl]
   have hU1 := hU.out
   rw [h1] at hU1
   clear hU
   by_cases hc : cN d = 0
   · rw [if_pos hc] at hU1
     subst hU1
     rw [cN_0.1 hc] at ck
     clear h1 hc
     go_wp2_with fail
     change Calls Tryz.prog _ _ (y.alloc (.cells #[.string (txt d.nm), .int .i64 d.st, .int .i64 d.es, .int .i64 d.mx, .int .i64 d.sz, .string (txt d.sm), .slice pf nf cf, .slice pq mq cq, .int .i64 d.po, .int .i64 d.ti, .int .i64 d.re, .int .i64 d.ag] 33)) _
     generalize y.alloc (.cells #[.string (txt d.nm), .int .i64 d.st, .int .i64 d.es, .int .i64 d.mx, .int .i64 d.sz, .string (txt d.sm), .slice pf nf cf, .slice pq mq cq, .int .i64 d.po, .int .i64 d.ti, .int .i64 d.re, .int .i64 d.ag] 33) = y1 at *
     refine (ck.out y1 YB.out).mono ?_
     rintro e z ⟨rfl, hb⟩
     have b2 : Below y.heap.size y z := YB.out.trans (hb.mono YB.out.size)
     have RZ : Hid (z.heap[w.heap.size]? = some (.cells dz 33 (0, 0))) := (b2.block _ (Array.getElem?_eq_some_iff.1 R1.out).1).trans R1.out
     have BZ : Hid (Below w.heap.size w z) := B1.out.trans (b2.mono B1.out.size)
     have DZ := (hb.block _ (Array.getElem?_eq_some_iff.1 YD.out).1).trans YD.out
     have fz : Hid (FldsAt z (.slice pf nf cf) d.fs) := hf.out.below b2
     have qz : Hid (BytesAt z (.slice pq mq cq) d.rq) := hq.out.below b2
     obtain ⟨a0, x0, a1, x1, a2, x2, a3, x3, a4, x4, a5, x5, a6, x6, a7, x7, a8, x8, a9, x9, a10, x10, a11, x11⟩ := rd12 DZ
     obtain ⟨c0, f0, c1, f1, c2, f2, c3, f3, c4, f4, c5, f5, c6, f6, c7, f7, c8, f8, c9, f9, c10, f10, c11, f11⟩ := rd12 RZ.out
     clear b2 hb ck R1 B1 YD YB DZ hf hq x0 x1 x2 x3 x4 x5 x6 x7 x8 x9 x10 x11
     go_wp2
     change bodyPost _ _ _ _ _ (putD z w.heap.size d (.slice pf nf cf) (.slice pq mq cq))
     have pa := putD_at (y := z) RZ.out d (.slice pf nf cf) (.slice pq mq cq)
     have pb := putD_below BZ.out (Nat.le_refl w.heap.size) d (.slice pf nf cf) (.slice pq mq cq)
     have off : ∀ g, w.heap.size < g → (putD z w.heap.size d (.slice pf nf cf) (.slice pq mq cq)).heap[g]? = z.heap[g]? := fun g hg => put12_off (by omega) _ _ _ _ _ _ _ _ _ _ _ _
     generalize putD z w.heap.size d (.slice pf nf cf) (.slice pq mq cq) = yy at *
     refine bodyPost_ret (res_dev3 Tryz.results13 rfl rfl rfl pa) rfl ?_
     exact ⟨.slice pf nf cf, .slice pq mq cq, rfl, fz.out.on' fun g hg => off g (fN.out g hg), qz.out.on' fun g hg => off g (qN.out g hg), pb, fun g h => Nat.le_of_lt (fN.out g h), fun g h => Nat.le_of_lt (qN.out g h)⟩
   · rw [if_neg hc] at hU1
     subst hU1
     have hT := ck_nat d
     have hne : (((cN d : Nat) : Int) == 0) = false := beq_eq_false_iff_ne.2 (by omega)
     have ck' : Hid (ShCkC y d (.slice pf nf cf) (.slice pq mq cq) ((cN d : Nat) : Int)) := by unfold cN; rw [hT]; exact ck.out
     clear h1 hc hT ck
     generalize cN d = E at *
     go_wp2_with fail
     change Calls Tryz.prog _ _ (y.alloc (.cells #[.string (txt d.nm), .int .i64 d.st, .int .i64 d.es, .int .i64 d.mx, .int .i64 d.sz, .string (txt d.sm), .slice pf nf cf, .slice pq mq cq, .int .i64 d.po, .int .i64 d.ti, .int .i64 d.re, .int .i64 d.ag] 33)) _
     generalize y.alloc (.cells #[.string (txt d.nm), .int .i64 d.st, .int .i64 d.es, .int .i64 d.mx, .int .i64 d.sz, .string (txt d.sm), .slice pf nf cf, .slice pq mq cq, .int .i64 d.po, .int .i64 d.ti, .int .i64 d.re, .int .i64 d.ag] 33) = y1 at *
     refine (ck'.out y1 YB.out).mono ?_
     rintro e z ⟨rfl, hb⟩
     have b2 : Below y.heap.size y z := YB.out.trans (hb.mono YB.out.size)
     have RZ : Hid (z.heap[w.heap.size]? = some (.cells dz 33 (0, 0))) := (b2.block _ (Array.getElem?_eq_some_iff.1 R1.out).1).trans R1.out
     have BZ : Hid (Below w.heap.size w z) := B1.out.trans (b2.mono B1.out.size)
     obtain ⟨c0, f0, c1, f1, c2, f2, c3, f3, c4, f4, c5, f5, c6, f6, c7, f7, c8, f8, c9, f9, c10, f10, c11, f11⟩ := rd12 RZ.out
     clear b2 hb ck' R1 B1 YD YB hf hq fN qN
     go_wp2
     change bodyPost _ _ _ _ _ (put12 z w.heap.size (.string ⟨#[]⟩) (.int .i64 0) (.int .i64 0) (.int .i64 0) (.int .i64 0) (.string ⟨#[]⟩) (.slice none 0 0) (.slice none 0 0) (.int .i64 0) (.int .i64 0) (.int .i64 0) (.int .i64 0))
     have pa := put12_at (y := z) RZ.out (.string ⟨#[]⟩) (.int .i64 0) (.int .i64 0) (.int .i64 0) (.int .i64 0) (.string ⟨#[]⟩) (.slice none 0 0) (.slice none 0 0) (.int .i64 0) (.int .i64 0) (.int .i64 0) (.int .i64 0)
     have pb := put12_below BZ.out (Nat.le_refl w.heap.size) (.string ⟨#[]⟩) (.int .i64 0) (.int .i64 0) (.int .i64 0) (.int .i64 0) (.string ⟨#[]⟩) (.slice none 0 0) (.slice none 0 0) (.int .i64 0) (.int .i64 0) (.int .i64 0) (.int .i64 0)
     generalize put12 z w.heap.size (.string ⟨#[]⟩) (.int .i64 0) (.int .i64 0) (.int .i64 0) (.int .i64 0) (.string ⟨#[]⟩) (.slice none 0 0) (.slice none 0 0) (.int .i64 0) (.int .i64 0) (.int .i64 0) (.int .i64 0) = yy at *
     refine bodyPost_ret (res_dev3 Tryz.results13 rfl rfl rfl pa) rfl ?_
     exact ⟨nilS, nilS, rfl, .inl ⟨rfl, rfl⟩, .inl ⟨rfl, rfl⟩, pb, fun g h => (by cases h), fun g h => (by cases h)⟩
 · have h1 : chkM (d, ln, en) = (dv0, ln, en) := by unfold chkM; rw [if_neg he]
   have hU1 := hU.out
   rw [h1] at hU1
   subst hU1
   have hne : (((en : Nat) : Int) == 0) = false := beq_eq_false_iff_ne.2 (by omega)
   clear h1 he ck hU
   have RZ : Hid ((y.alloc (.cells #[.string (txt d.nm), .int .i64 d.st, .int .i64 d.es, .int .i64 d.mx, .int .i64 d.sz, .string (txt d.sm), .slice pf nf cf, .slice pq mq cq, .int .i64 d.po, .int .i64 d.ti, .int .i64 d.re, .int .i64 d.ag] 33)).heap[w.heap.size]? = some (.cells dz 33 (0, 0))) := (YB.out.block _ (Array.getElem?_eq_some_iff.1 R1.out).1).trans R1.out
   have BZ : Hid (Below w.heap.size w (y.alloc (.cells #[.string (txt d.nm), .int .i64 d.st, .int .i64 d.es, .int .i64 d.mx, .int .i64 d.sz, .string (txt d.sm), .slice pf nf cf, .slice pq mq cq, .int .i64 d.po, .int .i64 d.ti, .int .i64 d.re, .int .i64 d.ag] 33))) := B1.out.trans (YB.out.mono B1.out.size)
   go_upto_region 2 with fail
   change Code.wp Tryz.prog _ _ _ (y.alloc (.cells #[.string (txt d.nm), .int .i64 d.st, .int .i64 d.es, .int .i64 d.mx, .int .i64 d.sz, .string (txt d.sm), .slice pf nf cf, .slice pq mq cq, .int .i64 d.po, .int .i64 d.ti, .int .i64 d.re, .int .i64 d.ag] 33))
   generalize y.alloc (.cells #[.string (txt d.nm), .int .i64 d.st, .int .i64 d.es, .int .i64 d.mx, .int .i64 d.sz, .string (txt d.sm), .slice pf nf cf, .slice pq mq cq, .int .i64 d.po, .int .i64 d.ti, .int .i64 d.re, .int .i64 d.ag] 33) = z at *
   obtain ⟨c0, f0, c1, f1, c2, f2, c3, f3, c4, f4, c5, f5, c6, f6, c7, f7, c8, f8, c9, f9, c10, f10, c11, f11⟩ := rd12 RZ.out
   clear R1 B1 YD YB hf hq fN qN
   go_wp2
   change bodyPost _ _ _ _ _ (put12 z w.heap.size (.string ⟨#[]⟩) (.int .i64 0) (.int .i64 0) (.int .i64 0) (.int .i64 0) (.string ⟨#[]⟩) (.slice none 0 0) (.slice none 0 0) (.int .i64 0) (.int .i64 0) (.int .i64 0) (.int .i64 0))
   have pa := put12_at (y := z) RZ.out (.string ⟨#[]⟩) (.int .i64 0) (.int .i64 0) (.int .i64 0) (.int .i64 0) (.string ⟨#[]⟩) (.slice none 0 0) (.slice none 0 0) (.int .i64 0) (.int .i64 0) (.int .i64 0) (.int .i64 0)
   have pb := put12_below BZ.out (Nat.le_refl w.heap.size) (.string ⟨#[]⟩) (.int .i64 0) (.int .i64 0) (.int .i64 0) (.int .i64 0) (.string ⟨#[]⟩) (.slice none 0 0) (.slice none 0 0) (.int .i64 0) (.int .i64 0) (.int .i64 0) (.int .i64 0)
   generalize put12 z w.heap.size (.string ⟨#[]⟩) (.int .i64 0) (.int .i64 0) (.int .i64 0) (.int .i64 0) (.string ⟨#[]⟩) (.slice none 0 0) (.slice none 0 0) (.int .i64 0) (.int .i64 0) (.int .i64 0) (.int .i64 0) = yy at *
   refine bodyPost_ret (res_dev3 Tryz.results13 rfl rfl rfl pa) rfl ?_
   exact ⟨nilS, nilS, rfl, .inl ⟨rfl, rfl⟩, .inl ⟨rfl, rfl⟩, pb, fun g h => (by cases h), fun g h => (by cases h)⟩
theorem parse_text {d : Dv} (h : DvOk d) : parseM (textD d) = (d, 0, 0) := by
 have hl : (textD d).length ≤ 4000 := by have := h.len; omega
 obtain ⟨h1, h2, h3⟩ := lex_text (linesW d) h.lines hl
 unfold parseM
 rw [show lexErr (textD d) = 0 from h3, if_pos rfl, show lexRows (textD d) = nrL 1 (linesW d) from h1]
 exact read_lines h (wds_nr _ 1)
def awd : Dv := ⟨[97], 2, 27, 32, 3, [120, 111, 114], [], [5], 10, 3, 0, 30⟩
theorem awd_ck : ckE awd = 0 := of_decide_eq_true (by kernel_rfl)
theorem awd_i : DvI awd := ⟨by decide, fun f hf => (by cases hf), ⟨by decide, by decide⟩, by decide⟩
theorem awd_b : AllBytes awd.rq := fun c hc => by
 have : c = 5 := by simpa [awd] using hc
 omega
theorem awd_len : 20 < (txt (textD awd)).size := by
 rw [txt_size]
 exact of_decide_eq_true (by kernel_rfl)
def AwT (S : ByteArray) (p : Addr) : World → Prop := fun x => Calls Tryz.prog 10 #[.agg #[.string ⟨#[97]⟩, .int .i64 2, .int .i64 27, .int .i64 32, .int .i64 3, .string ⟨#[120, 111, 114]⟩, .slice none 0 0, .slice (some p) 1 1, .int .i64 10, .int .i64 3, .int .i64 0, .int .i64 30]] x fun e y => e = .returned (.tuple #[.string S, .int .i64 0]) ∧ Below x.heap.size x y
theorem shAwT {x : World} {g : Nat} (h : x.cell? ⟨g, 0, none⟩ = some (.int .u8 5)) (hg : g < x.heap.size) : AwT (txt (textD awd)) ⟨g, 0, none⟩ x := by
 have k := shtext_any awd (.slice none 0 0) (.slice (some ⟨g, 0, none⟩) 1 1) x awd_i awd_b (.inr ⟨g, 0, 1, rfl, fun j hj => by
  have e : j = 0 := by simp [awd] at hj; exact hj
  subst e
  exact h, hg⟩) (.inl ⟨none, 0, rfl, rfl⟩)
 have e : shT awd = textD awd := by unfold shT; rw [if_pos awd_ck]
 rw [e, awd_ck] at k
 exact k
def AwR (S : ByteArray) : Prop := ∀ x, Tab7 x → Calls Tryz.prog 13 #[.string S] x fun e y => (∃ fv qv, e = .returned (.tuple #[.agg #[.string ⟨#[97]⟩, .int .i64 2, .int .i64 27, .int .i64 32, .int .i64 3, .string ⟨#[120, 111, 114]⟩, fv, qv, .int .i64 10, .int .i64 3, .int .i64 0, .int .i64 30], .int .i64 0, .int .i64 0]) ∧ (∃ p n c, fv = .slice p n c) ∧ ∃ p n c, qv = .slice p n c) ∧ Below x.heap.size x y
theorem awR : AwR (txt (textD awd)) := fun x T => by
 refine (shread_any (txt (textD awd)) x T).mono ?_
 have e : chkM (parseM (txt (textD awd)).data.toList) = (awd, 0, 0) := by
  rw [show (txt (textD awd)).data.toList = textD awd from rfl, parse_text (awd_i.snd awd_ck awd_b).ok, chk_sound awd_ck]
 rw [e]
 rintro e y ⟨fv, qv, rfl, hf, hq, hb, _, _⟩
 exact ⟨⟨fv, qv, rfl, hf.form, hq.form'⟩, hb⟩
theorem awake10 (w : World) (T7 : Tab7 w) : Calls Tryz.prog 8 #[] w fun e y => e = .returned (.bool true) ∧ Below w.heap.size w y := by
 have B0 : Hid (Below w.heap.size w ((w.alloc (.cells #[.int .u8 5] 5)).alloc (.cells #[.string ⟨#[97]⟩, .int .i64 2, .int .i64 27, .int .i64 32, .int .i64 3, .string ⟨#[120, 111, 114]⟩, .slice none 0 0, .slice (some ⟨w.heap.size, 0, none⟩) 1 1, .int .i64 10, .int .i64 3, .int .i64 0, .int .i64 30] 33))) := ((Below.refl _ _).alloc (Nat.le_refl _) _).alloc (by rw [World.size_alloc]; omega) _
 have tx : Hid (AwT (txt (textD awd)) ⟨w.heap.size, 0, none⟩ ((w.alloc (.cells #[.int .u8 5] 5)).alloc (.cells #[.string ⟨#[97]⟩, .int .i64 2, .int .i64 27, .int .i64 32, .int .i64 3, .string ⟨#[120, 111, 114]⟩, .slice none 0 0, .slice (some ⟨w.heap.size, 0, none⟩) 1 1, .int .i64 10, .int .i64 3, .int .i64 0, .int .i64 30] 33))) := by
  have h1 := cell_1 w (.int .u8 5) 5
  have hb : Below (w.alloc (.cells #[.int .u8 5] 5)).heap.size (w.alloc (.cells #[.int .u8 5] 5)) ((w.alloc (.cells #[.int .u8 5] 5)).alloc (.cells #[.string ⟨#[97]⟩, .int .i64 2, .int .i64 27, .int .i64 32, .int .i64 3, .string ⟨#[120, 111, 114]⟩, .slice none 0 0, .slice (some ⟨w.heap.size, 0, none⟩) 1 1, .int .i64 10, .int .i64 3, .int .i64 0, .int .i64 30] 33)) := (Below.refl _ _).alloc (Nat.le_refl _) _
  obtain ⟨k1, k2⟩ := cell_keep ⟨h1, by rw [World.size_alloc]; exact Nat.lt_succ_self _⟩ hb
  exact shAwT k1 k2
 have rd : Hid (AwR (txt (textD awd))) := awR
 have hS := awd_len
 replace T7 : Hid (Tab7 w) := T7
 generalize txt (textD awd) = S at *
 have hS' : (20 : Int) < (S.size : Int) := by omega
 clear hS
 go_enter Tryz.func8, Tryz.ntmps8
 go_wp2_with fail
 generalize (w.alloc (.cells #[.int .u8 5] 5)).alloc (.cells #[.string ⟨#[97]⟩, .int .i64 2, .int .i64 27, .int .i64 32, .int .i64 3, .string ⟨#[120, 111, 114]⟩, .slice none 0 0, .slice (some ⟨w.heap.size, 0, none⟩) 1 1, .int .i64 10, .int .i64 3, .int .i64 0, .int .i64 30] 33) = w2 at *
 refine tx.out.mono ?_
 rintro e y ⟨rfl, hb⟩
 have B1 : Hid (Below w.heap.size w y) := B0.out.trans (hb.mono B0.out.size)
 clear hb tx B0
 go_wp2_with fail
 refine (rd.out y (T7.out.below B1.out)).mono ?_
 rintro e z ⟨⟨fv, qv, rfl, ⟨pf, nf, cf, rfl⟩, ⟨pq, nq, cq, rfl⟩⟩, hb⟩
 have B2 : Hid (Below w.heap.size w z) := B1.out.trans (hb.mono B1.out.size)
 have B3 : Hid (∀ o, Below w.heap.size w (z.alloc o)) := fun o => B2.out.alloc B2.out.size o
 clear hb rd B1 T7
 go_wp2
 go_ret
 exact ⟨rfl, B3.out _⟩
theorem rread_of (P : LineP) (rs : List Lr) (v : Value) (w : World) (hv : LrsAt w v rs) (hn : (rs.length : Int) ≤ 4500) (hwl : ∀ r ∈ rs, (r.2.length : Int) ≤ 4500) (hz : ∀ r ∈ rs, ∀ z ∈ r.2, (z.length : Int) ≤ 5000) :
 Calls Tryz.prog 17 #[v] w (ReadQ w (readM rs)) := by
 have L0 : Hid (LeftR dv0 [] rs (readM rs)) := rfl
 generalize readM rs = T at *
 obtain ⟨i0, hi0, hz0, hz1, hz2⟩ := info_parts info_st
 obtain ⟨p, cap, rfl⟩ : ∃ p cap, v = .slice p rs.length cap := by
  rcases hv with ⟨rfl, rfl⟩ | ⟨g, o, cap, rfl, _⟩
  · exact ⟨_, _, rfl⟩
  · exact ⟨_, _, rfl⟩
 replace P : Hid LineP := P
 replace hv : Hid (LrsAt w (.slice p rs.length cap) rs) := hv
 replace hwl : Hid (∀ r ∈ rs, (r.2.length : Int) ≤ 4500) := hwl
 replace hz : Hid (∀ r ∈ rs, ∀ z ∈ r.2, (z.length : Int) ≤ 5000) := hz
 obtain ⟨len, hlen⟩ : ∃ len, rs.length = len := ⟨_, rfl⟩
 rw [hlen] at hn hv ⊢
 replace hlen : Hid (rs.length = len) := hlen
 have S0 : Hid (RrSt w ((w.alloc (.cells dz 25)).alloc (.cells dz 25)) dv0 nilS nilS nilS []) := RrSt.first w
 go_enter Tryz.func17, Tryz.ntmps17
 go_upto_region 2 with fail
 change Code.wp Tryz.prog _ _ _ ((w.alloc (.cells dz 25)).alloc (.cells dz 25))
 generalize (w.alloc (.cells dz 25)).alloc (.cells dz 25) = w1 at *
 go_wp2
 go_loopw [6, 7, 8] (fun vs vk vi wr => ∃ (k : Nat) (d : Dv) (fv qv : Value) (seen : List Wd), (k : Int) ≤ (len : Int) ∧ vi = .int .i64 (k : Int) ∧ vk = .int .i64 ((notF seen).length : Int) ∧ Hid (RrSt w wr d fv qv vs seen) ∧ Hid (LeftR d seen (rs.drop k) T)) (fun vs vk vi wr => ((len : Int) - intOf vi).toNat)
 case atStart => exact ⟨0, dv0, nilS, nilS, [], by omega, rfl, rfl, S0, L0⟩
 case round =>
  obtain ⟨k, d, fv, qv, seen, hk, rfl, rfl, st, left⟩ := hrel
  clear S0 L0
  have hsl : (seen.length : Int) ≤ 18 := by have := sn_len st.out.sn; omega
  have hnl : ((notF seen).length : Int) ≤ (seen.length : Int) := by
   have : (notF seen).length ≤ seen.length := List.length_filter_le _ _
   omega
  obtain ⟨pf, nf, cf, rfl⟩ : ∃ p n c, fv = .slice p n c := by
   rcases st.out.fl with ⟨e, _⟩ | ⟨g, o, cap, e, _⟩
   · exact ⟨_, _, _, e⟩
   · exact ⟨_, _, _, e⟩
  obtain ⟨pq, mq, cq, rfl⟩ := st.out.rq.form
  by_cases hlt : k < len
  · have hki : (k : Int) < (len : Int) := by omega
    have hkr : k < rs.length := by have := hlen.out; omega
    rcases hv.out with ⟨_, hnil⟩ | ⟨gr, lk, cap1, e1, hrow, hgr⟩
    · rw [hnil] at hkr; cases hkr
    injection e1 with e1 e2 e3
    subst e1
    subst e3
    clear e2
    obtain ⟨q0, vw, q1, q2⟩ := hrow k hkr
    rw [Nat.mul_comm 2 k] at q0 q1
    have lf := left.out
    rw [List.drop_eq_getElem_cons hkr] at lf
    obtain ⟨r, hr⟩ : ∃ r, rs[k] = r := ⟨_, rfl⟩
    have hrm : r ∈ rs := by rw [← hr]; exact List.getElem_mem hkr
    rw [hr] at q0 q2 lf
    have hwr := hwl.out r hrm
    have hzr := hz.out r hrm
    obtain ⟨ln, ws⟩ := r
    simp only at q0 q2 hwr hzr
    replace lf : Hid (LeftR d seen ((ln, ws) :: rs.drop (k + 1)) T) := lf
    have rl : Hid (LnC wr d (.slice pf nf cf) (.slice pq mq cq) vw u6 seen ws) := P.out.at st.out (q2.below st.out.b) hwr hzr
    have wk : IntKind.i64.wrap ((k : Int) + 1) = (k : Int) + 1 := by simp only [IntKind.wrap_i64]; omega
    have hkb : 0 ≤ (k : Int) := by omega
    have c0 : Hid (wr.cell? ⟨gr, lk + k * 2, none⟩ = some (.int .i64 ln)) := kp st.out.b q0
    have c1 : Hid (wr.cell? ⟨gr, lk + k * 2 + 1, none⟩ = some vw) := kp st.out.b q1
    have Dl : Hid (w.heap.size + 1 < wr.heap.size) := (Array.getElem?_eq_some_iff.1 st.out.dc).1
    have hgw : Hid (gr < w.heap.size) := hgr
    replace q1 : Hid (w.cell? ⟨gr, lk + k * 2 + 1, none⟩ = some vw) := q1
    replace q2 : Hid (StrsAny w vw ws) := q2
    have F0 : Hid (∀ g, (Value.slice pf nf cf).ownBlock = some g → g < wr.heap.size) := st.out.fl.lt
    have Q0 : Hid (∀ g, (Value.slice pq mq cq).ownBlock = some g → g < wr.heap.size) := st.out.rq.lt
    have W0 : Hid (LnW wr d (.slice pf nf cf) (.slice pq mq cq) seen ws ⟨0, dv0, nilS, nilS⟩ (Array.replicate 14 false) { wr with drawn := wr.drawn + 1 }) :=
     ⟨⟨rfl, rfl, rfl, Nat.le_refl _, fun _ _ => rfl⟩, ⟨_, _, _, rfl⟩, ⟨_, _, _, rfl⟩, fun h => (by cases h), fun h => (by cases h), fun h => (by cases h), fun h => (by cases h), fun h => (by cases h), fun h => (by cases h), fun h => (by cases h), fun h => (by cases h), fun h => (by cases h)⟩
    obtain ⟨er, her⟩ : ∃ er : Int, ((errN (stepM d seen ws) : Nat) : Int) = er := ⟨_, rfl⟩
    clear hrow hr hzr hrm left q0 hwr
    replace her : Hid (((errN (stepM d seen ws) : Nat) : Int) = er) := her
    go_upto_region 7 with fail
    refine region_props3 (LnP (w.heap.size + 1) gr k lk len cap (dvV d (.slice pf nf cf) (.slice pq mq cq)) vw u6 er) (LnW wr d (.slice pf nf cf) (.slice pq mq cq) seen ws) ⟨0, dv0, nilS, nilS⟩ (by kernel_rfl) (by kernel_rfl) ?_ ?_ W0.out
    · intro γ x a z i op ho hI haf hx hxi hW
      have hi : i < 14 := (List.getElem?_eq_some_iff.1 ho).1
      have xi := getD_false hxi
      match i, hi with
      | 0, _ =>
       obtain rfl := Option.some.inj ho
       have e1 : a.tmps.getD 5 undef = .pointer (some ⟨w.heap.size + 1, 0, none⟩) := (hI.was (by kernel_rfl)).trans rfl
       have hD : z.heap[w.heap.size + 1]? = some (.cells (dvA d (.slice pf nf cf) (.slice pq mq cq)) 25 (0, 0)) := (hW.low.block _ Dl.out).trans st.out.dc
       obtain ⟨l0, m0, l1, m1, l2, m2, l3, m3, l4, m4, l5, m5, l6, m6, l7, m7, l8, m8, l9, m9, l10, m10, l11, m11⟩ := rd12 hD
       go_simp
       exact ⟨_, rfl, γ, rfl, fun j v _ h => h, hW.other (by decide) (by decide) (by decide) (.inr (by decide))⟩
      | 1, _ =>
       obtain rfl := Option.some.inj ho
       have e1 : a.tmps.getD 0 undef = .slice (some ⟨gr, lk, none⟩) len cap := (hI.was (by kernel_rfl)).trans rfl
       go_simp
       exact ⟨_, rfl, γ, rfl, fun j v _ h => h, hW.other (by decide) (by decide) (by decide) (.inr (by decide))⟩
      | 2, _ =>
       obtain rfl := Option.some.inj ho
       have e1 : a.tmps.getD 8 undef = .int .i64 (k : Int) := (hI.was (by kernel_rfl)).trans rfl
       go_simp
       exact ⟨_, rfl, γ, rfl, fun j v _ h => h, hW.other (by decide) (by decide) (by decide) (.inr (by decide))⟩
      | 3, _ =>
       obtain rfl := Option.some.inj ho
       have e1 : a.tmps.getD 19 undef = .slice (some ⟨gr, lk, none⟩) len cap := (hI.val 1 _ 19 rfl rfl (dep_at haf (by kernel_rfl))).trans rfl
       have e2 : a.tmps.getD 20 undef = .int .i64 (k : Int) := (hI.val 2 _ 20 rfl rfl (dep_at haf (by kernel_rfl))).trans rfl
       go_simp
       exact ⟨_, rfl, γ, rfl, fun j v _ h => h, hW.other (by decide) (by decide) (by decide) (.inr (by decide))⟩
      | 4, _ =>
       obtain rfl := Option.some.inj ho
       have e1 : a.tmps.getD 21 undef = .pointer (some ⟨gr, lk + k * 2, none⟩) := (hI.val 3 _ 21 rfl rfl (dep_at haf (by kernel_rfl))).trans rfl
       go_simp
       exact ⟨_, rfl, γ, rfl, fun j v _ h => h, hW.other (by decide) (by decide) (by decide) (.inr (by decide))⟩
      | 5, _ =>
       obtain rfl := Option.some.inj ho
       have e1 : a.tmps.getD 22 undef = .pointer (some ⟨gr, lk + k * 2 + 1, none⟩) := (hI.val 4 _ 22 rfl rfl (dep_at haf (by kernel_rfl))).trans rfl
       have l1 := kp hW.low c1.out
       go_simp
       exact ⟨_, rfl, γ, rfl, fun j v _ h => h, hW.other (by decide) (by decide) (by decide) (.inr (by decide))⟩
      | 6, _ =>
       obtain rfl := Option.some.inj ho
       have e1 : a.tmps.getD 6 undef = u6 := (hI.was (by kernel_rfl)).trans rfl
       go_simp
       exact ⟨_, rfl, γ, rfl, fun j v _ h => h, hW.other (by decide) (by decide) (by decide) (.inr (by decide))⟩
      | 7, _ =>
       obtain rfl := Option.some.inj ho
       have e1 : a.tmps.getD 18 undef = dvV d (.slice pf nf cf) (.slice pq mq cq) := (hI.val 0 _ 18 rfl rfl (dep_at haf (by kernel_rfl))).trans rfl
       have e2 : a.tmps.getD 23 undef = vw := (hI.val 5 _ 23 rfl rfl (dep_at haf (by kernel_rfl))).trans rfl
       have e3 : a.tmps.getD 24 undef = u6 := (hI.val 6 _ 24 rfl rfl (dep_at haf (by kernel_rfl))).trans rfl
       go_simp
       refine (rl.out z hW.low).mono ?_
       rintro e z' ⟨d2, p1, n1, c1, p2, n2, c2, rfl, hb, hg⟩
       rw [her.out]
       refine ⟨_, rfl, ⟨γ.b, d2, .slice p1 n1 c1, .slice p2 n2 c2⟩, rfl, fun j v hj h => Eq.trans h (lineV_call (γ := γ) (γ' := ⟨γ.b, d2, .slice p1 n1 c1, .slice p2 n2 c2⟩) rfl ⟨?_, ?_, ?_, ?_, ?_⟩), hW.call xi hx hb F0.out Q0.out hg⟩
       · rintro rfl; have hj := getD_q hj; rw [xi] at hj; cases hj
       · rintro rfl; have := hW.o8 (getD_q hj); rw [xi] at this; cases this
       · rintro rfl; have := hW.o9 (getD_q hj); rw [xi] at this; cases this
       · rintro rfl; have := hW.o10 (getD_q hj); rw [xi] at this; cases this
       · rintro rfl; have := hW.o13 (getD_q hj); rw [xi] at this; cases this
      | 8, _ =>
       obtain rfl := Option.some.inj ho
       have e1 : a.tmps.getD 25 undef = .tuple #[dvV γ.d γ.v1 γ.v2, .int .i64 er] := (hI.val 7 _ 25 rfl rfl (dep_at haf (by kernel_rfl))).trans rfl
       go_simp
       exact ⟨_, rfl, γ, rfl, fun j v _ h => h, hW.other (by decide) (by decide) (by decide) (.inl (dep_at (j := 7) haf (by kernel_rfl)))⟩
      | 9, _ =>
       obtain rfl := Option.some.inj ho
       have e1 : a.tmps.getD 17 undef = .tuple #[dvV γ.d γ.v1 γ.v2, .int .i64 er] := (hI.val 8 _ 17 rfl rfl (dep_at haf (by kernel_rfl))).trans rfl
       go_simp
       exact ⟨_, rfl, γ, rfl, fun j v _ h => h, hW.other (by decide) (by decide) (by decide) (.inl (hW.o8 (dep_at haf (by kernel_rfl))))⟩
      | 10, _ =>
       obtain rfl := Option.some.inj ho
       have e1 : a.tmps.getD 17 undef = .tuple #[dvV γ.d γ.v1 γ.v2, .int .i64 er] := (hI.val 8 _ 17 rfl rfl (dep_at haf (by kernel_rfl))).trans rfl
       go_simp
       exact ⟨_, rfl, γ, rfl, fun j v _ h => h, hW.other (by decide) (by decide) (by decide) (.inl (hW.o8 (dep_at haf (by kernel_rfl))))⟩
      | 11, _ =>
       obtain rfl := Option.some.inj ho
       go_simp
       refine ⟨_, rfl, ⟨z.heap.size, γ.d, γ.v1, γ.v2⟩, rfl, fun j v hj h => Eq.trans h (lineV_alloc ?_), hW.alloc xi hx⟩
       rintro rfl; have hj := getD_q hj; rw [xi] at hj; cases hj
      | 12, _ =>
       obtain rfl := Option.some.inj ho
       have x9 : x.getD 9 false = true := dep_at haf (by kernel_rfl)
       have x11 : x.getD 11 false = true := dep_at haf (by kernel_rfl)
       have e1 : a.tmps.getD 9 undef = .pointer (some ⟨γ.b, 0, none⟩) := (hI.val 11 _ 9 rfl rfl (dep_at haf (by kernel_rfl))).trans rfl
       have e2 : a.tmps.getD 26 undef = dvV γ.d γ.v1 γ.v2 := (hI.val 9 _ 26 rfl rfl (dep_at haf (by kernel_rfl))).trans rfl
       have hB := (hW.bl x11).2
       rw [xi] at hB
       replace hB : z.heap[γ.b]? = some (.cells dz 25 (0, 0)) := hB
       have W' := hW.store (hW.o9 x9) x11 xi hx
       obtain ⟨p1, n1, c1, f1⟩ := hW.f1
       obtain ⟨p2, n2, c2, f2⟩ := hW.f2
       obtain ⟨bb, d2, v1, v2⟩ := γ
       simp only at f1 f2 e1 e2 hB W'
       subst f1 f2
       obtain ⟨l0, m0, l1, m1, l2, m2, l3, m3, l4, m4, l5, m5, l6, m6, l7, m7, l8, m8, l9, m9, l10, m10, l11, m11⟩ := rd12 hB
       go_simp
       exact ⟨⟨bb, d2, .slice p1 n1 c1, .slice p2 n2 c2⟩, fun j v _ h => h, W'⟩
      | 13, _ =>
       obtain rfl := Option.some.inj ho
       have e1 : a.tmps.getD 27 undef = .int .i64 er := (hI.val 10 _ 27 rfl rfl (dep_at haf (by kernel_rfl))).trans rfl
       go_simp
       exact ⟨_, rfl, γ, rfl, fun j v _ h => h, hW.other (by decide) (by decide) (by decide) (.inl (hW.o10 (dep_at haf (by kernel_rfl))))⟩
    · intro γ x a z hx hall hI hW
      have ha := RegI.tmps (V := lineV (w.heap.size + 1) gr k lk len cap (dvV d (.slice pf nf cf) (.slice pq mq cq)) vw u6 er γ) hI (by kernel_rfl) hall
      obtain ⟨bN, bZ⟩ := hW.bl (hall 11 (by decide))
      rw [if_pos (hall 12 (by decide))] at bZ
      have gd := hW.gd (hall 7 (by decide))
      have lo := hW.low
      obtain ⟨p1, n1, cc1, f1⟩ := hW.f1
      obtain ⟨p2, n2, cc2, f2⟩ := hW.f2
      obtain ⟨bb, d2, v1, v2⟩ := γ
      simp only at f1 f2 bN bZ
      subst f1 f2
      simp only [putsL, lineV, List.setIfInBounds_toArray, List.set_cons_zero, List.set_cons_succ, Array.getD_eq_getD_getElem?, List.getElem?_toArray, List.getElem?_cons_zero, List.getElem?_cons_succ, Option.getD_some] at ha
      subst ha
      clear hI hall hx W0 F0 Q0 rl
      have rcZ : Hid (z.heap[w.heap.size]? = some (.cells dz 25 (0, 0))) := (lo.block _ (Array.getElem?_eq_some_iff.1 st.out.rc).1).trans st.out.rc
      have bwz : Hid (Below w.heap.size w z) := st.out.b.trans (lo.mono st.out.b.size)
      have gR : Hid (gr ≠ w.heap.size) := Nat.ne_of_lt hgw.out
      cases hs : stepM d seen ws with
      | error n =>
       have fin : Hid (T = (dv0, ln, n)) := lf.out.bad hs
       have hn3 := step_err hs
       have en : er = (n : Int) := by rw [← her.out, hs]; rfl
       have hne : (er != 0) = true := by rw [en, bne_iff_ne]; omega
       have c0z : Hid (z.cell? ⟨gr, lk + k * 2, none⟩ = some (.int .i64 ln)) := kp lo c0.out
       clear bZ gd c0 c1 lf her hs hW bN
       go_upto_region 9 with fail
       refine region_props (fun i v _ => ErP gr lk k len cap ln er i v) (ErrX z w.heap.size gr (lk + k * 2) ln) (by kernel_rfl) (by kernel_rfl) ?_ ?_ ⟨c0z.out, fun _ => rfl, fun h => (by cases h)⟩
       · intro x a zz i op ho hI haf hx hxi hW
         have hi : i < 10 := (List.getElem?_eq_some_iff.1 ho).1
         have xi := getD_false hxi
         match i, hi with
         | 0, _ =>
          obtain rfl := Option.some.inj ho
          go_simp
          exact ⟨_, rfl, rfl, fun j v _ h => h, hW.other (by decide)⟩
         | 1, _ =>
          obtain rfl := Option.some.inj ho
          have e1 : a.tmps.getD 0 undef = .slice (some ⟨gr, lk, none⟩) len cap := (hI.was (by kernel_rfl)).trans rfl
          go_simp
          exact ⟨_, rfl, rfl, fun j v _ h => h, hW.other (by decide)⟩
         | 2, _ =>
          obtain rfl := Option.some.inj ho
          have e1 : a.tmps.getD 8 undef = .int .i64 (k : Int) := (hI.was (by kernel_rfl)).trans rfl
          go_simp
          exact ⟨_, rfl, rfl, fun j v _ h => h, hW.other (by decide)⟩
         | 3, _ =>
          obtain rfl := Option.some.inj ho
          have e1 : a.tmps.getD 31 undef = .slice (some ⟨gr, lk, none⟩) len cap := Eq.trans (hI.val 1 _ 31 rfl rfl (dep_at haf (by kernel_rfl))) rfl
          have e2 : a.tmps.getD 32 undef = .int .i64 (k : Int) := Eq.trans (hI.val 2 _ 32 rfl rfl (dep_at haf (by kernel_rfl))) rfl
          go_simp
          exact ⟨_, rfl, rfl, fun j v _ h => h, hW.other (by decide)⟩
         | 4, _ =>
          obtain rfl := Option.some.inj ho
          have e1 : a.tmps.getD 33 undef = .pointer (some ⟨gr, lk + k * 2, none⟩) := Eq.trans (hI.val 3 _ 33 rfl rfl (dep_at haf (by kernel_rfl))) rfl
          go_simp
          exact ⟨_, rfl, rfl, fun j v _ h => h, hW.other (by decide)⟩
         | 5, _ =>
          obtain rfl := Option.some.inj ho
          have e1 : a.tmps.getD 34 undef = .pointer (some ⟨gr, lk + k * 2, none⟩) := Eq.trans (hI.val 4 _ 34 rfl rfl (dep_at haf (by kernel_rfl))) rfl
          have l1 := hW.lr
          go_simp
          exact ⟨_, rfl, rfl, fun j v _ h => h, hW.other (by decide)⟩
         | 6, _ =>
          obtain rfl := Option.some.inj ho
          have e1 : a.tmps.getD 10 undef = .int .i64 er := (hI.was (by kernel_rfl)).trans rfl
          go_simp
          exact ⟨_, rfl, rfl, fun j v _ h => h, hW.other (by decide)⟩
         | 7, _ =>
          obtain rfl := Option.some.inj ho
          have e1 : a.tmps.getD 30 undef = .agg dz := Eq.trans (hI.val 0 _ 30 rfl rfl (dep_at haf (by kernel_rfl))) rfl
          have e2 : a.tmps.getD 2 undef = .pointer (some ⟨w.heap.size, 0, none⟩) := (hI.was (by kernel_rfl)).trans rfl
          have W' := hW.stored gR.out xi (by rw [hx]; decide)
          obtain rfl := hW.f0 xi
          obtain ⟨l0, m0, l1, m1, l2, m2, l3, m3, l4, m4, l5, m5, l6, m6, l7, m7, l8, m8, l9, m9, l10, m10, l11, m11⟩ := rd12 rcZ.out
          go_simp
          exact ⟨fun j v _ h => h, W'⟩
         | 8, _ =>
          obtain rfl := Option.some.inj ho
          have e1 : a.tmps.getD 35 undef = .int .i64 ln := Eq.trans (hI.val 5 _ 35 rfl rfl (dep_at haf (by kernel_rfl))) rfl
          go_simp
          exact ⟨_, rfl, rfl, fun j v _ h => h, hW.other (by decide)⟩
         | 9, _ =>
          obtain rfl := Option.some.inj ho
          have e1 : a.tmps.getD 36 undef = .int .i64 er := Eq.trans (hI.val 6 _ 36 rfl rfl (dep_at haf (by kernel_rfl))) rfl
          go_simp
          exact ⟨_, rfl, rfl, fun j v _ h => h, hW.other (by decide)⟩
       · intro x a zz hx hall hI hW
         obtain rfl := hW.f1 (hall 7 (by decide))
         have ha := RegI.tmps (V := errV gr lk k len cap ln er) hI (by kernel_rfl) hall
         simp only [putsL, errV, List.setIfInBounds_toArray, List.set_cons_zero, List.set_cons_succ, Array.getD_eq_getD_getElem?, List.getElem?_toArray, List.getElem?_cons_zero, List.getElem?_cons_succ, Option.getD_some] at ha
         subst ha
         have pa : (putZ z w.heap.size).drew.heap[w.heap.size]? = some (.cells dz 25 (0, 0)) := by rw [drew_heap]; exact put12_at (y := z) rcZ.out (.string ⟨#[]⟩) (.int .i64 0) (.int .i64 0) (.int .i64 0) (.int .i64 0) (.string ⟨#[]⟩) (.slice none 0 0) (.slice none 0 0) (.int .i64 0) (.int .i64 0) (.int .i64 0) (.int .i64 0)
         have pb : Below w.heap.size w (putZ z w.heap.size).drew := (put12_below bwz.out (Nat.le_refl w.heap.size) (.string ⟨#[]⟩) (.int .i64 0) (.int .i64 0) (.int .i64 0) (.int .i64 0) (.string ⟨#[]⟩) (.slice none 0 0) (.slice none 0 0) (.int .i64 0) (.int .i64 0) (.int .i64 0) (.int .i64 0)).drew
         clear hI hW hall hx
         generalize (putZ z w.heap.size).drew = yy at *
         go_wp2
         refine bodyPost_ret (res_dev3r Tryz.results17 rfl rfl rfl pa) rfl ?_
         exact ⟨nilS, nilS, by rw [fin.out, en]; rfl, .inl ⟨rfl, by rw [fin.out]; rfl⟩, .inl ⟨rfl, by rw [fin.out]; rfl⟩, pb, fun g h => (by cases h), fun g h => (by cases h)⟩
      | ok d' =>
       have lf2 : Hid (LeftR d' (seen ++ [ws.headD []]) (rs.drop (k + 1)) T) := lf.out.good hs
       have en : er = 0 := by rw [← her.out, hs]; rfl
       subst en
       obtain ⟨f, a, u, rfl, hso⟩ := step_ok hs
       clear hso u
       rw [head_cons] at lf2
       rcases q2.out with ⟨_, _, _, h⟩ | ⟨gw, ow, cw, rfl, hwi, hgw2⟩
       · cases h
       have hw0 : Hid (w.cell? ⟨gw, ow, none⟩ = some (.string (txt f))) := hwi 0 (by simp)
       have hwl2 : 0 < (((f :: a).length : Nat) : Int) := by simp only [List.length_cons]; omega
       obtain ⟨wl, hwlE⟩ : ∃ wl, (f :: a).length = wl := ⟨_, rfl⟩
       rw [hwlE] at hwl2 c1 q1 ⊢
       have hd : d2 = d' := (gd d' hs).1
       subst hd
       have nx : Hid (NxC w (LineZ w z d2 (.slice p1 n1 cc1) (.slice p2 n2 cc2)) d2 u6 (.slice p1 n1 cc1) (.slice p2 n2 cc2) seen f) := fun y v' o h1 h2 h3 => st.out.next (γ := ⟨bb, d2, .slice p1 n1 cc1, .slice p2 n2 cc2⟩) (f := f) lo hs gd rfl h1 h2 h3
       have dcz : z.heap[w.heap.size + 1]? = some (.cells (dvA d (.slice pf nf cf) (.slice pq mq cq)) 25 (0, 0)) := (lo.block _ Dl.out).trans st.out.dc
       have lowD : Hid (Below w.heap.size w (LineZ w z d2 (.slice p1 n1 cc1) (.slice p2 n2 cc2))) := put12_below bwz.out (by omega) _ _ _ _ _ _ _ _ _ _ _ _
       have lw := World.ownsRow.lt st.out.so
       have soD : Hid ((LineZ w z d2 (.slice p1 n1 cc1) (.slice p2 n2 cc2)).ownsRow (w.heap.size + 2) 9 1 u6 seen.length (strV seen)) :=
        own_on st.out.so fun g hg => (LineZ.off (by have := (lw g hg).1; omega)).trans (lo.block g (lw g hg).2)
       have bsD : Hid (w.heap.size + 2 ≤ (LineZ w z d2 (.slice p1 n1 cc1) (.slice p2 n2 cc2)).heap.size) := by
        have h1 := @LineZ.size w z d2 (.slice p1 n1 cc1) (.slice p2 n2 cc2)
        have h2 := (Array.getElem?_eq_some_iff.1 dcz).1
        unfold Hid; omega
       have c1D : (LineZ w z d2 (.slice p1 n1 cc1) (.slice p2 n2 cc2)).cell? ⟨gr, lk + k * 2 + 1, none⟩ = some (.slice (some ⟨gw, ow, none⟩) wl cw) := kp lowD.out q1.out
       have w0D : (LineZ w z d2 (.slice p1 n1 cc1) (.slice p2 n2 cc2)).cell? ⟨gw, ow, none⟩ = some (.string (txt f)) := kp lowD.out hw0.out
       have c1z := kp lo c1.out
       have hw63 : seen.length + 1 ≤ maxLen := by unfold maxLen; omega
       have hwby : (seen.length + 1) * 16 ≤ 140737488355328 := by omega
       have wk2 : IntKind.i64.wrap (((notF seen).length : Int) + 1) = ((notF seen).length : Int) + 1 := by simp only [IntKind.wrap_i64]; omega
       have cmp : (txt f == ⟨#[102, 105, 101, 108, 100]⟩) = decide (f = kFie) := txt_beq f kFie
       have c2 : ((txt f).toList == [102, 105, 101, 108, 100]) = decide (f = kFie) := by
        rw [Bool.eq_iff_iff, decide_eq_true_iff, beq_iff_eq, ByteArray.toList_eq]
        exact ⟨fun h => h, fun h => by rw [h]; rfl⟩
       have nk : Hid (((notF (seen ++ [f])).length : Int) = ((notF seen).length : Int) + (if f = kFie then 0 else 1)) := notF_snoc seen f
       obtain ⟨b0, bf0, b1, bf1, b2, bf2, b3, bf3, b4, bf4, b5, bf5, b6, bf6, b7, bf7, b8, bf8, b9, bf9, b10, bf10, b11, bf11⟩ := rd12 bZ
       obtain ⟨l0, m0, l1, m1, l2, m2, l3, m3, l4, m4, l5, m5, l6, m6, l7, m7, l8, m8, l9, m9, l10, m10, l11, m11⟩ := rd12 dcz
       clear hs hW gd lw her hwi hwlE lf q2 rcZ gR c0 c1 bN bwz st
       go_upto_region 11 with fail
       change Code.wp Tryz.prog _ _ _ (LineZ w z d2 (.slice p1 n1 cc1) (.slice p2 n2 cc2))
       clear b0 b1 b2 b3 b4 b5 b6 b7 b8 b9 b10 b11 bf0 bf1 bf2 bf3 bf4 bf5 bf6 bf7 bf8 bf9 bf10 bf11 l0 l1 l2 l3 l4 l5 l6 l7 l8 l9 l10 l11 m0 m1 m2 m3 m4 m5 m6 m7 m8 m9 m10 m11 dcz bZ lo lowD c1z
       generalize (LineZ w z d2 (.slice p1 n1 cc1) (.slice p2 n2 cc2)) = yD at *
       cases hd : decide (f = kFie)
       · rw [hd] at cmp c2
         rw [if_neg (of_decide_eq_false hd)] at nk
         clear hd
         go_wp2_with (at_builtin; refine wpList_append_own_at _ rfl _ _ 52 rfl (w.heap.size + 2) 9 i0 (.string ⟨#[]⟩) 1 16 Tryz.underlying52 hi0 hz0 hz1 hz2 rfl (by decide) _ _ _ rfl (World.ownsRow.alloc soD.out _) ⟨yD.heap.size, 0, none⟩ 1 1 [.string (txt f)] rfl rfl (cell_one_new _ _ _) (by simp [Value.oneCell']) hw63 hwby (by have := bsD.out; simp; omega) ?_; intro v1 y1 hA gA _ vA; have st2 : Hid (RrSt w y1 d2 (.slice p1 n1 cc1) (.slice p2 n2 cc2) v1 (seen ++ [f])) := nx.out y1 v1 _ hA gA vA; have c1b := kp st2.out.b q1.out; have w0b := kp st2.out.b hw0.out; clear hA gA vA)
         exact ⟨⟨k + 1, d2, _, _, seen ++ [f], by omega, by simp, by rw [nk.out], st2, lf2⟩, by simp [intOf]; omega⟩
       · rw [hd] at cmp c2
         rw [if_pos (of_decide_eq_true hd)] at nk
         clear hd
         go_wp2_with (at_builtin; refine wpList_append_own_at _ rfl _ _ 52 rfl (w.heap.size + 2) 9 i0 (.string ⟨#[]⟩) 1 16 Tryz.underlying52 hi0 hz0 hz1 hz2 rfl (by decide) _ _ _ rfl (World.ownsRow.alloc soD.out _) ⟨yD.heap.size, 0, none⟩ 1 1 [.string (txt f)] rfl rfl (cell_one_new _ _ _) (by simp [Value.oneCell']) hw63 hwby (by have := bsD.out; simp; omega) ?_; intro v1 y1 hA gA _ vA; have st2 : Hid (RrSt w y1 d2 (.slice p1 n1 cc1) (.slice p2 n2 cc2) v1 (seen ++ [f])) := nx.out y1 v1 _ hA gA vA; have c1b := kp st2.out.b q1.out; have w0b := kp st2.out.b hw0.out; clear hA gA vA)
         exact ⟨⟨k + 1, d2, _, _, seen ++ [f], by omega, by simp, by rw [nk.out, Int.add_zero], st2, lf2⟩, by simp [intOf]; omega⟩
  · obtain rfl : k = len := by omega
    have lf := left.out
    rw [List.drop_of_length_le (by have := hlen.out; omega)] at lf
    have fin : Hid (T = if lackB seen = true then (dv0, 0, 9) else (d, 0, 0)) := lf.fin
    have hlk := st.out.sn.lack
    have rcY := st.out.rc
    have dcY := st.out.dc
    have bY : Hid (Below w.heap.size w wr) := st.out.b
    have fl : Hid (FldsAt wr (.slice pf nf cf) d.fs) := st.out.fl
    have rq : Hid (BytesAt wr (.slice pq mq cq) d.rq) := st.out.rq
    have fn : Hid (∀ g, (Value.slice pf nf cf).ownBlock = some g → w.heap.size < g) := fun g h => by have := (st.out.fn g h).1; omega
    have qn : Hid (∀ g, (Value.slice pq mq cq).ownBlock = some g → w.heap.size < g) := fun g h => by have := (st.out.qn g h).1; omega
    obtain ⟨c0, f0, c1, f1, c2, f2, c3, f3, c4, f4, c5, f5, c6, f6, c7, f7, c8, f8, c9, f9, c10, f10, c11, f11⟩ := rd12 rcY
    obtain ⟨l0, m0, l1, m1, l2, m2, l3, m3, l4, m4, l5, m5, l6, m6, l7, m7, l8, m8, l9, m9, l10, m10, l11, m11⟩ := rd12 dcY
    clear left lf st
    by_cases h10 : (notF seen).length < 10
    · have n10 : decide (((notF seen).length : Int) < 10) = true := decide_eq_true (by omega)
      have hl : lackB seen = true := by rw [hlk]; exact decide_eq_true h10
      rw [hl, if_pos rfl] at fin
      replace rcY : Hid (wr.heap[w.heap.size]? = some (.cells dz 25 (0, 0))) := rcY
      clear dcY hl hlk h10
      go_wp2
      change bodyPost _ _ _ _ _ (put12 wr w.heap.size (.string ⟨#[]⟩) (.int .i64 0) (.int .i64 0) (.int .i64 0) (.int .i64 0) (.string ⟨#[]⟩) (.slice none 0 0) (.slice none 0 0) (.int .i64 0) (.int .i64 0) (.int .i64 0) (.int .i64 0))
      have pa := put12_at (y := wr) rcY.out (.string ⟨#[]⟩) (.int .i64 0) (.int .i64 0) (.int .i64 0) (.int .i64 0) (.string ⟨#[]⟩) (.slice none 0 0) (.slice none 0 0) (.int .i64 0) (.int .i64 0) (.int .i64 0) (.int .i64 0)
      have pb := put12_below bY.out (Nat.le_refl w.heap.size) (.string ⟨#[]⟩) (.int .i64 0) (.int .i64 0) (.int .i64 0) (.int .i64 0) (.string ⟨#[]⟩) (.slice none 0 0) (.slice none 0 0) (.int .i64 0) (.int .i64 0) (.int .i64 0) (.int .i64 0)
      generalize put12 wr w.heap.size (.string ⟨#[]⟩) (.int .i64 0) (.int .i64 0) (.int .i64 0) (.int .i64 0) (.string ⟨#[]⟩) (.slice none 0 0) (.slice none 0 0) (.int .i64 0) (.int .i64 0) (.int .i64 0) (.int .i64 0) = yy at *
      refine bodyPost_ret (res_dev3r Tryz.results17 rfl rfl rfl pa) rfl ?_
      exact ⟨nilS, nilS, by rw [fin.out]; rfl, .inl ⟨rfl, by rw [fin.out]; rfl⟩, .inl ⟨rfl, by rw [fin.out]; rfl⟩, pb, fun g h => (by cases h), fun g h => (by cases h)⟩
    · have n10 : decide (((notF seen).length : Int) < 10) = false := decide_eq_false (by omega)
      have hl : lackB seen = false := by rw [hlk]; exact decide_eq_false h10
      rw [hl, if_neg (by decide)] at fin
      replace rcY : Hid (wr.heap[w.heap.size]? = some (.cells dz 25 (0, 0))) := rcY
      clear dcY hl hlk h10
      go_wp2
      change bodyPost _ _ _ _ _ (putD wr w.heap.size d (.slice pf nf cf) (.slice pq mq cq))
      have pa := putD_at (y := wr) rcY.out d (.slice pf nf cf) (.slice pq mq cq)
      have pb := putD_below bY.out (Nat.le_refl w.heap.size) d (.slice pf nf cf) (.slice pq mq cq)
      have off : ∀ g, w.heap.size < g → (putD wr w.heap.size d (.slice pf nf cf) (.slice pq mq cq)).heap[g]? = wr.heap[g]? := fun g hg => put12_off (by omega) _ _ _ _ _ _ _ _ _ _ _ _
      generalize putD wr w.heap.size d (.slice pf nf cf) (.slice pq mq cq) = yy at *
      refine bodyPost_ret (res_dev3r Tryz.results17 rfl rfl rfl pa) rfl ?_
      refine ⟨.slice pf nf cf, .slice pq mq cq, by rw [fin.out]; rfl, ?_, ?_, pb, fun g h => Nat.le_of_lt (fn.out g h), fun g h => Nat.le_of_lt (qn.out g h)⟩
      · rw [fin.out]; exact fl.out.on fun g hg => off g (fn.out g hg)
      · rw [fin.out]; exact rq.out.on fun g hg => off g (qn.out g hg)
theorem plain_any (n d : Int) (w : World) : Calls Tryz.prog 32 #[rv n d] w fun e w' => e = .returned (rv n d) ∧ Below w.heap.size w w' := by
 go_enter Tryz.func32, Tryz.ntmps32
 go_wp2
 go_returns
 exact ⟨rfl, by go_grown⟩
end Go.Proofs.YthabffjgdhfbmaaGreatDoor
