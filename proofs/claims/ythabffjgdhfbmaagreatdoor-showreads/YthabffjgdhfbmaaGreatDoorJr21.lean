/-
  Texts that belong together, one behind the other: DsSame0, DsSame, UnRef, SnRf, SnRk, SnRa, SnRb. Conditions: as each says.
-/
import Derived.BigRegion
import Derived.ChangeOld
import Derived.Deep.QuietTactic
import Derived.Great.BuildSlice
import Derived.Laws.BitsAllLaws
import Derived.Laws.OwnMore
import Derived.Laws.Shifts
import Derived.Laws.Tables
import Derived.Lib.QuietBelow
import Derived.Lib.QuietBelowIn
import Derived.OpenShut
import Derived.ProofKit
import Derived.RangeFuncCalls
import Derived.ShutString
import Derived.Sort.BigQuietIn
import Derived.Test.YthabffjgdhfbmaaGreatDoorProg
import Derived.WalkKit
import Derived.Test.YthabffjgdhfbmaaGreatDoorJr1
import Derived.Test.YthabffjgdhfbmaaGreatDoorJr2
import Derived.Test.YthabffjgdhfbmaaGreatDoorJr3
import Derived.Test.YthabffjgdhfbmaaGreatDoorJr4
import Derived.Test.YthabffjgdhfbmaaGreatDoorJr5
import Derived.Test.YthabffjgdhfbmaaGreatDoorJr6
import Derived.Test.YthabffjgdhfbmaaGreatDoorJr7
import Derived.Test.YthabffjgdhfbmaaGreatDoorJr8
import Derived.Test.YthabffjgdhfbmaaGreatDoorJr9
import Derived.Test.YthabffjgdhfbmaaGreatDoorJr10
import Derived.Test.YthabffjgdhfbmaaGreatDoorJr11
import Derived.Test.YthabffjgdhfbmaaGreatDoorJr12
import Derived.Test.YthabffjgdhfbmaaGreatDoorJr14
import Derived.Test.YthabffjgdhfbmaaGreatDoorJr15
import Derived.Test.YthabffjgdhfbmaaGreatDoorJr16
import Derived.Test.YthabffjgdhfbmaaGreatDoorJr18
import Derived.Test.YthabffjgdhfbmaaGreatDoorJr19
import Derived.Test.YthabffjgdhfbmaaGreatDoorJr20
set_option maxRecDepth 100000
set_option maxHeartbeats 32000000
set_option linter.unusedVariables false
namespace Go.Proofs.YthabffjgdhfbmaaGreatDoor
open Go.RowKit
abbrev dvB (d : Dv) (fv qv : Value) : Array Value := #[.string (txt d.nm), .int .i64 d.st, .int .i64 d.es, .int .i64 d.mx, .int .i64 d.sz, .string (txt d.sm), fv, qv, .int .i64 d.po, .int .i64 d.ti, .int .i64 d.re, .int .i64 d.ag]
abbrev zF : Array Value := #[.string ⟨#[]⟩, .int .i64 0, .string ⟨#[]⟩, .int .i64 0, .int .i64 0, .int .i64 0, .int .i64 0, .int .i64 0, .string ⟨#[]⟩]
abbrev fdA (f : Fd) : Array Value := #[.string (txt f.nm), .int .i64 f.pl, .string (txt f.kd), .int .i64 f.wd, .int .i64 f.sn, .int .i64 f.sd, .int .i64 f.on, .int .i64 f.od, .string (txt f.un)]
def put9 (z : World) (b : Nat) (f : Fd) : World := (((((((((z.setCell ⟨b, 0, none⟩ (.string (txt f.nm))).setCell ⟨b, 1, none⟩ (.int .i64 f.pl)).setCell ⟨b, 2, none⟩ (.string (txt f.kd))).setCell ⟨b, 3, none⟩ (.int .i64 f.wd)).setCell ⟨b, 4, none⟩ (.int .i64 f.sn)).setCell ⟨b, 5, none⟩ (.int .i64 f.sd)).setCell ⟨b, 6, none⟩ (.int .i64 f.on)).setCell ⟨b, 7, none⟩ (.int .i64 f.od)).setCell ⟨b, 8, none⟩ (.string (txt f.un)))
theorem put9_at {z : World} {b : Nat} {f : Fd} {t : TypeId} (h : z.heap[b]? = some (.cells zF t (0, 0))) : (put9 z b f).heap[b]? = some (.cells (fdA f) t (0, 0)) := by
 unfold put9
 refine (rd_set (rd_set (rd_set (rd_set (rd_set (rd_set (rd_set (rd_set (rd_set h 0 _) 1 _) 2 _) 3 _) 4 _) 5 _) 6 _) 7 _) 8 _).trans ?_
 simp only [List.setIfInBounds_toArray, List.set_cons_zero, List.set_cons_succ]
theorem put9_below {w z : World} {L b : Nat} {f : Fd} (h : Below L w z) (hb : L ≤ b) : Below L w (put9 z b f) := by
 unfold put9
 repeat (refine Below.setCell ?_ hb _)
 exact h
theorem put9_off {z : World} {b k : Nat} {f : Fd} (hk : k ≠ b) : (put9 z b f).heap[k]? = z.heap[k]? := by
 unfold put9
 simp only [Below.heap_setCell _ _ _ _ (show k ≠ (⟨b, _, none⟩ : Addr).block from hk)]
structure SmG where
 b1 : Nat
 b2 : Nat
structure SmW (w0 : World) (f : Fd) (γ : SmG) (x : Array Bool) (z : World) : Prop where
 low : Below w0.heap.size w0 z
 o12 : x.getD 12 false = true → x.getD 10 false = true
 o13 : x.getD 13 false = true → x.getD 11 false = true
 bx : x.getD 10 false = true → w0.heap.size ≤ γ.b1 ∧ z.heap[γ.b1]? = some (.cells (if x.getD 12 false = true then fdA f else zF) 70 (0, 0))
 by' : x.getD 11 false = true → w0.heap.size ≤ γ.b2 ∧ z.heap[γ.b2]? = some (.cells (if x.getD 13 false = true then fdA f else zF) 64 (0, 0))
 ne : x.getD 10 false = true → x.getD 11 false = true → γ.b1 ≠ γ.b2
theorem SmW.other {w0 : World} {f : Fd} {γ : SmG} {x : Array Bool} {z : World} (h : SmW w0 f γ x z) {i : Nat} (hi : i < 10) : SmW w0 f γ (x.setIfInBounds i true) z := by
 obtain ⟨low, o12, o13, bx, by', ne⟩ := h
 have e : ∀ j, 10 ≤ j → (x.setIfInBounds i true).getD j false = x.getD j false := fun j hj => getD_set_ne false (by omega)
 refine ⟨low, ?_, ?_, ?_, ?_, ?_⟩
 · rw [e 12 (by omega), e 10 (by omega)]; exact o12
 · rw [e 13 (by omega), e 11 (by omega)]; exact o13
 · rw [e 12 (by omega), e 10 (by omega)]; exact bx
 · rw [e 13 (by omega), e 11 (by omega)]; exact by'
 · rw [e 10 (by omega), e 11 (by omega)]; exact ne
theorem SmW.allocX {w0 : World} {f : Fd} {γ : SmG} {x : Array Bool} {z : World} (h : SmW w0 f γ x z) (h10 : x.getD 10 false = false) (h14 : x.size = 14) : SmW w0 f ⟨z.heap.size, γ.b2⟩ (x.setIfInBounds 10 true) (z.alloc (.cells zF 70)) := by
 obtain ⟨low, o12, o13, bx, by', ne⟩ := h
 have s10 : (x.setIfInBounds 10 true).getD 10 false = true := getD_set_at (by rw [h14]; decide)
 have e11 : (x.setIfInBounds 10 true).getD 11 false = x.getD 11 false := getD_set_ne false (by decide)
 have e12 : (x.setIfInBounds 10 true).getD 12 false = x.getD 12 false := getD_set_ne false (by decide)
 have e13 : (x.setIfInBounds 10 true).getD 13 false = x.getD 13 false := getD_set_ne false (by decide)
 have x12 : x.getD 12 false = false := by
  cases e : x.getD 12 false
  · rfl
  · rw [o12 e] at h10; cases h10
 have ba : Below z.heap.size z (z.alloc (.cells zF 70)) := (Below.refl _ _).alloc (Nat.le_refl _) _
 refine ⟨low.alloc low.size _, fun _ => s10, by rw [e11, e13]; exact o13, fun _ => ⟨low.size, ?_⟩, ?_, ?_⟩
 · rw [e12, x12]; exact World.alloc_heap_new z _
 · rw [e11, e13]; intro k
   have q := by' k
   exact ⟨q.1, (ba.block _ (Array.getElem?_eq_some_iff.1 q.2).1).trans q.2⟩
 · rw [e11]; intro _ k
   have q := (Array.getElem?_eq_some_iff.1 (by' k).2).1
   show z.heap.size ≠ γ.b2
   omega
theorem SmW.allocY {w0 : World} {f : Fd} {γ : SmG} {x : Array Bool} {z : World} (h : SmW w0 f γ x z) (h11 : x.getD 11 false = false) (h14 : x.size = 14) : SmW w0 f ⟨γ.b1, z.heap.size⟩ (x.setIfInBounds 11 true) (z.alloc (.cells zF 64)) := by
 obtain ⟨low, o12, o13, bx, by', ne⟩ := h
 have s11 : (x.setIfInBounds 11 true).getD 11 false = true := getD_set_at (by rw [h14]; decide)
 have e10 : (x.setIfInBounds 11 true).getD 10 false = x.getD 10 false := getD_set_ne false (by decide)
 have e12 : (x.setIfInBounds 11 true).getD 12 false = x.getD 12 false := getD_set_ne false (by decide)
 have e13 : (x.setIfInBounds 11 true).getD 13 false = x.getD 13 false := getD_set_ne false (by decide)
 have x13 : x.getD 13 false = false := by
  cases e : x.getD 13 false
  · rfl
  · rw [o13 e] at h11; cases h11
 have ba : Below z.heap.size z (z.alloc (.cells zF 64)) := (Below.refl _ _).alloc (Nat.le_refl _) _
 refine ⟨low.alloc low.size _, by rw [e10, e12]; exact o12, fun _ => s11, ?_, fun _ => ⟨low.size, ?_⟩, ?_⟩
 · rw [e10, e12]; intro k
   have q := bx k
   exact ⟨q.1, (ba.block _ (Array.getElem?_eq_some_iff.1 q.2).1).trans q.2⟩
 · rw [e13, x13]; exact World.alloc_heap_new z _
 · rw [e10]; intro k _
   have q := (Array.getElem?_eq_some_iff.1 (bx k).2).1
   show γ.b1 ≠ z.heap.size
   omega
theorem SmW.storeX {w0 : World} {f : Fd} {γ : SmG} {x : Array Bool} {z : World} (h : SmW w0 f γ x z) (h10 : x.getD 10 false = true) (h12 : x.getD 12 false = false) (h14 : x.size = 14) : SmW w0 f γ (x.setIfInBounds 12 true) (put9 z γ.b1 f) := by
 obtain ⟨low, o12, o13, bx, by', ne⟩ := h
 have s12 : (x.setIfInBounds 12 true).getD 12 false = true := getD_set_at (by rw [h14]; decide)
 have e10 : (x.setIfInBounds 12 true).getD 10 false = x.getD 10 false := getD_set_ne false (by decide)
 have e11 : (x.setIfInBounds 12 true).getD 11 false = x.getD 11 false := getD_set_ne false (by decide)
 have e13 : (x.setIfInBounds 12 true).getD 13 false = x.getD 13 false := getD_set_ne false (by decide)
 have q := bx h10
 rw [h12] at q
 refine ⟨put9_below low q.1, fun _ => e10.trans h10, by rw [e11, e13]; exact o13, fun _ => ⟨q.1, by rw [s12, if_pos rfl]; exact put9_at q.2⟩, ?_, by rw [e10, e11]; exact ne⟩
 rw [e11, e13]; intro k
 have q2 := by' k
 exact ⟨q2.1, (put9_off (fun e => ne h10 k e.symm)).trans q2.2⟩
theorem SmW.storeY {w0 : World} {f : Fd} {γ : SmG} {x : Array Bool} {z : World} (h : SmW w0 f γ x z) (h11 : x.getD 11 false = true) (h13 : x.getD 13 false = false) (h14 : x.size = 14) : SmW w0 f γ (x.setIfInBounds 13 true) (put9 z γ.b2 f) := by
 obtain ⟨low, o12, o13, bx, by', ne⟩ := h
 have s13 : (x.setIfInBounds 13 true).getD 13 false = true := getD_set_at (by rw [h14]; decide)
 have e10 : (x.setIfInBounds 13 true).getD 10 false = x.getD 10 false := getD_set_ne false (by decide)
 have e11 : (x.setIfInBounds 13 true).getD 11 false = x.getD 11 false := getD_set_ne false (by decide)
 have e12 : (x.setIfInBounds 13 true).getD 12 false = x.getD 12 false := getD_set_ne false (by decide)
 have q := by' h11
 rw [h13] at q
 refine ⟨put9_below low q.1, by rw [e10, e12]; exact o12, fun _ => e11.trans h11, ?_, fun _ => ⟨q.1, by rw [s13, if_pos rfl]; exact put9_at q.2⟩, by rw [e10, e11]; exact ne⟩
 rw [e10, e12]; intro k
 have q2 := bx k
 exact ⟨q2.1, (put9_off (ne k h11)).trans q2.2⟩
def smV (A ga oa gb ob k : Nat) (fa fb : Value) (f : Fd) (γ : SmG) (i : Nat) : Value :=
 (#[.pointer (some ⟨A, 6, none⟩), fa, .int .i64 (k : Int), .pointer (some ⟨ga, oa + k * 9, none⟩), .agg (fdA f), .pointer (some ⟨A + 1, 6, none⟩), fb, .int .i64 (k : Int), .pointer (some ⟨gb, ob + k * 9, none⟩), .agg (fdA f), .pointer (some ⟨γ.b1, 0, none⟩), .pointer (some ⟨γ.b2, 0, none⟩), undef, undef] : Array Value).getD i undef
def SmP (A ga oa gb ob k : Nat) (fa fb : Value) (f : Fd) (γ : SmG) (_x : Array Bool) (i : Nat) (v : Value) (_z : World) : Prop := v = smV A ga oa gb ob k fa fb f γ i
theorem smV_x {A ga oa gb ob k : Nat} {fa fb : Value} {f : Fd} {γ : SmG} {b : Nat} {j : Nat} (h : j ≠ 10) : smV A ga oa gb ob k fa fb f γ j = smV A ga oa gb ob k fa fb f ⟨b, γ.b2⟩ j := by
 unfold smV
 match j, h with
 | 0, _ => rfl
 | 1, _ => rfl
 | 2, _ => rfl
 | 3, _ => rfl
 | 4, _ => rfl
 | 5, _ => rfl
 | 6, _ => rfl
 | 7, _ => rfl
 | 8, _ => rfl
 | 9, _ => rfl
 | 10, h => exact absurd rfl h
 | 11, _ => rfl
 | 12, _ => rfl
 | 13, _ => rfl
 | (n + 14), _ => rfl
theorem smV_y {A ga oa gb ob k : Nat} {fa fb : Value} {f : Fd} {γ : SmG} {b : Nat} {j : Nat} (h : j ≠ 11) : smV A ga oa gb ob k fa fb f γ j = smV A ga oa gb ob k fa fb f ⟨γ.b1, b⟩ j := by
 unfold smV
 match j, h with
 | 0, _ => rfl
 | 1, _ => rfl
 | 2, _ => rfl
 | 3, _ => rfl
 | 4, _ => rfl
 | 5, _ => rfl
 | 6, _ => rfl
 | 7, _ => rfl
 | 8, _ => rfl
 | 9, _ => rfl
 | 10, _ => rfl
 | 11, h => exact absurd rfl h
 | 12, _ => rfl
 | 13, _ => rfl
 | (n + 14), _ => rfl
theorem gD_q {x : Array Bool} {j : Nat} (h : x[j]?.getD false = true) : x.getD j false = true := by rw [Array.getD_eq_getD_getElem?]; exact h
theorem FldsIn.nine {x : World} {g o : Nat} {fs : List Fd} (h : FldsIn x g o fs) {k : Nat} (hk : k < fs.length) (i : Nat) (v : Value) (hv : (fdC fs[k])[i]? = some v) : x.cell? ⟨g, o + k * 9 + i, none⟩ = some v := by
 rw [Nat.mul_comm k 9]; exact h k hk i v hv
theorem same_v (d : Dv) (fa qa fb qb : Value) (w : World) (hfa : FldsV w fa d.fs) (hqa : BytesAt w qa d.rq) (hfb : FldsV w fb d.fs) (hqb : BytesAt w qb d.rq) (hn : (d.fs.length : Int) ≤ 4500) :
 Calls Tryz.prog 15 #[dvV d fa qa, dvV d fb qb] w fun e y => e = .returned (.int .i64 1) ∧ Below w.heap.size w y := by
 obtain ⟨pa, na, ca, rfl, hna⟩ : ∃ p n c, fa = .slice p n c ∧ n = d.fs.length := by
  rcases hfa with ⟨a, c, h1, h2⟩ | ⟨g, o, cap, h1, _⟩
  · exact ⟨_, _, _, h1, by rw [h2]; rfl⟩
  · exact ⟨_, _, _, h1, rfl⟩
 obtain ⟨pb, nb, cb, rfl, hnb⟩ : ∃ p n c, fb = .slice p n c ∧ n = d.fs.length := by
  rcases hfb with ⟨a, c, h1, h2⟩ | ⟨g, o, cap, h1, _⟩
  · exact ⟨_, _, _, h1, by rw [h2]; rfl⟩
  · exact ⟨_, _, _, h1, rfl⟩
 obtain rfl : na = nb := hna.trans hnb.symm
 have hn2 : (na : Int) ≤ 4500 := by omega
 replace hna : Hid (na = d.fs.length) := hna
 clear hnb hn
 have bA : Below w.heap.size w ((w.alloc (.cells (dvB d (.slice pa na ca) qa) 33)).alloc (.cells (dvB d (.slice pb na cb) qb) 25)) := ((Below.refl _ _).alloc (Nat.le_refl _) _).alloc (by rw [World.size_alloc]; omega) _
 have hA : ((w.alloc (.cells (dvB d (.slice pa na ca) qa) 33)).alloc (.cells (dvB d (.slice pb na cb) qb) 25)).heap[w.heap.size]? = some (.cells (dvB d (.slice pa na ca) qa) 33 (0, 0)) := map_under _ _ _ _ (World.alloc_heap_new w _)
 have hB : ((w.alloc (.cells (dvB d (.slice pa na ca) qa) 33)).alloc (.cells (dvB d (.slice pb na cb) qb) 25)).heap[w.heap.size + 1]? = some (.cells (dvB d (.slice pb na cb) qb) 25 (0, 0)) := by
  have k := World.alloc_heap_new (w.alloc (.cells (dvB d (.slice pa na ca) qa) 33)) (.cells (dvB d (.slice pb na cb) qb) 25)
  rwa [World.size_alloc] at k
 have kqa := conv_at (hqa.below bA)
 have kqb := conv_at (hqb.below bA)
 have Fa : Hid (FldsV ((w.alloc (.cells (dvB d (.slice pa na ca) qa) 33)).alloc (.cells (dvB d (.slice pb na cb) qb) 25)) (.slice pa na ca) d.fs) := hfa.below bA
 have Fb : Hid (FldsV ((w.alloc (.cells (dvB d (.slice pa na ca) qa) 33)).alloc (.cells (dvB d (.slice pb na cb) qb) 25)) (.slice pb na cb) d.fs) := hfb.below bA
 obtain ⟨pqa, nqa, cqa, rfl⟩ := hqa.form'
 obtain ⟨pqb, nqb, cqb, rfl⟩ := hqb.form'
 clear hfa hfb hqa hqb
 go_enter Tryz.func15, Tryz.ntmps15
 go_upto_region 1 with fail
 change Code.wp Tryz.prog _ _ _ ((w.alloc (.cells (dvB d (.slice pa na ca) (.slice pqa nqa cqa)) 33)).alloc (.cells (dvB d (.slice pb na cb) (.slice pqb nqb cqb)) 25))
 replace bA : Hid (Below w.heap.size w ((w.alloc (.cells (dvB d (.slice pa na ca) (.slice pqa nqa cqa)) 33)).alloc (.cells (dvB d (.slice pb na cb) (.slice pqb nqb cqb)) 25))) := bA
 generalize ((w.alloc (.cells (dvB d (.slice pa na ca) (.slice pqa nqa cqa)) 33)).alloc (.cells (dvB d (.slice pb na cb) (.slice pqb nqb cqb)) 25)) = w1 at *
 obtain ⟨c0, f0, c1, f1, c2, f2, c3, f3, c4, f4, c5, f5, c6, f6, c7, f7, c8, f8, c9, f9, c10, f10, c11, f11⟩ := rd12 hA
 obtain ⟨l0, m0, l1, m1, l2, m2, l3, m3, l4, m4, l5, m5, l6, m6, l7, m7, l8, m8, l9, m9, l10, m10, l11, m11⟩ := rd12 hB
 replace hA : Hid (w1.heap[w.heap.size]? = some (.cells (dvB d (.slice pa na ca) (.slice pqa nqa cqa)) 33 (0, 0))) := hA
 replace hB : Hid (w1.heap[w.heap.size + 1]? = some (.cells (dvB d (.slice pb na cb) (.slice pqb nqb cqb)) 25 (0, 0))) := hB
 go_wp2
 clear c0 f0 l0 m0 c1 f1 l1 m1 c2 f2 l2 m2 c3 f3 l3 m3 c4 f4 l4 m4 c5 f5 l5 m5 c6 f6 l6 m6 c7 f7 l7 m7 c8 f8 l8 m8 c9 f9 l9 m9 c10 f10 l10 m10 c11 f11 l11 m11 kqa kqb
 go_loopw [5] (fun vi wr => ∃ k : Nat, (k : Int) ≤ (na : Int) ∧ vi = .int .i64 (k : Int) ∧ Hid (Below w1.heap.size w1 wr)) (fun vi wr => ((na : Int) - intOf vi).toNat)
 case atStart => exact ⟨0, by omega, rfl, Below.refl _ _⟩
 case round =>
  obtain ⟨k, hk, rfl, hb⟩ := hrel
  have hAl : Hid (wr.cell? ⟨w.heap.size, 6, none⟩ = some (.slice pa na ca)) := kp hb.out (rd_cell hA.out 6).1
  have hBl : Hid (wr.cell? ⟨w.heap.size + 1, 6, none⟩ = some (.slice pb na cb)) := kp hb.out (rd_cell hB.out 6).1
  by_cases hlt : k < na
  · have hki : (k : Int) < (na : Int) := by omega
    have hkf : k < d.fs.length := by have := hna.out; omega
    have wk : IntKind.i64.wrap ((k : Int) + 1) = (k : Int) + 1 := by simp only [IntKind.wrap_i64]; omega
    have hkb : 0 ≤ (k : Int) := by omega
    rcases Fa.out with ⟨_, _, _, hnil⟩ | ⟨ga, oa, c1, e1, _, hia, hga⟩
    · rw [hnil] at hkf; cases hkf
    injection e1 with e1 e2 e3
    subst e1
    subst e3
    clear e2
    rcases Fb.out with ⟨_, _, _, hnil⟩ | ⟨gb, ob, c1, e1, _, hib, hgb⟩
    · rw [hnil] at hkf; cases hkf
    injection e1 with e1 e2 e3
    subst e1
    subst e3
    clear e2
    have Na : Hid (∀ i v, (fdC d.fs[k])[i]? = some v → wr.cell? ⟨ga, oa + k * 9 + i, none⟩ = some v) := fun i v hv => kp hb.out (hia.nine hkf i v hv)
    have Nb : Hid (∀ i v, (fdC d.fs[k])[i]? = some v → wr.cell? ⟨gb, ob + k * 9 + i, none⟩ = some v) := fun i v hv => kp hb.out (hib.nine hkf i v hv)
    generalize d.fs[k] = f at *
    clear hia hib hga hgb hkf
    have al0 := hAl.out
    have bl0 := hBl.out
    go_upto_region 6 with fail
    refine region_props3 (SmP w.heap.size ga oa gb ob k (.slice (some ⟨ga, oa, none⟩) na ca) (.slice (some ⟨gb, ob, none⟩) na cb) f) (SmW wr f) ⟨0, 0⟩ (by kernel_rfl) (by kernel_rfl) ?_ ?_ ⟨⟨rfl, rfl, rfl, Nat.le_refl _, fun _ _ => rfl⟩, fun h => (by cases h), fun h => (by cases h), fun h => (by cases h), fun h => (by cases h), fun h => (by cases h)⟩
    · intro γ x a z i op ho hI haf hx hxi hW
      have hi : i < 14 := (List.getElem?_eq_some_iff.1 ho).1
      have xi := getD_false hxi
      match i, hi with
      | 0, _ =>
       obtain rfl := Option.some.inj ho
       have e1 : a.tmps.getD 2 undef = .pointer (some ⟨w.heap.size, 0, none⟩) := (hI.was (by kernel_rfl)).trans rfl
       go_simp
       exact ⟨_, rfl, γ, rfl, fun j v _ h => h, hW.other (by decide)⟩
      | 1, _ =>
       obtain rfl := Option.some.inj ho
       have e1 : a.tmps.getD 101 undef = .pointer (some ⟨w.heap.size, 6, none⟩) := Eq.trans (hI.val 0 _ 101 rfl rfl (dep_at haf (by kernel_rfl))) rfl
       have l1 := kp hW.low al0
       go_simp
       exact ⟨_, rfl, γ, rfl, fun j v _ h => h, hW.other (by decide)⟩
      | 2, _ =>
       obtain rfl := Option.some.inj ho
       have e1 : a.tmps.getD 5 undef = .int .i64 (k : Int) := (hI.was (by kernel_rfl)).trans rfl
       go_simp
       exact ⟨_, rfl, γ, rfl, fun j v _ h => h, hW.other (by decide)⟩
      | 3, _ =>
       obtain rfl := Option.some.inj ho
       have e1 : a.tmps.getD 102 undef = .slice (some ⟨ga, oa, none⟩) na ca := Eq.trans (hI.val 1 _ 102 rfl rfl (dep_at haf (by kernel_rfl))) rfl
       have e2 : a.tmps.getD 103 undef = .int .i64 (k : Int) := Eq.trans (hI.val 2 _ 103 rfl rfl (dep_at haf (by kernel_rfl))) rfl
       go_simp
       exact ⟨_, rfl, γ, rfl, fun j v _ h => h, hW.other (by decide)⟩
      | 4, _ =>
       obtain rfl := Option.some.inj ho
       have e1 : a.tmps.getD 104 undef = .pointer (some ⟨ga, oa + k * 9, none⟩) := Eq.trans (hI.val 3 _ 104 rfl rfl (dep_at haf (by kernel_rfl))) rfl
       have l0 := kp hW.low (Na.out 0 _ rfl)
       have l1 := kp hW.low (Na.out 1 _ rfl)
       have l2 := kp hW.low (Na.out 2 _ rfl)
       have l3 := kp hW.low (Na.out 3 _ rfl)
       have l4 := kp hW.low (Na.out 4 _ rfl)
       have l5 := kp hW.low (Na.out 5 _ rfl)
       have l6 := kp hW.low (Na.out 6 _ rfl)
       have l7 := kp hW.low (Na.out 7 _ rfl)
       have l8 := kp hW.low (Na.out 8 _ rfl)
       simp only [Nat.add_zero] at l0
       go_simp
       exact ⟨_, rfl, γ, rfl, fun j v _ h => h, hW.other (by decide)⟩
      | 5, _ =>
       obtain rfl := Option.some.inj ho
       have e1 : a.tmps.getD 3 undef = .pointer (some ⟨w.heap.size + 1, 0, none⟩) := (hI.was (by kernel_rfl)).trans rfl
       go_simp
       exact ⟨_, rfl, γ, rfl, fun j v _ h => h, hW.other (by decide)⟩
      | 6, _ =>
       obtain rfl := Option.some.inj ho
       have e1 : a.tmps.getD 106 undef = .pointer (some ⟨w.heap.size + 1, 6, none⟩) := Eq.trans (hI.val 5 _ 106 rfl rfl (dep_at haf (by kernel_rfl))) rfl
       have l1 := kp hW.low bl0
       go_simp
       exact ⟨_, rfl, γ, rfl, fun j v _ h => h, hW.other (by decide)⟩
      | 7, _ =>
       obtain rfl := Option.some.inj ho
       have e1 : a.tmps.getD 5 undef = .int .i64 (k : Int) := (hI.was (by kernel_rfl)).trans rfl
       go_simp
       exact ⟨_, rfl, γ, rfl, fun j v _ h => h, hW.other (by decide)⟩
      | 8, _ =>
       obtain rfl := Option.some.inj ho
       have e1 : a.tmps.getD 107 undef = .slice (some ⟨gb, ob, none⟩) na cb := Eq.trans (hI.val 6 _ 107 rfl rfl (dep_at haf (by kernel_rfl))) rfl
       have e2 : a.tmps.getD 108 undef = .int .i64 (k : Int) := Eq.trans (hI.val 7 _ 108 rfl rfl (dep_at haf (by kernel_rfl))) rfl
       go_simp
       exact ⟨_, rfl, γ, rfl, fun j v _ h => h, hW.other (by decide)⟩
      | 9, _ =>
       obtain rfl := Option.some.inj ho
       have e1 : a.tmps.getD 109 undef = .pointer (some ⟨gb, ob + k * 9, none⟩) := Eq.trans (hI.val 8 _ 109 rfl rfl (dep_at haf (by kernel_rfl))) rfl
       have l0 := kp hW.low (Nb.out 0 _ rfl)
       have l1 := kp hW.low (Nb.out 1 _ rfl)
       have l2 := kp hW.low (Nb.out 2 _ rfl)
       have l3 := kp hW.low (Nb.out 3 _ rfl)
       have l4 := kp hW.low (Nb.out 4 _ rfl)
       have l5 := kp hW.low (Nb.out 5 _ rfl)
       have l6 := kp hW.low (Nb.out 6 _ rfl)
       have l7 := kp hW.low (Nb.out 7 _ rfl)
       have l8 := kp hW.low (Nb.out 8 _ rfl)
       simp only [Nat.add_zero] at l0
       go_simp
       exact ⟨_, rfl, γ, rfl, fun j v _ h => h, hW.other (by decide)⟩
      | 10, _ =>
       obtain rfl := Option.some.inj ho
       go_simp
       refine ⟨_, rfl, ⟨z.heap.size, γ.b2⟩, rfl, fun j v hj h => Eq.trans h (smV_x ?_), hW.allocX xi hx⟩
       rintro rfl; have hj := gD_q hj; rw [xi] at hj; cases hj
      | 11, _ =>
       obtain rfl := Option.some.inj ho
       go_simp
       refine ⟨_, rfl, ⟨γ.b1, z.heap.size⟩, rfl, fun j v hj h => Eq.trans h (smV_y ?_), hW.allocY xi hx⟩
       rintro rfl; have hj := gD_q hj; rw [xi] at hj; cases hj
      | 12, _ =>
       obtain rfl := Option.some.inj ho
       have x10 : x.getD 10 false = true := dep_at haf (by kernel_rfl)
       have e1 : a.tmps.getD 6 undef = .pointer (some ⟨γ.b1, 0, none⟩) := Eq.trans (hI.val 10 _ 6 rfl rfl (dep_at haf (by kernel_rfl))) rfl
       have e2 : a.tmps.getD 105 undef = .agg (fdA f) := Eq.trans (hI.val 4 _ 105 rfl rfl (dep_at haf (by kernel_rfl))) rfl
       have hX := (hW.bx x10).2
       rw [xi] at hX
       replace hX : z.heap[γ.b1]? = some (.cells zF 70 (0, 0)) := hX
       have W' := hW.storeX x10 xi hx
       obtain ⟨b1, b2⟩ := γ
       simp only at e1 hX W'
       obtain ⟨l0, m0⟩ := rd_cell hX 0
       obtain ⟨l1, m1⟩ := rd_cell hX 1
       obtain ⟨l2, m2⟩ := rd_cell hX 2
       obtain ⟨l3, m3⟩ := rd_cell hX 3
       obtain ⟨l4, m4⟩ := rd_cell hX 4
       obtain ⟨l5, m5⟩ := rd_cell hX 5
       obtain ⟨l6, m6⟩ := rd_cell hX 6
       obtain ⟨l7, m7⟩ := rd_cell hX 7
       obtain ⟨l8, m8⟩ := rd_cell hX 8
       simp only [List.getElem?_toArray, List.getElem?_cons_zero, List.getElem?_cons_succ] at l0 l1 l2 l3 l4 l5 l6 l7 l8
       go_simp
       exact ⟨⟨b1, b2⟩, fun j v _ h => h, W'⟩
      | 13, _ =>
       obtain rfl := Option.some.inj ho
       have x11 : x.getD 11 false = true := dep_at haf (by kernel_rfl)
       have e1 : a.tmps.getD 7 undef = .pointer (some ⟨γ.b2, 0, none⟩) := Eq.trans (hI.val 11 _ 7 rfl rfl (dep_at haf (by kernel_rfl))) rfl
       have e2 : a.tmps.getD 110 undef = .agg (fdA f) := Eq.trans (hI.val 9 _ 110 rfl rfl (dep_at haf (by kernel_rfl))) rfl
       have hX := (hW.by' x11).2
       rw [xi] at hX
       replace hX : z.heap[γ.b2]? = some (.cells zF 64 (0, 0)) := hX
       have W' := hW.storeY x11 xi hx
       obtain ⟨b1, b2⟩ := γ
       simp only at e1 hX W'
       obtain ⟨l0, m0⟩ := rd_cell hX 0
       obtain ⟨l1, m1⟩ := rd_cell hX 1
       obtain ⟨l2, m2⟩ := rd_cell hX 2
       obtain ⟨l3, m3⟩ := rd_cell hX 3
       obtain ⟨l4, m4⟩ := rd_cell hX 4
       obtain ⟨l5, m5⟩ := rd_cell hX 5
       obtain ⟨l6, m6⟩ := rd_cell hX 6
       obtain ⟨l7, m7⟩ := rd_cell hX 7
       obtain ⟨l8, m8⟩ := rd_cell hX 8
       simp only [List.getElem?_toArray, List.getElem?_cons_zero, List.getElem?_cons_succ] at l0 l1 l2 l3 l4 l5 l6 l7 l8
       go_simp
       exact ⟨⟨b1, b2⟩, fun j v _ h => h, W'⟩
    · intro γ x a z hx hall hI hW
      have ha := RegI.tmps (V := smV w.heap.size ga oa gb ob k (.slice (some ⟨ga, oa, none⟩) na ca) (.slice (some ⟨gb, ob, none⟩) na cb) f γ) hI (by kernel_rfl) hall
      have bX := (hW.bx (hall 10 (by decide))).2
      have bY := (hW.by' (hall 11 (by decide))).2
      rw [if_pos (hall 12 (by decide))] at bX
      rw [if_pos (hall 13 (by decide))] at bY
      have lo : Hid (Below w1.heap.size w1 z) := hb.out.trans (hW.low.mono hb.out.size)
      obtain ⟨b1, b2⟩ := γ
      simp only at bX bY
      simp only [putsL, smV, List.setIfInBounds_toArray, List.set_cons_zero, List.set_cons_succ, Array.getD_eq_getD_getElem?, List.getElem?_toArray, List.getElem?_cons_zero, List.getElem?_cons_succ, Option.getD_some] at ha
      subst ha
      clear hI hall hx hW x hb al0 bl0 Na Nb hAl hBl
      obtain ⟨l0, m0⟩ := rd_cell bX 0
      obtain ⟨l1, m1⟩ := rd_cell bX 1
      obtain ⟨l2, m2⟩ := rd_cell bX 2
      obtain ⟨l3, m3⟩ := rd_cell bX 3
      obtain ⟨l4, m4⟩ := rd_cell bX 4
      obtain ⟨l5, m5⟩ := rd_cell bX 5
      obtain ⟨l6, m6⟩ := rd_cell bX 6
      obtain ⟨l7, m7⟩ := rd_cell bX 7
      obtain ⟨l8, m8⟩ := rd_cell bX 8
      simp only [List.getElem?_toArray, List.getElem?_cons_zero, List.getElem?_cons_succ] at l0 l1 l2 l3 l4 l5 l6 l7 l8
      obtain ⟨p0, q0⟩ := rd_cell bY 0
      obtain ⟨p1, q1⟩ := rd_cell bY 1
      obtain ⟨p2, q2⟩ := rd_cell bY 2
      obtain ⟨p3, q3⟩ := rd_cell bY 3
      obtain ⟨p4, q4⟩ := rd_cell bY 4
      obtain ⟨p5, q5⟩ := rd_cell bY 5
      obtain ⟨p6, q6⟩ := rd_cell bY 6
      obtain ⟨p7, q7⟩ := rd_cell bY 7
      obtain ⟨p8, q8⟩ := rd_cell bY 8
      simp only [List.getElem?_toArray, List.getElem?_cons_zero, List.getElem?_cons_succ] at p0 p1 p2 p3 p4 p5 p6 p7 p8
      go_upto_region 7 with fail
      clear bX bY m0 q0 m1 q1 m2 q2 m3 q3 m4 q4 m5 q5 m6 q6 m7 q7 m8 q8
      obtain ⟨nm, pl, kd, wd, sn, sd, on, od, un⟩ := f
      simp only at *
      have kl0 := cell_regrown l0
      have kp0 := cell_regrown p0
      have kl1 := cell_regrown l1
      have kp1 := cell_regrown p1
      have kl2 := cell_regrown l2
      have kp2 := cell_regrown p2
      have kl3 := cell_regrown l3
      have kp3 := cell_regrown p3
      have kl4 := cell_regrown l4
      have kp4 := cell_regrown p4
      have kl5 := cell_regrown l5
      have kp5 := cell_regrown p5
      have kl6 := cell_regrown l6
      have kp6 := cell_regrown p6
      have kl7 := cell_regrown l7
      have kp7 := cell_regrown p7
      have kl8 := cell_regrown l8
      have kp8 := cell_regrown p8
      refine wp_region_quiet_below (by kernel_rfl) (by kernel_rfl) ?_
      repeat (go_big_quiet_step (first
       | (go_at_call 32; with_reducible exact Calls.regrown_of (plain_any sn sd _))
       | (go_at_call 32; with_reducible exact Calls.regrown_of (plain_any on od _))))
      refine wpQuiet_nil ?_
      intro _ hw'
      obtain ⟨⟨dq, osq⟩, hw''⟩ := hw'
      subst hw''
      replace lo : Hid (Below w1.heap.size w1 (Sort.grow (redrawn z dq) osq)) := lo.out.trans ((below_regrown z dq osq).mono lo.out.size)
      clear kl0 kp0 l0 p0 kl1 kp1 l1 p1 kl2 kp2 l2 p2 kl3 kp3 l3 p3 kl4 kp4 l4 p4 kl5 kp5 l5 p5 kl6 kp6 l6 p6 kl7 kp7 l7 p7 kl8 kp8 l8 p8
      generalize Sort.grow (redrawn z dq) osq = w5 at *
      go_wp2
      exact ⟨⟨k + 1, by omega, by simp, lo⟩, by simp [intOf]; omega⟩
  · obtain rfl : k = na := by omega
    have hAl := hAl.out
    have hBl := hBl.out
    have lo : Hid (Below w.heap.size w wr) := bA.out.trans (hb.out.mono bA.out.size)
    go_wp2
    go_ret
    exact ⟨rfl, lo.out⟩
theorem same_any (d : Dv) (fa qa fb qb : Value) (w : World) (hfa : FldsAt w fa d.fs) (hqa : BytesAt w qa d.rq) (hfb : FldsAt w fb d.fs) (hqb : BytesAt w qb d.rq) (hn : (d.fs.length : Int) ≤ 4500) :
 Calls Tryz.prog 15 #[dvV d fa qa, dvV d fb qb] w fun e y => e = .returned (.int .i64 1) ∧ Below w.heap.size w y := same_v d fa qa fb qb w hfa.v hqa hfb.v hqb hn
def namesA : Array Value := (tab.map (fun u => Value.string u.nm)).toArray
def codesA : Array Value := (tab.map (fun u => Value.int .i64 u.code)).toArray
def dimsA : Array Value := (tab.flatMap (fun u => [.int .i64 u.m, .int .i64 u.l, .int .i64 u.t, .int .i64 u.k])).toArray
def numsA : Array Value := (tab.flatMap (fun u => [.int .i64 u.fn, .int .i64 u.fd, .int .i64 u.on, .int .i64 u.od])).toArray
theorem names_at : ∀ (k : Nat) (h : k < tab.length), namesA[k]? = some (.string tab[k].nm)
 | 0, _ => by kernel_rfl
 | 1, _ => by kernel_rfl
 | 2, _ => by kernel_rfl
 | 3, _ => by kernel_rfl
 | 4, _ => by kernel_rfl
 | 5, _ => by kernel_rfl
 | 6, _ => by kernel_rfl
 | 7, _ => by kernel_rfl
 | 8, _ => by kernel_rfl
 | 9, _ => by kernel_rfl
 | 10, _ => by kernel_rfl
 | 11, _ => by kernel_rfl
 | 12, _ => by kernel_rfl
 | 13, _ => by kernel_rfl
 | 14, _ => by kernel_rfl
 | 15, _ => by kernel_rfl
 | 16, _ => by kernel_rfl
 | 17, _ => by kernel_rfl
 | 18, _ => by kernel_rfl
 | 19, _ => by kernel_rfl
 | 20, _ => by kernel_rfl
 | 21, _ => by kernel_rfl
 | 22, _ => by kernel_rfl
 | 23, _ => by kernel_rfl
 | 24, _ => by kernel_rfl
 | k + 25, h => by exfalso; have := tab_len; omega
theorem codes_at : ∀ (k : Nat) (h : k < tab.length), codesA[k]? = some (.int .i64 tab[k].code)
 | 0, _ => by kernel_rfl
 | 1, _ => by kernel_rfl
 | 2, _ => by kernel_rfl
 | 3, _ => by kernel_rfl
 | 4, _ => by kernel_rfl
 | 5, _ => by kernel_rfl
 | 6, _ => by kernel_rfl
 | 7, _ => by kernel_rfl
 | 8, _ => by kernel_rfl
 | 9, _ => by kernel_rfl
 | 10, _ => by kernel_rfl
 | 11, _ => by kernel_rfl
 | 12, _ => by kernel_rfl
 | 13, _ => by kernel_rfl
 | 14, _ => by kernel_rfl
 | 15, _ => by kernel_rfl
 | 16, _ => by kernel_rfl
 | 17, _ => by kernel_rfl
 | 18, _ => by kernel_rfl
 | 19, _ => by kernel_rfl
 | 20, _ => by kernel_rfl
 | 21, _ => by kernel_rfl
 | 22, _ => by kernel_rfl
 | 23, _ => by kernel_rfl
 | 24, _ => by kernel_rfl
 | k + 25, h => by exfalso; have := tab_len; omega
theorem dims_at : ∀ (k : Nat) (h : k < tab.length), dimsA[k * 4]? = some (.int .i64 tab[k].m) ∧ dimsA[k * 4 + 1]? = some (.int .i64 tab[k].l) ∧ dimsA[k * 4 + 2]? = some (.int .i64 tab[k].t) ∧ dimsA[k * 4 + 3]? = some (.int .i64 tab[k].k)
 | 0, _ => ⟨by kernel_rfl, by kernel_rfl, by kernel_rfl, by kernel_rfl⟩
 | 1, _ => ⟨by kernel_rfl, by kernel_rfl, by kernel_rfl, by kernel_rfl⟩
 | 2, _ => ⟨by kernel_rfl, by kernel_rfl, by kernel_rfl, by kernel_rfl⟩
 | 3, _ => ⟨by kernel_rfl, by kernel_rfl, by kernel_rfl, by kernel_rfl⟩
 | 4, _ => ⟨by kernel_rfl, by kernel_rfl, by kernel_rfl, by kernel_rfl⟩
 | 5, _ => ⟨by kernel_rfl, by kernel_rfl, by kernel_rfl, by kernel_rfl⟩
 | 6, _ => ⟨by kernel_rfl, by kernel_rfl, by kernel_rfl, by kernel_rfl⟩
 | 7, _ => ⟨by kernel_rfl, by kernel_rfl, by kernel_rfl, by kernel_rfl⟩
 | 8, _ => ⟨by kernel_rfl, by kernel_rfl, by kernel_rfl, by kernel_rfl⟩
 | 9, _ => ⟨by kernel_rfl, by kernel_rfl, by kernel_rfl, by kernel_rfl⟩
 | 10, _ => ⟨by kernel_rfl, by kernel_rfl, by kernel_rfl, by kernel_rfl⟩
 | 11, _ => ⟨by kernel_rfl, by kernel_rfl, by kernel_rfl, by kernel_rfl⟩
 | 12, _ => ⟨by kernel_rfl, by kernel_rfl, by kernel_rfl, by kernel_rfl⟩
 | 13, _ => ⟨by kernel_rfl, by kernel_rfl, by kernel_rfl, by kernel_rfl⟩
 | 14, _ => ⟨by kernel_rfl, by kernel_rfl, by kernel_rfl, by kernel_rfl⟩
 | 15, _ => ⟨by kernel_rfl, by kernel_rfl, by kernel_rfl, by kernel_rfl⟩
 | 16, _ => ⟨by kernel_rfl, by kernel_rfl, by kernel_rfl, by kernel_rfl⟩
 | 17, _ => ⟨by kernel_rfl, by kernel_rfl, by kernel_rfl, by kernel_rfl⟩
 | 18, _ => ⟨by kernel_rfl, by kernel_rfl, by kernel_rfl, by kernel_rfl⟩
 | 19, _ => ⟨by kernel_rfl, by kernel_rfl, by kernel_rfl, by kernel_rfl⟩
 | 20, _ => ⟨by kernel_rfl, by kernel_rfl, by kernel_rfl, by kernel_rfl⟩
 | 21, _ => ⟨by kernel_rfl, by kernel_rfl, by kernel_rfl, by kernel_rfl⟩
 | 22, _ => ⟨by kernel_rfl, by kernel_rfl, by kernel_rfl, by kernel_rfl⟩
 | 23, _ => ⟨by kernel_rfl, by kernel_rfl, by kernel_rfl, by kernel_rfl⟩
 | 24, _ => ⟨by kernel_rfl, by kernel_rfl, by kernel_rfl, by kernel_rfl⟩
 | k + 25, h => by exfalso; have := tab_len; omega
theorem nums_at : ∀ (k : Nat) (h : k < tab.length), numsA[k * 4]? = some (.int .i64 tab[k].fn) ∧ numsA[k * 4 + 1]? = some (.int .i64 tab[k].fd) ∧ numsA[k * 4 + 2]? = some (.int .i64 tab[k].on) ∧ numsA[k * 4 + 3]? = some (.int .i64 tab[k].od)
 | 0, _ => ⟨by kernel_rfl, by kernel_rfl, by kernel_rfl, by kernel_rfl⟩
 | 1, _ => ⟨by kernel_rfl, by kernel_rfl, by kernel_rfl, by kernel_rfl⟩
 | 2, _ => ⟨by kernel_rfl, by kernel_rfl, by kernel_rfl, by kernel_rfl⟩
 | 3, _ => ⟨by kernel_rfl, by kernel_rfl, by kernel_rfl, by kernel_rfl⟩
 | 4, _ => ⟨by kernel_rfl, by kernel_rfl, by kernel_rfl, by kernel_rfl⟩
 | 5, _ => ⟨by kernel_rfl, by kernel_rfl, by kernel_rfl, by kernel_rfl⟩
 | 6, _ => ⟨by kernel_rfl, by kernel_rfl, by kernel_rfl, by kernel_rfl⟩
 | 7, _ => ⟨by kernel_rfl, by kernel_rfl, by kernel_rfl, by kernel_rfl⟩
 | 8, _ => ⟨by kernel_rfl, by kernel_rfl, by kernel_rfl, by kernel_rfl⟩
 | 9, _ => ⟨by kernel_rfl, by kernel_rfl, by kernel_rfl, by kernel_rfl⟩
 | 10, _ => ⟨by kernel_rfl, by kernel_rfl, by kernel_rfl, by kernel_rfl⟩
 | 11, _ => ⟨by kernel_rfl, by kernel_rfl, by kernel_rfl, by kernel_rfl⟩
 | 12, _ => ⟨by kernel_rfl, by kernel_rfl, by kernel_rfl, by kernel_rfl⟩
 | 13, _ => ⟨by kernel_rfl, by kernel_rfl, by kernel_rfl, by kernel_rfl⟩
 | 14, _ => ⟨by kernel_rfl, by kernel_rfl, by kernel_rfl, by kernel_rfl⟩
 | 15, _ => ⟨by kernel_rfl, by kernel_rfl, by kernel_rfl, by kernel_rfl⟩
 | 16, _ => ⟨by kernel_rfl, by kernel_rfl, by kernel_rfl, by kernel_rfl⟩
 | 17, _ => ⟨by kernel_rfl, by kernel_rfl, by kernel_rfl, by kernel_rfl⟩
 | 18, _ => ⟨by kernel_rfl, by kernel_rfl, by kernel_rfl, by kernel_rfl⟩
 | 19, _ => ⟨by kernel_rfl, by kernel_rfl, by kernel_rfl, by kernel_rfl⟩
 | 20, _ => ⟨by kernel_rfl, by kernel_rfl, by kernel_rfl, by kernel_rfl⟩
 | 21, _ => ⟨by kernel_rfl, by kernel_rfl, by kernel_rfl, by kernel_rfl⟩
 | 22, _ => ⟨by kernel_rfl, by kernel_rfl, by kernel_rfl, by kernel_rfl⟩
 | 23, _ => ⟨by kernel_rfl, by kernel_rfl, by kernel_rfl, by kernel_rfl⟩
 | 24, _ => ⟨by kernel_rfl, by kernel_rfl, by kernel_rfl, by kernel_rfl⟩
 | k + 25, h => by exfalso; have := tab_len; omega
def refW (w : World) : World := ((((w.alloc (.cells #[.string ⟨#[]⟩, .int .i64 0, .int .i64 0, .int .i64 0, .int .i64 0, .int .i64 0, .int .i64 0, .int .i64 0, .int .i64 0, .int .i64 0] 115)).alloc (.cells namesA 9)).alloc (.cells dimsA 113)).alloc (.cells numsA 160)).alloc (.cells codesA 3)
theorem wp_at {P : Program} {Q : Exit → Act → World → Prop} {c : Code} {a : Act} {w w' : World} (h : w = w') (k : c.wp P Q a w') : c.wp P Q a w := h ▸ k
theorem rfind_any (s : ByteArray) (w : World) :
 Calls Tryz.prog 63 #[.string s] w fun e w' => e = .returned (.tuple #[encU (atU s), .bool (isU s)]) ∧ Below w.heap.size w w' := by
 go_enter Tryz.func63, Tryz.ntmps63
 go_wp2
 refine wp_at (w' := refW w) (by kernel_rfl) ?_
 unfold refW
 go_loop [8] (fun i => ∃ k : Nat, i = .int .i64 (k : Int) ∧ k ≤ 25 ∧ Hid (∀ j (h : j < tab.length), j < k → tab[j].nm ≠ s)) (fun i => 25 - (intOf i).toNat)
 case atStart => exact ⟨0, rfl, by omega, fun j h hj => by omega⟩
 case round =>
  obtain ⟨k, rfl, hk, hno⟩ := hrel
  by_cases hlt : (k : Int) < 25
  · have hkl : k < tab.length := by rw [tab_len]; omega
    have hnm := names_at k hkl
    have hcd := codes_at k hkl
    obtain ⟨d0, d1, d2, d3⟩ := dims_at k hkl
    obtain ⟨n0, n1, n2, n3⟩ := nums_at k hkl
    have hyes : Hid (tab[k].nm = s → isU s = true ∧ atU s = tab[k]) := fun h => atU_first (pre := tab.take k) (rest := tab.drop (k + 1)) (by rw [← List.drop_eq_getElem_cons, List.take_append_drop]) (fun x hx => by
     obtain ⟨j, hj, rfl⟩ := List.mem_iff_getElem.1 hx
     rw [List.length_take] at hj
     rw [List.getElem_take]
     exact hno.out j (by omega) (by omega)) h
    have hnext : Hid (tab[k].nm ≠ s → ∀ j (h : j < tab.length), j < k + 1 → tab[j].nm ≠ s) := fun h j hj hjk => by
     by_cases e : j = k
     · subst e; exact h
     · exact hno.out j hj (by omega)
    clear hno
    generalize tab[k] = u at *
    clear hkl
    obtain ⟨nm, um, ul, ut, uk, fn, fd, on, od, code⟩ := u
    simp only at hnm hcd d0 d1 d2 d3 n0 n1 n2 n3 hyes hnext
    by_cases hs : nm = s
    · have hq := nm_yes hs
      have Y : Hid (isU s = true ∧ atU s = ⟨s, um, ul, ut, uk, fn, fd, on, od, code⟩) := by
       have := hyes.out hs
       rw [hs] at this
       exact this
      clear hs hyes hnext
      go_wp2
      go_region
      go_wp2
      go_returns
      exact ⟨by rw [Y.out.1, Y.out.2], by go_grown⟩
    · have hq := nm_no hs
      have hn2 : Hid (∀ j (h : j < tab.length), j < k + 1 → tab[j].nm ≠ s) := hnext.out hs
      clear hs hyes hnext
      go_wp2
      exact ⟨⟨k + 1, by simp, by omega, hn2⟩, by simp [intOf]; omega⟩
  · obtain rfl : k = 25 := by omega
    have hz : Hid (isU s = false ∧ atU s = noU) := isU_not (s := s) (fun u hu => by
     obtain ⟨j, hj, rfl⟩ := List.mem_iff_getElem.1 hu
     exact hno.out j hj (by rw [tab_len] at hj; exact hj))
    clear hno
    go_wp2
    go_returns
    exact ⟨by rw [hz.out.1, hz.out.2]; rfl, by go_grown⟩
theorem fldE_k {sz : Int} {f : Fd} {T : Int} (h : fldE sz f = T) (hk : gdK f = false) : 6 = T := by rw [← h, fldE_form, if_neg (by rw [hk]; decide)]
theorem fldE_p {sz : Int} {f : Fd} {T : Int} (h : fldE sz f = T) (hk : gdK f = true) (hp : gdP sz f = false) : 11 = T := by rw [← h, fldE_form, if_pos hk, if_neg (by rw [hp]; decide)]
theorem fldE_r {sz : Int} {f : Fd} {T : Int} (h : fldE sz f = T) (hk : gdK f = true) (hp : gdP sz f = true) (hr : gdR f = false) : 1 = T := by rw [← h, fldE_form, if_pos hk, if_pos hp, if_neg (by rw [hr]; decide)]
theorem fldE_u {sz : Int} {f : Fd} {T : Int} (h : fldE sz f = T) (hk : gdK f = true) (hp : gdP sz f = true) (hr : gdR f = true) (hu : gdU f = false) : 4 = T := by rw [← h, fldE_form, if_pos hk, if_pos hp, if_pos hr, if_neg (by rw [hu]; decide)]
theorem fldE_ok {sz : Int} {f : Fd} {T : Int} (h : fldE sz f = T) (hk : gdK f = true) (hp : gdP sz f = true) (hr : gdR f = true) (hu : gdU f = true) : 0 = T := by rw [← h, fldE_form, if_pos hk, if_pos hp, if_pos hr, if_pos hu]
theorem gdK_wd {f : Fd} (h : gdK f = true) : 1 ≤ f.wd ∧ f.wd ≤ 8 := by
 unfold gdK at h
 rw [Bool.and_eq_true] at h
 rcases rgt_cases h.2 with k | k <;> omega
theorem gdP_yes {sz : Int} {f : Fd} (hk : gdK f = true) (h0 : 0 ≤ f.pl) (h : f.pl + f.wd ≤ sz) : gdP sz f = true := by
 have := gdK_wd hk
 unfold gdP
 simp only [Bool.and_eq_true, decide_eq_true_eq]
 omega
theorem gdP_low {sz : Int} {f : Fd} (h0 : f.pl < 0) : gdP sz f = false := by
 unfold gdP
 rw [decide_eq_false (by omega)]; rfl
theorem gdP_high {sz : Int} {f : Fd} (h : sz < f.pl + f.wd) : gdP sz f = false := by
 unfold gdP
 rw [decide_eq_false (by omega : ¬ f.wd ≤ sz - f.pl)]; simp
theorem gdP_far {sz : Int} {f : Fd} (h : sz ≤ f.pl) : gdP sz f = false := by
 unfold gdP
 rw [decide_eq_false (by omega : ¬ f.pl < sz)]; simp
theorem rfield_any (sz : Int) (f : Fd) (w : World) (hi : FdI f) (hz : I64 sz) (hs : sz ≤ 1000000) : Calls Tryz.prog 27 #[.int .i64 sz, fdV f] w (QA w (fldE sz f)) := by
 have nc : Hid (∀ x, Calls Tryz.prog 25 #[.string (txt f.nm)] x fun e w' => e = .returned (.bool (nameB f.nm)) ∧ Below x.heap.size x w') := fun x => same_b (rname_any (txt f.nm) x)
 have rc : Hid (∀ x, Calls Tryz.prog 61 #[.string (txt f.kd), .int .i64 f.wd] x fun e w' => e = .returned (.bool (rgtB (kindI (txt f.kd)) f.wd)) ∧ Below x.heap.size x w') := fun x => same_b (bright_any (txt f.kd) f.wd x hi.wd)
 have r1 : Hid (∀ x, Calls Tryz.prog 62 #[rv f.sn f.sd] x fun e w' => e = .returned (.bool (rightB f.sn f.sd)) ∧ Below x.heap.size x w') := fun x => rright_any f.sn f.sd x hi.sn hi.sd
 have r2 : Hid (∀ x, Calls Tryz.prog 62 #[rv f.on f.od] x fun e w' => e = .returned (.bool (rightB f.on f.od)) ∧ Below x.heap.size x w') := fun x => rright_any f.on f.od x hi.on hi.od
 have fd : Hid (∀ x, Calls Tryz.prog 63 #[.string (txt f.un)] x fun e w' => e = .returned (.tuple #[encU (atU (txt f.un)), .bool (gdU f)]) ∧ Below x.heap.size x w') := fun x => rfind_any (txt f.un) x
 have F0 : Hid (FdB (w.alloc (.cells #[.string (txt f.nm), .int .i64 f.pl, .string (txt f.kd), .int .i64 f.wd, .int .i64 f.sn, .int .i64 f.sd, .int .i64 f.on, .int .i64 f.od, .string (txt f.un)] 64)) w.heap.size f) := FdB.new w f _
 have B0 : Hid (Below w.heap.size w (w.alloc (.cells #[.string (txt f.nm), .int .i64 f.pl, .string (txt f.kd), .int .i64 f.wd, .int .i64 f.sn, .int .i64 f.sd, .int .i64 f.on, .int .i64 f.od, .string (txt f.un)] 64))) := (Below.refl _ _).alloc (Nat.le_refl _) _
 obtain ⟨T, hT⟩ : ∃ T, fldE sz f = T := ⟨_, rfl⟩
 rw [hT]
 replace hT : Hid (fldE sz f = T) := hT
 obtain ⟨A, hA⟩ : ∃ A, nameB f.nm = A := ⟨_, rfl⟩
 obtain ⟨K, hK⟩ : ∃ K, rgtB (kindI (txt f.kd)) f.wd = K := ⟨_, rfl⟩
 obtain ⟨R1, hR1⟩ : ∃ R, rightB f.sn f.sd = R := ⟨_, rfl⟩
 obtain ⟨R2, hR2⟩ : ∃ R, rightB f.on f.od = R := ⟨_, rfl⟩
 obtain ⟨U, hU⟩ : ∃ U, gdU f = U := ⟨_, rfl⟩
 rw [hA] at nc
 rw [hK] at rc
 rw [hR1] at r1
 rw [hR2] at r2
 rw [hU] at fd
 have hGK : Hid (gdK f = (A && K)) := by unfold Hid gdK; rw [hA, hK]
 have hGR : Hid (gdR f = (R1 && R2)) := by unfold Hid gdR; rw [hR1, hR2]
 replace hU : Hid (gdU f = U) := hU
 obtain ⟨hz1, hz2⟩ := hz
 obtain ⟨hp1, hp2⟩ := hi.pl
 clear hi hA hK hR1 hR2
 generalize atU (txt f.un) = uu at *
 go_enter Tryz.func27, Tryz.ntmps27
 go_wp2_with fail
 refine (nc.out _).mono ?_
 rintro e y1 ⟨rfl, hb⟩
 have F1 : Hid (FdB y1 w.heap.size f) := F0.out.below hb
 have B1 : Hid (Below w.heap.size w y1) := B0.out.trans (hb.mono B0.out.size)
 clear hb F0 B0 nc
 cases A
 · have fin : Hid (6 = T) := fldE_k hT.out hGK.out
   clear rc r1 r2 fd hT hGK hGR hU F1
   go_wp2
   go_ret
   exact ⟨ret_int fin.out, B1.out⟩
 obtain ⟨_, _, c2, c3, _⟩ := F1.out.cells
 go_wp2_with fail
 refine (rc.out _).mono ?_
 rintro e y2 ⟨rfl, hb⟩
 have F2 : Hid (FdB y2 w.heap.size f) := F1.out.below hb
 have B2 : Hid (Below w.heap.size w y2) := B1.out.trans (hb.mono B1.out.size)
 clear hb F1 B1 rc c2 c3
 cases K
 · have fin : Hid (6 = T) := fldE_k hT.out hGK.out
   clear r1 r2 fd hT hGK hGR hU F2
   go_wp2
   go_ret
   exact ⟨ret_int fin.out, B2.out⟩
 have hk : gdK f = true := hGK.out
 obtain ⟨hw1, hw2⟩ := gdK_wd hk
 replace hk : Hid (gdK f = true) := hk
 clear hGK
 obtain ⟨_, c1, _, c3, _⟩ := F2.out.cells
 by_cases q1 : f.pl < 0
 · have fin : Hid (11 = T) := fldE_p hT.out hk.out (gdP_low q1)
   clear r1 r2 fd hT hk hGR hU F2
   generalize f.pl = pl at *
   generalize f.wd = wd at *
   go_wp2
   go_ret
   exact ⟨ret_int fin.out, B2.out⟩
 by_cases q2 : 1000000 < f.pl
 · have fin : Hid (11 = T) := fldE_p hT.out hk.out (gdP_far (by omega))
   clear r1 r2 fd hT hk hGR hU F2
   generalize f.pl = pl at *
   generalize f.wd = wd at *
   go_wp2
   go_ret
   exact ⟨ret_int fin.out, B2.out⟩
 by_cases q3 : sz < f.pl + f.wd
 · have fin : Hid (11 = T) := fldE_p hT.out hk.out (gdP_high q3)
   clear r1 r2 fd hT hk hGR hU F2
   generalize f.pl = pl at *
   generalize f.wd = wd at *
   go_wp2
   go_ret
   exact ⟨ret_int fin.out, B2.out⟩
 have hp : Hid (gdP sz f = true) := gdP_yes hk.out (by omega) (by omega)
 obtain ⟨_, _, _, _, c4, c5, _⟩ := F2.out.cells
 go_wp2_with fail
 refine (r1.out _).mono ?_
 rintro e y3 ⟨rfl, hb⟩
 have F3 : Hid (FdB y3 w.heap.size f) := F2.out.below hb
 have B3 : Hid (Below w.heap.size w y3) := B2.out.trans (hb.mono B2.out.size)
 clear hb F2 B2 r1 c1 c3 c4 c5 q1 q2 q3 hw1 hw2 hp1 hp2
 cases R1
 · have fin : Hid (1 = T) := fldE_r hT.out hk.out hp.out hGR.out
   clear r2 fd hT hk hGR hU hp F3
   go_wp2
   go_ret
   exact ⟨ret_int fin.out, B3.out⟩
 obtain ⟨_, _, _, _, _, _, c6, c7, _⟩ := F3.out.cells
 go_wp2_with fail
 refine (r2.out _).mono ?_
 rintro e y4 ⟨rfl, hb⟩
 have F4 : Hid (FdB y4 w.heap.size f) := F3.out.below hb
 have B4 : Hid (Below w.heap.size w y4) := B3.out.trans (hb.mono B3.out.size)
 clear hb F3 B3 r2 c6 c7
 cases R2
 · have fin : Hid (1 = T) := fldE_r hT.out hk.out hp.out hGR.out
   clear fd hT hk hGR hU hp F4
   go_wp2
   go_ret
   exact ⟨ret_int fin.out, B4.out⟩
 have c8 := F4.out.c 8 _ rfl
 clear F4
 go_wp2_with fail
 refine (fd.out _).mono ?_
 rintro e y5 ⟨rfl, hb⟩
 have B5 : Hid (∀ o, Below w.heap.size w (y5.alloc o)) := fun o => (B4.out.trans (hb.mono B4.out.size)).alloc (Nat.le_trans B4.out.size hb.size) o
 clear hb fd c8 B4
 cases U
 · have fin : Hid (4 = T) := fldE_u hT.out hk.out hp.out hGR.out hU.out
   clear hT hk hGR hU hp
   go_wp2
   go_ret
   exact ⟨ret_int fin.out, B5.out _⟩
 · have fin : Hid (0 = T) := fldE_ok hT.out hk.out hp.out hGR.out hU.out
   clear hT hk hGR hU hp
   go_wp2
   go_ret
   exact ⟨ret_int fin.out, B5.out _⟩
theorem gdN_iff {d : Dv} : gdN d = true ↔ (0 ≤ d.st ∧ d.st ≤ 255) ∧ (0 ≤ d.es ∧ d.es ≤ 255) ∧ (0 ≤ d.mx ∧ d.mx ≤ 255) ∧ (1 ≤ d.sz ∧ d.sz ≤ 32) ∧ (1 ≤ d.po ∧ d.po ≤ 1000) ∧ (1 ≤ d.ti ∧ d.ti ≤ 1000) ∧ (1 ≤ d.ag ∧ d.ag ≤ 1000) ∧ (0 ≤ d.re ∧ d.re ≤ 10) ∧ (1 ≤ (d.rq.length : Int) ∧ (d.rq.length : Int) ≤ 16) ∧ (0 ≤ (d.fs.length : Int) ∧ (d.fs.length : Int) ≤ 8) := by
 unfold gdN gd1 gd2 gd3 gd4 gd5 gd6 inB
 simp only [Bool.and_eq_true, decide_eq_true_eq]
 omega
theorem ck_6 {d : Dv} {T : Int} (h : ckE d = T) (hk : ¬ (nameB d.nm = true ∧ gdN d = true)) : 6 = T := by rw [← h, ckE_form, if_neg hk]
theorem ck_4 {d : Dv} {T : Int} (h : ckE d = T) (h1 : nameB d.nm = true) (h2 : gdN d = true) (h3 : isSum (txt d.sm) = false) : 4 = T := by rw [← h, ckE_form, if_pos ⟨h1, h2⟩, if_neg (by rw [h3]; decide)]
theorem ck_10 {d : Dv} {T : Int} (h : ckE d = T) (h1 : nameB d.nm = true) (h2 : gdN d = true) (h3 : isSum (txt d.sm) = true) (h4 : gdC d = false) : 10 = T := by rw [← h, ckE_form, if_pos ⟨h1, h2⟩, if_pos h3, if_neg (by rw [h4]; decide)]
theorem ck_11 {d : Dv} {T : Int} (h : ckE d = T) (h1 : nameB d.nm = true) (h2 : gdN d = true) (h3 : isSum (txt d.sm) = true) (h4 : gdC d = true) (h5 : gdT d = false) : 11 = T := by rw [← h, ckE_form, if_pos ⟨h1, h2⟩, if_pos h3, if_pos h4, if_neg (by rw [h5]; decide)]
theorem ck_fs {d : Dv} {T : Int} (h : ckE d = T) (h1 : nameB d.nm = true) (h2 : gdN d = true) (h3 : isSum (txt d.sm) = true) (h4 : gdC d = true) (h5 : gdT d = true) : FsI d.sz [] d.fs T := by unfold FsI; rw [← h, ckE_form, if_pos ⟨h1, h2⟩, if_pos h3, if_pos h4, if_pos h5]
theorem FsI.err {sz : Int} {seen : List Wd} {f : Fd} {l : List Fd} {T : Int} (h : FsI sz seen (f :: l) T) (h0 : ¬ fldE sz f = 0) : fldE sz f = T := by unfold FsI at h; rw [flds_cons, if_neg h0] at h; exact h
theorem FsI.twice {sz : Int} {seen : List Wd} {f : Fd} {l : List Fd} {T : Int} (h : FsI sz seen (f :: l) T) (h0 : fldE sz f = 0) (hm : f.nm ∈ seen) : 8 = T := by unfold FsI at h; rw [flds_cons, if_pos h0, if_pos hm] at h; exact h
theorem FsI.go {sz : Int} {seen : List Wd} {f : Fd} {l : List Fd} {T : Int} (h : FsI sz seen (f :: l) T) (h0 : fldE sz f = 0) (hm : ¬ f.nm ∈ seen) : FsI sz (seen ++ [f.nm]) l T := by unfold FsI at *; rw [flds_cons, if_pos h0, if_neg hm] at h; exact h
theorem rck_a (d : Dv) (pf pq : Option Addr) (nf cf nq cq : Nat) (w : World) (hf : d.fs.length = nf) (hq : d.rq.length = nq) (hfv : FldsV w (.slice pf nf cf) d.fs) (hbad : ¬ nameB d.nm = true ∨ d.st < 0 ∨ 255 < d.st ∨ d.es < 0 ∨ 255 < d.es ∨ d.mx < 0 ∨ 255 < d.mx ∨ d.sz < 1 ∨ 32 < d.sz ∨ 8 < (nf : Int) ∨ (nq : Int) < 1 ∨ 16 < (nq : Int)) : Calls Tryz.prog 12 #[dvV d (.slice pf nf cf) (.slice pq nq cq)] w (QA w 6) := by
 have nc : Hid (∀ x, Calls Tryz.prog 25 #[.string (txt d.nm)] x fun e w' => e = .returned (.bool (nameB d.nm)) ∧ Below x.heap.size x w') := fun x => same_b (rname_any (txt d.nm) x)
 have D0 : Hid (DevB (w.alloc (.cells #[.string (txt d.nm), .int .i64 d.st, .int .i64 d.es, .int .i64 d.mx, .int .i64 d.sz, .string (txt d.sm), .slice pf nf cf, .slice pq nq cq, .int .i64 d.po, .int .i64 d.ti, .int .i64 d.re, .int .i64 d.ag] 25)) w.heap.size d (.slice pf nf cf) (.slice pq nq cq)) := DevB.new hfv _
 have B0 : Hid (Below w.heap.size w (w.alloc (.cells #[.string (txt d.nm), .int .i64 d.st, .int .i64 d.es, .int .i64 d.mx, .int .i64 d.sz, .string (txt d.sm), .slice pf nf cf, .slice pq nq cq, .int .i64 d.po, .int .i64 d.ti, .int .i64 d.re, .int .i64 d.ag] 25))) := (Below.refl _ _).alloc (Nat.le_refl _) _
 clear hf hq hfv
 go_enter Tryz.func12, Tryz.ntmps12
 go_wp2_with fail
 refine (nc.out _).mono ?_
 rintro e y1 ⟨rfl, hb⟩
 have D1 : Hid (DevB y1 w.heap.size d (.slice pf nf cf) (.slice pq nq cq)) := D0.out.below hb
 have B1 : Hid (Below w.heap.size w y1) := B0.out.trans (hb.mono B0.out.size)
 clear hb D0 B0 nc
 cases hA : nameB d.nm
 · clear hbad hA D1
   go_wp2
   go_ret
   exact ⟨rfl, B1.out⟩
 replace hbad := hbad.resolve_left (by simp [hA])
 obtain ⟨_, z1, z2, z3, z4, z5, z6, z7, z8, z9, z10, z11⟩ := D1.out.cells
 clear D1 hA
 generalize d.st = st_ at *
 generalize d.es = es_ at *
 generalize d.mx = mx_ at *
 generalize d.sz = sz_ at *
 generalize d.po = po_ at *
 generalize d.ti = ti_ at *
 generalize d.re = re_ at *
 generalize d.ag = ag_ at *
 by_cases q0 : st_ < 0
 · clear hbad
   go_wp2
   go_ret
   exact ⟨rfl, B1.out⟩
 replace hbad := hbad.resolve_left q0
 by_cases q1 : 255 < st_
 · clear hbad
   go_wp2
   go_ret
   exact ⟨rfl, B1.out⟩
 replace hbad := hbad.resolve_left q1
 by_cases q2 : es_ < 0
 · clear hbad
   go_wp2
   go_ret
   exact ⟨rfl, B1.out⟩
 replace hbad := hbad.resolve_left q2
 by_cases q3 : 255 < es_
 · clear hbad
   go_wp2
   go_ret
   exact ⟨rfl, B1.out⟩
 replace hbad := hbad.resolve_left q3
 by_cases q4 : mx_ < 0
 · clear hbad
   go_wp2
   go_ret
   exact ⟨rfl, B1.out⟩
 replace hbad := hbad.resolve_left q4
 by_cases q5 : 255 < mx_
 · clear hbad
   go_wp2
   go_ret
   exact ⟨rfl, B1.out⟩
 replace hbad := hbad.resolve_left q5
 by_cases q6 : sz_ < 1
 · clear hbad
   go_wp2
   go_ret
   exact ⟨rfl, B1.out⟩
 replace hbad := hbad.resolve_left q6
 by_cases q7 : 32 < sz_
 · clear hbad
   go_wp2
   go_ret
   exact ⟨rfl, B1.out⟩
 replace hbad := hbad.resolve_left q7
 by_cases q8 : 8 < (nf : Int)
 · clear hbad
   go_wp2
   go_ret
   exact ⟨rfl, B1.out⟩
 replace hbad := hbad.resolve_left q8
 by_cases q9 : (nq : Int) < 1
 · clear hbad
   go_wp2
   go_ret
   exact ⟨rfl, B1.out⟩
 replace hbad := hbad.resolve_left q9
 by_cases q10 : 16 < (nq : Int)
 · clear hbad
   go_wp2
   go_ret
   exact ⟨rfl, B1.out⟩
 exact absurd hbad q10
theorem rck_b (d : Dv) (pf pq : Option Addr) (nf cf nq cq : Nat) (w : World) (hf : d.fs.length = nf) (hq : d.rq.length = nq) (hfv : FldsV w (.slice pf nf cf) d.fs) (hn : nameB d.nm = true) (h1 : ¬ d.st < 0 ∧ ¬ 255 < d.st ∧ ¬ d.es < 0 ∧ ¬ 255 < d.es ∧ ¬ d.mx < 0 ∧ ¬ 255 < d.mx ∧ ¬ d.sz < 1 ∧ ¬ 32 < d.sz ∧ ¬ 8 < (nf : Int) ∧ ¬ (nq : Int) < 1 ∧ ¬ 16 < (nq : Int)) (hbad : d.po < 1 ∨ 1000 < d.po ∨ d.ti < 1 ∨ 1000 < d.ti ∨ d.ag < 1 ∨ 1000 < d.ag ∨ d.re < 0 ∨ 10 < d.re) : Calls Tryz.prog 12 #[dvV d (.slice pf nf cf) (.slice pq nq cq)] w (QA w 6) := by
 have nc : Hid (∀ x, Calls Tryz.prog 25 #[.string (txt d.nm)] x fun e w' => e = .returned (.bool (nameB d.nm)) ∧ Below x.heap.size x w') := fun x => same_b (rname_any (txt d.nm) x)
 have D0 : Hid (DevB (w.alloc (.cells #[.string (txt d.nm), .int .i64 d.st, .int .i64 d.es, .int .i64 d.mx, .int .i64 d.sz, .string (txt d.sm), .slice pf nf cf, .slice pq nq cq, .int .i64 d.po, .int .i64 d.ti, .int .i64 d.re, .int .i64 d.ag] 25)) w.heap.size d (.slice pf nf cf) (.slice pq nq cq)) := DevB.new hfv _
 have B0 : Hid (Below w.heap.size w (w.alloc (.cells #[.string (txt d.nm), .int .i64 d.st, .int .i64 d.es, .int .i64 d.mx, .int .i64 d.sz, .string (txt d.sm), .slice pf nf cf, .slice pq nq cq, .int .i64 d.po, .int .i64 d.ti, .int .i64 d.re, .int .i64 d.ag] 25))) := (Below.refl _ _).alloc (Nat.le_refl _) _
 rw [hn] at nc
 clear hf hq hfv hn
 obtain ⟨p0, p1, p2, p3, p4, p5, p6, p7, p8, p9, p10⟩ := h1
 go_enter Tryz.func12, Tryz.ntmps12
 go_wp2_with fail
 refine (nc.out _).mono ?_
 rintro e y1 ⟨rfl, hb⟩
 have D1 : Hid (DevB y1 w.heap.size d (.slice pf nf cf) (.slice pq nq cq)) := D0.out.below hb
 have B1 : Hid (Below w.heap.size w y1) := B0.out.trans (hb.mono B0.out.size)
 clear hb D0 B0 nc
 obtain ⟨_, z1, z2, z3, z4, z5, z6, z7, z8, z9, z10, z11⟩ := D1.out.cells
 clear D1
 generalize d.st = st_ at *
 generalize d.es = es_ at *
 generalize d.mx = mx_ at *
 generalize d.sz = sz_ at *
 generalize d.po = po_ at *
 generalize d.ti = ti_ at *
 generalize d.re = re_ at *
 generalize d.ag = ag_ at *
 by_cases q0 : po_ < 1
 · clear hbad
   go_wp2
   go_ret
   exact ⟨rfl, B1.out⟩
 replace hbad := hbad.resolve_left q0
 by_cases q1 : 1000 < po_
 · clear hbad
   go_wp2
   go_ret
   exact ⟨rfl, B1.out⟩
 replace hbad := hbad.resolve_left q1
 by_cases q2 : ti_ < 1
 · clear hbad
   go_wp2
   go_ret
   exact ⟨rfl, B1.out⟩
 replace hbad := hbad.resolve_left q2
 by_cases q3 : 1000 < ti_
 · clear hbad
   go_wp2
   go_ret
   exact ⟨rfl, B1.out⟩
 replace hbad := hbad.resolve_left q3
 by_cases q4 : ag_ < 1
 · clear hbad
   go_wp2
   go_ret
   exact ⟨rfl, B1.out⟩
 replace hbad := hbad.resolve_left q4
 by_cases q5 : 1000 < ag_
 · clear hbad
   go_wp2
   go_ret
   exact ⟨rfl, B1.out⟩
 replace hbad := hbad.resolve_left q5
 by_cases q6 : re_ < 0
 · clear hbad
   go_wp2
   go_ret
   exact ⟨rfl, B1.out⟩
 replace hbad := hbad.resolve_left q6
 by_cases q7 : 10 < re_
 · clear hbad
   go_wp2
   go_ret
   exact ⟨rfl, B1.out⟩
 exact absurd hbad q7
end Go.Proofs.YthabffjgdhfbmaaGreatDoor
