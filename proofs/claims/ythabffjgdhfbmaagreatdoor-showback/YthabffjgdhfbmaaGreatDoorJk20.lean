/-
  Texts that belong together, one behind the other: DsSame, UnRef, SnRf, SnRk, SnRa, SnRb, SnRc, SnLr, ShRds0. Conditions: as each says.
-/
import Derived.BigQuiet
import Derived.BigRegion
import Derived.ChangeOld
import Derived.Deep.AppendLies
import Derived.Deep.CutRange
import Derived.Deep.QuietTactic
import Derived.Deep.RegionHeld3
import Derived.Deep.SlicePairs
import Derived.Deep.Strs
import Derived.Great.BuildSlice
import Derived.Laws.BitsAllLaws
import Derived.Laws.OwnMore
import Derived.Laws.Shifts
import Derived.Laws.Tables
import Derived.Lib.QuietBelowIn
import Derived.Maps.AppendAt
import Derived.OpenShut
import Derived.ProofKit
import Derived.RangeFuncCalls
import Derived.ShutString
import Derived.Sort.BigQuietIn
import Derived.Test.YthabffjgdhfbmaaGreatDoorProg
import Derived.WalkKit
import Derived.Test.YthabffjgdhfbmaaGreatDoorJk1
import Derived.Test.YthabffjgdhfbmaaGreatDoorJk2
import Derived.Test.YthabffjgdhfbmaaGreatDoorJk3
import Derived.Test.YthabffjgdhfbmaaGreatDoorJk4
import Derived.Test.YthabffjgdhfbmaaGreatDoorJk5
import Derived.Test.YthabffjgdhfbmaaGreatDoorJk6
import Derived.Test.YthabffjgdhfbmaaGreatDoorJk7
import Derived.Test.YthabffjgdhfbmaaGreatDoorJk8
import Derived.Test.YthabffjgdhfbmaaGreatDoorJk9
import Derived.Test.YthabffjgdhfbmaaGreatDoorJk10
import Derived.Test.YthabffjgdhfbmaaGreatDoorJk11
import Derived.Test.YthabffjgdhfbmaaGreatDoorJk12
import Derived.Test.YthabffjgdhfbmaaGreatDoorJk13
import Derived.Test.YthabffjgdhfbmaaGreatDoorJk14
import Derived.Test.YthabffjgdhfbmaaGreatDoorJk15
import Derived.Test.YthabffjgdhfbmaaGreatDoorJk16
import Derived.Test.YthabffjgdhfbmaaGreatDoorJk17
import Derived.Test.YthabffjgdhfbmaaGreatDoorJk18
import Derived.Test.YthabffjgdhfbmaaGreatDoorJk19
set_option maxRecDepth 100000
set_option maxHeartbeats 32000000
set_option linter.unusedVariables false
namespace Go.Proofs.YthabffjgdhfbmaaGreatDoor
open Go.RowKit
theorem same_v (d : Dv) (fa qa fb qb : Value) (w : World) (hfa : FldsV w fa d.fs) (hqa : BytesAt w qa d.rq) (hfb : FldsV w fb d.fs) (hqb : BytesAt w qb d.rq) (hn : (d.fs.length : Int) ≤ 4500) :
 Calls Tryz.prog 15 #[dvV d fa qa, dvV d fb qb] w fun e y => e = .returned (.int .i64 1) ∧ Below w.heap.size w y := by
 obtain ⟨pa, na, ca, rfl, hna⟩ : ∃ p n c, fa = .slice p n c ∧ n = d.fs.length := by
  rcases hfa with ⟨a, c, h1, h2⟩ | ⟨g, o, cap, h1, _⟩
  · exact ⟨_, _, _, h1, by rw [h2]; rfl⟩
  · exact ⟨_, _, _, h1, rfl⟩
 obtain ⟨pb, nb, cb, rfl, hnb⟩ : ∃ p n c, fb = .slice p n c ∧ n = d.fs.length := by
  rcases hfb with ⟨a, c, h1, h2⟩ | ⟨g, o, cap, h1, _⟩
  · exact ⟨_, _, _, h1, by rw [h2]; rfl⟩
  · exact ⟨_, _, _, h1, rfl⟩
 obtain rfl : na = nb := hna.trans hnb.symm
 have hn2 : (na : Int) ≤ 4500 := by omega
 replace hna : Hid (na = d.fs.length) := hna
 clear hnb hn
 have bA : Below w.heap.size w ((w.alloc (.cells (dvB d (.slice pa na ca) qa) 33)).alloc (.cells (dvB d (.slice pb na cb) qb) 25)) := ((Below.refl _ _).alloc (Nat.le_refl _) _).alloc (by rw [World.size_alloc]; omega) _
 have hA : ((w.alloc (.cells (dvB d (.slice pa na ca) qa) 33)).alloc (.cells (dvB d (.slice pb na cb) qb) 25)).heap[w.heap.size]? = some (.cells (dvB d (.slice pa na ca) qa) 33 (0, 0)) := map_under _ _ _ _ (World.alloc_heap_new w _)
 have hB : ((w.alloc (.cells (dvB d (.slice pa na ca) qa) 33)).alloc (.cells (dvB d (.slice pb na cb) qb) 25)).heap[w.heap.size + 1]? = some (.cells (dvB d (.slice pb na cb) qb) 25 (0, 0)) := by
  have k := World.alloc_heap_new (w.alloc (.cells (dvB d (.slice pa na ca) qa) 33)) (.cells (dvB d (.slice pb na cb) qb) 25)
  rwa [World.size_alloc] at k
 have kqa := conv_at (hqa.below bA)
 have kqb := conv_at (hqb.below bA)
 have Fa : Hid (FldsV ((w.alloc (.cells (dvB d (.slice pa na ca) qa) 33)).alloc (.cells (dvB d (.slice pb na cb) qb) 25)) (.slice pa na ca) d.fs) := hfa.below bA
 have Fb : Hid (FldsV ((w.alloc (.cells (dvB d (.slice pa na ca) qa) 33)).alloc (.cells (dvB d (.slice pb na cb) qb) 25)) (.slice pb na cb) d.fs) := hfb.below bA
 obtain ⟨pqa, nqa, cqa, rfl⟩ := hqa.form'
 obtain ⟨pqb, nqb, cqb, rfl⟩ := hqb.form'
 clear hfa hfb hqa hqb
 go_enter Tryz.func15, Tryz.ntmps15
 go_upto_region 1 with fail
 change Code.wp Tryz.prog _ _ _ ((w.alloc (.cells (dvB d (.slice pa na ca) (.slice pqa nqa cqa)) 33)).alloc (.cells (dvB d (.slice pb na cb) (.slice pqb nqb cqb)) 25))
 replace bA : Hid (Below w.heap.size w ((w.alloc (.cells (dvB d (.slice pa na ca) (.slice pqa nqa cqa)) 33)).alloc (.cells (dvB d (.slice pb na cb) (.slice pqb nqb cqb)) 25))) := bA
 generalize ((w.alloc (.cells (dvB d (.slice pa na ca) (.slice pqa nqa cqa)) 33)).alloc (.cells (dvB d (.slice pb na cb) (.slice pqb nqb cqb)) 25)) = w1 at *
 obtain ⟨c0, f0⟩ := rd_cell hA 0
 obtain ⟨c1, f1⟩ := rd_cell hA 1
 obtain ⟨c2, f2⟩ := rd_cell hA 2
 obtain ⟨c3, f3⟩ := rd_cell hA 3
 obtain ⟨c4, f4⟩ := rd_cell hA 4
 obtain ⟨c5, f5⟩ := rd_cell hA 5
 obtain ⟨c6, f6⟩ := rd_cell hA 6
 obtain ⟨c7, f7⟩ := rd_cell hA 7
 obtain ⟨c8, f8⟩ := rd_cell hA 8
 obtain ⟨c9, f9⟩ := rd_cell hA 9
 obtain ⟨c10, f10⟩ := rd_cell hA 10
 obtain ⟨c11, f11⟩ := rd_cell hA 11
 simp only [List.getElem?_toArray, List.getElem?_cons_zero, List.getElem?_cons_succ] at c0 c1 c2 c3 c4 c5 c6 c7 c8 c9 c10 c11
 obtain ⟨l0, m0⟩ := rd_cell hB 0
 obtain ⟨l1, m1⟩ := rd_cell hB 1
 obtain ⟨l2, m2⟩ := rd_cell hB 2
 obtain ⟨l3, m3⟩ := rd_cell hB 3
 obtain ⟨l4, m4⟩ := rd_cell hB 4
 obtain ⟨l5, m5⟩ := rd_cell hB 5
 obtain ⟨l6, m6⟩ := rd_cell hB 6
 obtain ⟨l7, m7⟩ := rd_cell hB 7
 obtain ⟨l8, m8⟩ := rd_cell hB 8
 obtain ⟨l9, m9⟩ := rd_cell hB 9
 obtain ⟨l10, m10⟩ := rd_cell hB 10
 obtain ⟨l11, m11⟩ := rd_cell hB 11
 simp only [List.getElem?_toArray, List.getElem?_cons_zero, List.getElem?_cons_succ] at l0 l1 l2 l3 l4 l5 l6 l7 l8 l9 l10 l11
 replace hA : Hid (w1.heap[w.heap.size]? = some (.cells (dvB d (.slice pa na ca) (.slice pqa nqa cqa)) 33 (0, 0))) := hA
 replace hB : Hid (w1.heap[w.heap.size + 1]? = some (.cells (dvB d (.slice pb na cb) (.slice pqb nqb cqb)) 25 (0, 0))) := hB
 go_wp2
 clear c0 f0 l0 m0 c1 f1 l1 m1 c2 f2 l2 m2 c3 f3 l3 m3 c4 f4 l4 m4 c5 f5 l5 m5 c6 f6 l6 m6 c7 f7 l7 m7 c8 f8 l8 m8 c9 f9 l9 m9 c10 f10 l10 m10 c11 f11 l11 m11 kqa kqb
 go_loopw [5] (fun vi wr => ∃ k : Nat, (k : Int) ≤ (na : Int) ∧ vi = .int .i64 (k : Int) ∧ Hid (Below w1.heap.size w1 wr)) (fun vi wr => ((na : Int) - intOf vi).toNat)
 case atStart => exact ⟨0, by omega, rfl, Below.refl _ _⟩
 case round =>
  obtain ⟨k, hk, rfl, hb⟩ := hrel
  have hAl : Hid (wr.cell? ⟨w.heap.size, 6, none⟩ = some (.slice pa na ca)) := kp hb.out (rd_cell hA.out 6).1
  have hBl : Hid (wr.cell? ⟨w.heap.size + 1, 6, none⟩ = some (.slice pb na cb)) := kp hb.out (rd_cell hB.out 6).1
  by_cases hlt : k < na
  · have hki : (k : Int) < (na : Int) := by omega
    have hkf : k < d.fs.length := by have := hna.out; omega
    have wk : IntKind.i64.wrap ((k : Int) + 1) = (k : Int) + 1 := by simp only [IntKind.wrap_i64]; omega
    have hkb : 0 ≤ (k : Int) := by omega
    rcases Fa.out with ⟨_, _, _, hnil⟩ | ⟨ga, oa, c1, e1, _, hia, hga⟩
    · rw [hnil] at hkf; cases hkf
    injection e1 with e1 e2 e3
    subst e1
    subst e3
    clear e2
    rcases Fb.out with ⟨_, _, _, hnil⟩ | ⟨gb, ob, c1, e1, _, hib, hgb⟩
    · rw [hnil] at hkf; cases hkf
    injection e1 with e1 e2 e3
    subst e1
    subst e3
    clear e2
    have Na : Hid (∀ i v, (fdC d.fs[k])[i]? = some v → wr.cell? ⟨ga, oa + k * 9 + i, none⟩ = some v) := fun i v hv => kp hb.out (hia.nine hkf i v hv)
    have Nb : Hid (∀ i v, (fdC d.fs[k])[i]? = some v → wr.cell? ⟨gb, ob + k * 9 + i, none⟩ = some v) := fun i v hv => kp hb.out (hib.nine hkf i v hv)
    generalize d.fs[k] = f at *
    clear hia hib hga hgb hkf
    have al0 := hAl.out
    have bl0 := hBl.out
    go_upto_region 6 with fail
    refine region_props3 (SmP w.heap.size ga oa gb ob k (.slice (some ⟨ga, oa, none⟩) na ca) (.slice (some ⟨gb, ob, none⟩) na cb) f) (SmW wr f) ⟨0, 0⟩ (by kernel_rfl) (by kernel_rfl) ?_ ?_ ⟨⟨rfl, rfl, rfl, Nat.le_refl _, fun _ _ => rfl⟩, fun h => (by cases h), fun h => (by cases h), fun h => (by cases h), fun h => (by cases h), fun h => (by cases h)⟩
    · intro γ x a z i op ho hI haf hx hxi hW
      have hi : i < 14 := (List.getElem?_eq_some_iff.1 ho).1
      have xi := getD_false hxi
      match i, hi with
      | 0, _ =>
       obtain rfl := Option.some.inj (show some _ = some op from ho)
       have e1 : a.tmps.getD 2 undef = .pointer (some ⟨w.heap.size, 0, none⟩) := (hI.was (by kernel_rfl)).trans rfl
       go_simp
       exact ⟨_, rfl, γ, rfl, fun j v _ h => h, hW.other (by decide)⟩
      | 1, _ =>
       obtain rfl := Option.some.inj (show some _ = some op from ho)
       have e1 : a.tmps.getD 101 undef = .pointer (some ⟨w.heap.size, 6, none⟩) := Eq.trans (hI.val 0 _ 101 rfl rfl (dep_at haf (by kernel_rfl))) rfl
       have l1 := kp hW.low al0
       go_simp
       exact ⟨_, rfl, γ, rfl, fun j v _ h => h, hW.other (by decide)⟩
      | 2, _ =>
       obtain rfl := Option.some.inj (show some _ = some op from ho)
       have e1 : a.tmps.getD 5 undef = .int .i64 (k : Int) := (hI.was (by kernel_rfl)).trans rfl
       go_simp
       exact ⟨_, rfl, γ, rfl, fun j v _ h => h, hW.other (by decide)⟩
      | 3, _ =>
       obtain rfl := Option.some.inj (show some _ = some op from ho)
       have e1 : a.tmps.getD 102 undef = .slice (some ⟨ga, oa, none⟩) na ca := Eq.trans (hI.val 1 _ 102 rfl rfl (dep_at haf (by kernel_rfl))) rfl
       have e2 : a.tmps.getD 103 undef = .int .i64 (k : Int) := Eq.trans (hI.val 2 _ 103 rfl rfl (dep_at haf (by kernel_rfl))) rfl
       go_simp
       exact ⟨_, rfl, γ, rfl, fun j v _ h => h, hW.other (by decide)⟩
      | 4, _ =>
       obtain rfl := Option.some.inj (show some _ = some op from ho)
       have e1 : a.tmps.getD 104 undef = .pointer (some ⟨ga, oa + k * 9, none⟩) := Eq.trans (hI.val 3 _ 104 rfl rfl (dep_at haf (by kernel_rfl))) rfl
       have l0 := kp hW.low (Na.out 0 _ rfl)
       have l1 := kp hW.low (Na.out 1 _ rfl)
       have l2 := kp hW.low (Na.out 2 _ rfl)
       have l3 := kp hW.low (Na.out 3 _ rfl)
       have l4 := kp hW.low (Na.out 4 _ rfl)
       have l5 := kp hW.low (Na.out 5 _ rfl)
       have l6 := kp hW.low (Na.out 6 _ rfl)
       have l7 := kp hW.low (Na.out 7 _ rfl)
       have l8 := kp hW.low (Na.out 8 _ rfl)
       simp only [Nat.add_zero] at l0
       go_simp
       exact ⟨_, rfl, γ, rfl, fun j v _ h => h, hW.other (by decide)⟩
      | 5, _ =>
       obtain rfl := Option.some.inj (show some _ = some op from ho)
       have e1 : a.tmps.getD 3 undef = .pointer (some ⟨w.heap.size + 1, 0, none⟩) := (hI.was (by kernel_rfl)).trans rfl
       go_simp
       exact ⟨_, rfl, γ, rfl, fun j v _ h => h, hW.other (by decide)⟩
      | 6, _ =>
       obtain rfl := Option.some.inj (show some _ = some op from ho)
       have e1 : a.tmps.getD 106 undef = .pointer (some ⟨w.heap.size + 1, 6, none⟩) := Eq.trans (hI.val 5 _ 106 rfl rfl (dep_at haf (by kernel_rfl))) rfl
       have l1 := kp hW.low bl0
       go_simp
       exact ⟨_, rfl, γ, rfl, fun j v _ h => h, hW.other (by decide)⟩
      | 7, _ =>
       obtain rfl := Option.some.inj (show some _ = some op from ho)
       have e1 : a.tmps.getD 5 undef = .int .i64 (k : Int) := (hI.was (by kernel_rfl)).trans rfl
       go_simp
       exact ⟨_, rfl, γ, rfl, fun j v _ h => h, hW.other (by decide)⟩
      | 8, _ =>
       obtain rfl := Option.some.inj (show some _ = some op from ho)
       have e1 : a.tmps.getD 107 undef = .slice (some ⟨gb, ob, none⟩) na cb := Eq.trans (hI.val 6 _ 107 rfl rfl (dep_at haf (by kernel_rfl))) rfl
       have e2 : a.tmps.getD 108 undef = .int .i64 (k : Int) := Eq.trans (hI.val 7 _ 108 rfl rfl (dep_at haf (by kernel_rfl))) rfl
       go_simp
       exact ⟨_, rfl, γ, rfl, fun j v _ h => h, hW.other (by decide)⟩
      | 9, _ =>
       obtain rfl := Option.some.inj (show some _ = some op from ho)
       have e1 : a.tmps.getD 109 undef = .pointer (some ⟨gb, ob + k * 9, none⟩) := Eq.trans (hI.val 8 _ 109 rfl rfl (dep_at haf (by kernel_rfl))) rfl
       have l0 := kp hW.low (Nb.out 0 _ rfl)
       have l1 := kp hW.low (Nb.out 1 _ rfl)
       have l2 := kp hW.low (Nb.out 2 _ rfl)
       have l3 := kp hW.low (Nb.out 3 _ rfl)
       have l4 := kp hW.low (Nb.out 4 _ rfl)
       have l5 := kp hW.low (Nb.out 5 _ rfl)
       have l6 := kp hW.low (Nb.out 6 _ rfl)
       have l7 := kp hW.low (Nb.out 7 _ rfl)
       have l8 := kp hW.low (Nb.out 8 _ rfl)
       simp only [Nat.add_zero] at l0
       go_simp
       exact ⟨_, rfl, γ, rfl, fun j v _ h => h, hW.other (by decide)⟩
      | 10, _ =>
       obtain rfl := Option.some.inj (show some _ = some op from ho)
       go_simp
       refine ⟨_, rfl, ⟨z.heap.size, γ.b2⟩, rfl, fun j v hj h => Eq.trans h (smV_x ?_), hW.allocX xi hx⟩
       rintro rfl; have hj := gD_q hj; rw [xi] at hj; cases hj
      | 11, _ =>
       obtain rfl := Option.some.inj (show some _ = some op from ho)
       go_simp
       refine ⟨_, rfl, ⟨γ.b1, z.heap.size⟩, rfl, fun j v hj h => Eq.trans h (smV_y ?_), hW.allocY xi hx⟩
       rintro rfl; have hj := gD_q hj; rw [xi] at hj; cases hj
      | 12, _ =>
       obtain rfl := Option.some.inj (show some _ = some op from ho)
       have x10 : x.getD 10 false = true := dep_at haf (by kernel_rfl)
       have e1 : a.tmps.getD 6 undef = .pointer (some ⟨γ.b1, 0, none⟩) := Eq.trans (hI.val 10 _ 6 rfl rfl (dep_at haf (by kernel_rfl))) rfl
       have e2 : a.tmps.getD 105 undef = .agg (fdA f) := Eq.trans (hI.val 4 _ 105 rfl rfl (dep_at haf (by kernel_rfl))) rfl
       have hX := (hW.bx x10).2
       rw [xi] at hX
       replace hX : z.heap[γ.b1]? = some (.cells zF 70 (0, 0)) := hX
       have W' := hW.storeX x10 xi hx
       obtain ⟨b1, b2⟩ := γ
       simp only at e1 hX W'
       obtain ⟨l0, m0⟩ := rd_cell hX 0
       obtain ⟨l1, m1⟩ := rd_cell hX 1
       obtain ⟨l2, m2⟩ := rd_cell hX 2
       obtain ⟨l3, m3⟩ := rd_cell hX 3
       obtain ⟨l4, m4⟩ := rd_cell hX 4
       obtain ⟨l5, m5⟩ := rd_cell hX 5
       obtain ⟨l6, m6⟩ := rd_cell hX 6
       obtain ⟨l7, m7⟩ := rd_cell hX 7
       obtain ⟨l8, m8⟩ := rd_cell hX 8
       simp only [List.getElem?_toArray, List.getElem?_cons_zero, List.getElem?_cons_succ] at l0 l1 l2 l3 l4 l5 l6 l7 l8
       go_simp
       exact ⟨⟨b1, b2⟩, fun j v _ h => h, W'⟩
      | 13, _ =>
       obtain rfl := Option.some.inj (show some _ = some op from ho)
       have x11 : x.getD 11 false = true := dep_at haf (by kernel_rfl)
       have e1 : a.tmps.getD 7 undef = .pointer (some ⟨γ.b2, 0, none⟩) := Eq.trans (hI.val 11 _ 7 rfl rfl (dep_at haf (by kernel_rfl))) rfl
       have e2 : a.tmps.getD 110 undef = .agg (fdA f) := Eq.trans (hI.val 9 _ 110 rfl rfl (dep_at haf (by kernel_rfl))) rfl
       have hX := (hW.by' x11).2
       rw [xi] at hX
       replace hX : z.heap[γ.b2]? = some (.cells zF 64 (0, 0)) := hX
       have W' := hW.storeY x11 xi hx
       obtain ⟨b1, b2⟩ := γ
       simp only at e1 hX W'
       obtain ⟨l0, m0⟩ := rd_cell hX 0
       obtain ⟨l1, m1⟩ := rd_cell hX 1
       obtain ⟨l2, m2⟩ := rd_cell hX 2
       obtain ⟨l3, m3⟩ := rd_cell hX 3
       obtain ⟨l4, m4⟩ := rd_cell hX 4
       obtain ⟨l5, m5⟩ := rd_cell hX 5
       obtain ⟨l6, m6⟩ := rd_cell hX 6
       obtain ⟨l7, m7⟩ := rd_cell hX 7
       obtain ⟨l8, m8⟩ := rd_cell hX 8
       simp only [List.getElem?_toArray, List.getElem?_cons_zero, List.getElem?_cons_succ] at l0 l1 l2 l3 l4 l5 l6 l7 l8
       go_simp
       exact ⟨⟨b1, b2⟩, fun j v _ h => h, W'⟩
    · intro γ x a z hx hall hI hW
      have ha := RegI.tmps (V := smV w.heap.size ga oa gb ob k (.slice (some ⟨ga, oa, none⟩) na ca) (.slice (some ⟨gb, ob, none⟩) na cb) f γ) hI (by kernel_rfl) hall
      have bX := (hW.bx (hall 10 (by decide))).2
      have bY := (hW.by' (hall 11 (by decide))).2
      rw [if_pos (hall 12 (by decide))] at bX
      rw [if_pos (hall 13 (by decide))] at bY
      have lo : Hid (Below w1.heap.size w1 z) := hb.out.trans (hW.low.mono hb.out.size)
      obtain ⟨b1, b2⟩ := γ
      simp only at bX bY
      simp only [putsL, smV, List.setIfInBounds_toArray, List.set_cons_zero, List.set_cons_succ, Array.getD_eq_getD_getElem?, List.getElem?_toArray, List.getElem?_cons_zero, List.getElem?_cons_succ, Option.getD_some] at ha
      subst ha
      clear hI hall hx hW x hb al0 bl0 Na Nb hAl hBl
      obtain ⟨l0, m0⟩ := rd_cell bX 0
      obtain ⟨l1, m1⟩ := rd_cell bX 1
      obtain ⟨l2, m2⟩ := rd_cell bX 2
      obtain ⟨l3, m3⟩ := rd_cell bX 3
      obtain ⟨l4, m4⟩ := rd_cell bX 4
      obtain ⟨l5, m5⟩ := rd_cell bX 5
      obtain ⟨l6, m6⟩ := rd_cell bX 6
      obtain ⟨l7, m7⟩ := rd_cell bX 7
      obtain ⟨l8, m8⟩ := rd_cell bX 8
      simp only [List.getElem?_toArray, List.getElem?_cons_zero, List.getElem?_cons_succ] at l0 l1 l2 l3 l4 l5 l6 l7 l8
      obtain ⟨p0, q0⟩ := rd_cell bY 0
      obtain ⟨p1, q1⟩ := rd_cell bY 1
      obtain ⟨p2, q2⟩ := rd_cell bY 2
      obtain ⟨p3, q3⟩ := rd_cell bY 3
      obtain ⟨p4, q4⟩ := rd_cell bY 4
      obtain ⟨p5, q5⟩ := rd_cell bY 5
      obtain ⟨p6, q6⟩ := rd_cell bY 6
      obtain ⟨p7, q7⟩ := rd_cell bY 7
      obtain ⟨p8, q8⟩ := rd_cell bY 8
      simp only [List.getElem?_toArray, List.getElem?_cons_zero, List.getElem?_cons_succ] at p0 p1 p2 p3 p4 p5 p6 p7 p8
      go_upto_region 7 with fail
      clear bX bY m0 q0 m1 q1 m2 q2 m3 q3 m4 q4 m5 q5 m6 q6 m7 q7 m8 q8
      obtain ⟨nm, pl, kd, wd, sn, sd, on, od, un⟩ := f
      simp only at *
      have kl0 := cell_regrown l0
      have kp0 := cell_regrown p0
      have kl1 := cell_regrown l1
      have kp1 := cell_regrown p1
      have kl2 := cell_regrown l2
      have kp2 := cell_regrown p2
      have kl3 := cell_regrown l3
      have kp3 := cell_regrown p3
      have kl4 := cell_regrown l4
      have kp4 := cell_regrown p4
      have kl5 := cell_regrown l5
      have kp5 := cell_regrown p5
      have kl6 := cell_regrown l6
      have kp6 := cell_regrown p6
      have kl7 := cell_regrown l7
      have kp7 := cell_regrown p7
      have kl8 := cell_regrown l8
      have kp8 := cell_regrown p8
      refine wp_region_quiet_below (by kernel_rfl) (by kernel_rfl) ?_
      repeat (go_big_quiet_step (first
       | (go_at_call 32; with_reducible exact Calls.regrown_of (plain_any sn sd _))
       | (go_at_call 32; with_reducible exact Calls.regrown_of (plain_any on od _))))
      refine wpQuiet_nil ?_
      intro _ hw'
      obtain ⟨⟨dq, osq⟩, hw''⟩ := hw'
      subst hw''
      replace lo : Hid (Below w1.heap.size w1 (Sort.grow (redrawn z dq) osq)) := lo.out.trans ((below_regrown z dq osq).mono lo.out.size)
      clear kl0 kp0 l0 p0 kl1 kp1 l1 p1 kl2 kp2 l2 p2 kl3 kp3 l3 p3 kl4 kp4 l4 p4 kl5 kp5 l5 p5 kl6 kp6 l6 p6 kl7 kp7 l7 p7 kl8 kp8 l8 p8
      generalize Sort.grow (redrawn z dq) osq = w5 at *
      go_wp2
      exact ⟨⟨k + 1, by omega, by simp, lo⟩, by simp [intOf]; omega⟩
  · obtain rfl : k = na := by omega
    have hAl := hAl.out
    have hBl := hBl.out
    have lo : Hid (Below w.heap.size w wr) := bA.out.trans (hb.out.mono bA.out.size)
    go_wp2
    go_ret
    exact ⟨rfl, lo.out⟩
def namesA : Array Value := (tab.map (fun u => Value.string u.nm)).toArray
def codesA : Array Value := (tab.map (fun u => Value.int .i64 u.code)).toArray
def dimsA : Array Value := (tab.flatMap (fun u => [.int .i64 u.m, .int .i64 u.l, .int .i64 u.t, .int .i64 u.k])).toArray
def numsA : Array Value := (tab.flatMap (fun u => [.int .i64 u.fn, .int .i64 u.fd, .int .i64 u.on, .int .i64 u.od])).toArray
theorem names_at : ∀ (k : Nat) (h : k < tab.length), namesA[k]? = some (.string tab[k].nm)
 | 0, _ => by kernel_rfl
 | 1, _ => by kernel_rfl
 | 2, _ => by kernel_rfl
 | 3, _ => by kernel_rfl
 | 4, _ => by kernel_rfl
 | 5, _ => by kernel_rfl
 | 6, _ => by kernel_rfl
 | 7, _ => by kernel_rfl
 | 8, _ => by kernel_rfl
 | 9, _ => by kernel_rfl
 | 10, _ => by kernel_rfl
 | 11, _ => by kernel_rfl
 | 12, _ => by kernel_rfl
 | 13, _ => by kernel_rfl
 | 14, _ => by kernel_rfl
 | 15, _ => by kernel_rfl
 | 16, _ => by kernel_rfl
 | 17, _ => by kernel_rfl
 | 18, _ => by kernel_rfl
 | 19, _ => by kernel_rfl
 | 20, _ => by kernel_rfl
 | 21, _ => by kernel_rfl
 | 22, _ => by kernel_rfl
 | 23, _ => by kernel_rfl
 | 24, _ => by kernel_rfl
 | k + 25, h => by exfalso; have := tab_len; omega
theorem codes_at : ∀ (k : Nat) (h : k < tab.length), codesA[k]? = some (.int .i64 tab[k].code)
 | 0, _ => by kernel_rfl
 | 1, _ => by kernel_rfl
 | 2, _ => by kernel_rfl
 | 3, _ => by kernel_rfl
 | 4, _ => by kernel_rfl
 | 5, _ => by kernel_rfl
 | 6, _ => by kernel_rfl
 | 7, _ => by kernel_rfl
 | 8, _ => by kernel_rfl
 | 9, _ => by kernel_rfl
 | 10, _ => by kernel_rfl
 | 11, _ => by kernel_rfl
 | 12, _ => by kernel_rfl
 | 13, _ => by kernel_rfl
 | 14, _ => by kernel_rfl
 | 15, _ => by kernel_rfl
 | 16, _ => by kernel_rfl
 | 17, _ => by kernel_rfl
 | 18, _ => by kernel_rfl
 | 19, _ => by kernel_rfl
 | 20, _ => by kernel_rfl
 | 21, _ => by kernel_rfl
 | 22, _ => by kernel_rfl
 | 23, _ => by kernel_rfl
 | 24, _ => by kernel_rfl
 | k + 25, h => by exfalso; have := tab_len; omega
theorem dims_at : ∀ (k : Nat) (h : k < tab.length), dimsA[k * 4]? = some (.int .i64 tab[k].m) ∧ dimsA[k * 4 + 1]? = some (.int .i64 tab[k].l) ∧ dimsA[k * 4 + 2]? = some (.int .i64 tab[k].t) ∧ dimsA[k * 4 + 3]? = some (.int .i64 tab[k].k)
 | 0, _ => ⟨by kernel_rfl, by kernel_rfl, by kernel_rfl, by kernel_rfl⟩
 | 1, _ => ⟨by kernel_rfl, by kernel_rfl, by kernel_rfl, by kernel_rfl⟩
 | 2, _ => ⟨by kernel_rfl, by kernel_rfl, by kernel_rfl, by kernel_rfl⟩
 | 3, _ => ⟨by kernel_rfl, by kernel_rfl, by kernel_rfl, by kernel_rfl⟩
 | 4, _ => ⟨by kernel_rfl, by kernel_rfl, by kernel_rfl, by kernel_rfl⟩
 | 5, _ => ⟨by kernel_rfl, by kernel_rfl, by kernel_rfl, by kernel_rfl⟩
 | 6, _ => ⟨by kernel_rfl, by kernel_rfl, by kernel_rfl, by kernel_rfl⟩
 | 7, _ => ⟨by kernel_rfl, by kernel_rfl, by kernel_rfl, by kernel_rfl⟩
 | 8, _ => ⟨by kernel_rfl, by kernel_rfl, by kernel_rfl, by kernel_rfl⟩
 | 9, _ => ⟨by kernel_rfl, by kernel_rfl, by kernel_rfl, by kernel_rfl⟩
 | 10, _ => ⟨by kernel_rfl, by kernel_rfl, by kernel_rfl, by kernel_rfl⟩
 | 11, _ => ⟨by kernel_rfl, by kernel_rfl, by kernel_rfl, by kernel_rfl⟩
 | 12, _ => ⟨by kernel_rfl, by kernel_rfl, by kernel_rfl, by kernel_rfl⟩
 | 13, _ => ⟨by kernel_rfl, by kernel_rfl, by kernel_rfl, by kernel_rfl⟩
 | 14, _ => ⟨by kernel_rfl, by kernel_rfl, by kernel_rfl, by kernel_rfl⟩
 | 15, _ => ⟨by kernel_rfl, by kernel_rfl, by kernel_rfl, by kernel_rfl⟩
 | 16, _ => ⟨by kernel_rfl, by kernel_rfl, by kernel_rfl, by kernel_rfl⟩
 | 17, _ => ⟨by kernel_rfl, by kernel_rfl, by kernel_rfl, by kernel_rfl⟩
 | 18, _ => ⟨by kernel_rfl, by kernel_rfl, by kernel_rfl, by kernel_rfl⟩
 | 19, _ => ⟨by kernel_rfl, by kernel_rfl, by kernel_rfl, by kernel_rfl⟩
 | 20, _ => ⟨by kernel_rfl, by kernel_rfl, by kernel_rfl, by kernel_rfl⟩
 | 21, _ => ⟨by kernel_rfl, by kernel_rfl, by kernel_rfl, by kernel_rfl⟩
 | 22, _ => ⟨by kernel_rfl, by kernel_rfl, by kernel_rfl, by kernel_rfl⟩
 | 23, _ => ⟨by kernel_rfl, by kernel_rfl, by kernel_rfl, by kernel_rfl⟩
 | 24, _ => ⟨by kernel_rfl, by kernel_rfl, by kernel_rfl, by kernel_rfl⟩
 | k + 25, h => by exfalso; have := tab_len; omega
theorem nums_at : ∀ (k : Nat) (h : k < tab.length), numsA[k * 4]? = some (.int .i64 tab[k].fn) ∧ numsA[k * 4 + 1]? = some (.int .i64 tab[k].fd) ∧ numsA[k * 4 + 2]? = some (.int .i64 tab[k].on) ∧ numsA[k * 4 + 3]? = some (.int .i64 tab[k].od)
 | 0, _ => ⟨by kernel_rfl, by kernel_rfl, by kernel_rfl, by kernel_rfl⟩
 | 1, _ => ⟨by kernel_rfl, by kernel_rfl, by kernel_rfl, by kernel_rfl⟩
 | 2, _ => ⟨by kernel_rfl, by kernel_rfl, by kernel_rfl, by kernel_rfl⟩
 | 3, _ => ⟨by kernel_rfl, by kernel_rfl, by kernel_rfl, by kernel_rfl⟩
 | 4, _ => ⟨by kernel_rfl, by kernel_rfl, by kernel_rfl, by kernel_rfl⟩
 | 5, _ => ⟨by kernel_rfl, by kernel_rfl, by kernel_rfl, by kernel_rfl⟩
 | 6, _ => ⟨by kernel_rfl, by kernel_rfl, by kernel_rfl, by kernel_rfl⟩
 | 7, _ => ⟨by kernel_rfl, by kernel_rfl, by kernel_rfl, by kernel_rfl⟩
 | 8, _ => ⟨by kernel_rfl, by kernel_rfl, by kernel_rfl, by kernel_rfl⟩
 | 9, _ => ⟨by kernel_rfl, by kernel_rfl, by kernel_rfl, by kernel_rfl⟩
 | 10, _ => ⟨by kernel_rfl, by kernel_rfl, by kernel_rfl, by kernel_rfl⟩
 | 11, _ => ⟨by kernel_rfl, by kernel_rfl, by kernel_rfl, by kernel_rfl⟩
 | 12, _ => ⟨by kernel_rfl, by kernel_rfl, by kernel_rfl, by kernel_rfl⟩
 | 13, _ => ⟨by kernel_rfl, by kernel_rfl, by kernel_rfl, by kernel_rfl⟩
 | 14, _ => ⟨by kernel_rfl, by kernel_rfl, by kernel_rfl, by kernel_rfl⟩
 | 15, _ => ⟨by kernel_rfl, by kernel_rfl, by kernel_rfl, by kernel_rfl⟩
 | 16, _ => ⟨by kernel_rfl, by kernel_rfl, by kernel_rfl, by kernel_rfl⟩
 | 17, _ => ⟨by kernel_rfl, by kernel_rfl, by kernel_rfl, by kernel_rfl⟩
 | 18, _ => ⟨by kernel_rfl, by kernel_rfl, by kernel_rfl, by kernel_rfl⟩
 | 19, _ => ⟨by kernel_rfl, by kernel_rfl, by kernel_rfl, by kernel_rfl⟩
 | 20, _ => ⟨by kernel_rfl, by kernel_rfl, by kernel_rfl, by kernel_rfl⟩
 | 21, _ => ⟨by kernel_rfl, by kernel_rfl, by kernel_rfl, by kernel_rfl⟩
 | 22, _ => ⟨by kernel_rfl, by kernel_rfl, by kernel_rfl, by kernel_rfl⟩
 | 23, _ => ⟨by kernel_rfl, by kernel_rfl, by kernel_rfl, by kernel_rfl⟩
 | 24, _ => ⟨by kernel_rfl, by kernel_rfl, by kernel_rfl, by kernel_rfl⟩
 | k + 25, h => by exfalso; have := tab_len; omega
def refW (w : World) : World := ((((w.alloc (.cells #[.string ⟨#[]⟩, .int .i64 0, .int .i64 0, .int .i64 0, .int .i64 0, .int .i64 0, .int .i64 0, .int .i64 0, .int .i64 0, .int .i64 0] 115)).alloc (.cells namesA 9)).alloc (.cells dimsA 113)).alloc (.cells numsA 160)).alloc (.cells codesA 3)
theorem wp_at {P : Program} {Q : Exit → Act → World → Prop} {c : Code} {a : Act} {w w' : World} (h : w = w') (k : c.wp P Q a w') : c.wp P Q a w := h ▸ k
theorem rfind_any (s : ByteArray) (w : World) :
 Calls Tryz.prog 63 #[.string s] w fun e w' => e = .returned (.tuple #[encU (atU s), .bool (isU s)]) ∧ Below w.heap.size w w' := by
 go_enter Tryz.func63, Tryz.ntmps63
 go_wp2
 refine wp_at (w' := refW w) (by kernel_rfl) ?_
 unfold refW
 go_loop [8] (fun i => ∃ k : Nat, i = .int .i64 (k : Int) ∧ k ≤ 25 ∧ Hid (∀ j (h : j < tab.length), j < k → tab[j].nm ≠ s)) (fun i => 25 - (intOf i).toNat)
 case atStart => exact ⟨0, rfl, by omega, fun j h hj => by omega⟩
 case round =>
  obtain ⟨k, rfl, hk, hno⟩ := hrel
  by_cases hlt : (k : Int) < 25
  · have hkl : k < tab.length := by rw [tab_len]; omega
    have hnm := names_at k hkl
    have hcd := codes_at k hkl
    obtain ⟨d0, d1, d2, d3⟩ := dims_at k hkl
    obtain ⟨n0, n1, n2, n3⟩ := nums_at k hkl
    have hyes : Hid (tab[k].nm = s → isU s = true ∧ atU s = tab[k]) := fun h => atU_first (pre := tab.take k) (rest := tab.drop (k + 1)) (by rw [← List.drop_eq_getElem_cons, List.take_append_drop]) (fun x hx => by
     obtain ⟨j, hj, rfl⟩ := List.mem_iff_getElem.1 hx
     rw [List.length_take] at hj
     rw [List.getElem_take]
     exact hno.out j (by omega) (by omega)) h
    have hnext : Hid (tab[k].nm ≠ s → ∀ j (h : j < tab.length), j < k + 1 → tab[j].nm ≠ s) := fun h j hj hjk => by
     by_cases e : j = k
     · subst e; exact h
     · exact hno.out j hj (by omega)
    clear hno
    generalize tab[k] = u at *
    clear hkl
    obtain ⟨nm, um, ul, ut, uk, fn, fd, on, od, code⟩ := u
    simp only at hnm hcd d0 d1 d2 d3 n0 n1 n2 n3 hyes hnext
    by_cases hs : nm = s
    · have hq := nm_yes hs
      have Y : Hid (isU s = true ∧ atU s = ⟨s, um, ul, ut, uk, fn, fd, on, od, code⟩) := by
       have := hyes.out hs
       rw [hs] at this
       exact this
      clear hs hyes hnext
      go_wp2
      go_region
      go_wp2
      go_returns
      exact ⟨by rw [Y.out.1, Y.out.2], by go_grown⟩
    · have hq := nm_no hs
      have hn2 : Hid (∀ j (h : j < tab.length), j < k + 1 → tab[j].nm ≠ s) := hnext.out hs
      clear hs hyes hnext
      go_wp2
      exact ⟨⟨k + 1, by simp, by omega, hn2⟩, by simp [intOf]; omega⟩
  · obtain rfl : k = 25 := by omega
    have hz : Hid (isU s = false ∧ atU s = noU) := isU_not (s := s) (fun u hu => by
     obtain ⟨j, hj, rfl⟩ := List.mem_iff_getElem.1 hu
     exact hno.out j hj (by rw [tab_len] at hj; exact hj))
    clear hno
    go_wp2
    go_returns
    exact ⟨by rw [hz.out.1, hz.out.2]; rfl, by go_grown⟩
theorem fldE_k {sz : Int} {f : Fd} {T : Int} (h : fldE sz f = T) (hk : gdK f = false) : 6 = T := by rw [← h, fldE_form, if_neg (by rw [hk]; decide)]
theorem fldE_p {sz : Int} {f : Fd} {T : Int} (h : fldE sz f = T) (hk : gdK f = true) (hp : gdP sz f = false) : 11 = T := by rw [← h, fldE_form, if_pos hk, if_neg (by rw [hp]; decide)]
theorem fldE_r {sz : Int} {f : Fd} {T : Int} (h : fldE sz f = T) (hk : gdK f = true) (hp : gdP sz f = true) (hr : gdR f = false) : 1 = T := by rw [← h, fldE_form, if_pos hk, if_pos hp, if_neg (by rw [hr]; decide)]
theorem fldE_u {sz : Int} {f : Fd} {T : Int} (h : fldE sz f = T) (hk : gdK f = true) (hp : gdP sz f = true) (hr : gdR f = true) (hu : gdU f = false) : 4 = T := by rw [← h, fldE_form, if_pos hk, if_pos hp, if_pos hr, if_neg (by rw [hu]; decide)]
theorem fldE_ok {sz : Int} {f : Fd} {T : Int} (h : fldE sz f = T) (hk : gdK f = true) (hp : gdP sz f = true) (hr : gdR f = true) (hu : gdU f = true) : 0 = T := by rw [← h, fldE_form, if_pos hk, if_pos hp, if_pos hr, if_pos hu]
theorem gdK_wd {f : Fd} (h : gdK f = true) : 1 ≤ f.wd ∧ f.wd ≤ 8 := by
 unfold gdK at h
 rw [Bool.and_eq_true] at h
 rcases rgt_cases h.2 with k | k <;> omega
theorem gdP_yes {sz : Int} {f : Fd} (hk : gdK f = true) (h0 : 0 ≤ f.pl) (h : f.pl + f.wd ≤ sz) : gdP sz f = true := by
 have := gdK_wd hk
 unfold gdP
 simp only [Bool.and_eq_true, decide_eq_true_eq]
 omega
theorem gdP_low {sz : Int} {f : Fd} (h0 : f.pl < 0) : gdP sz f = false := by
 unfold gdP
 rw [decide_eq_false (by omega)]; rfl
theorem gdP_high {sz : Int} {f : Fd} (h : sz < f.pl + f.wd) : gdP sz f = false := by
 unfold gdP
 rw [decide_eq_false (by omega : ¬ f.wd ≤ sz - f.pl)]; simp
theorem gdP_far {sz : Int} {f : Fd} (h : sz ≤ f.pl) : gdP sz f = false := by
 unfold gdP
 rw [decide_eq_false (by omega : ¬ f.pl < sz)]; simp
theorem rfield_any (sz : Int) (f : Fd) (w : World) (hi : FdI f) (hz : I64 sz) (hs : sz ≤ 1000000) : Calls Tryz.prog 27 #[.int .i64 sz, fdV f] w (QA w (fldE sz f)) := by
 have nc : Hid (∀ x, Calls Tryz.prog 25 #[.string (txt f.nm)] x fun e w' => e = .returned (.bool (nameB f.nm)) ∧ Below x.heap.size x w') := fun x => same_b (rname_any (txt f.nm) x)
 have rc : Hid (∀ x, Calls Tryz.prog 61 #[.string (txt f.kd), .int .i64 f.wd] x fun e w' => e = .returned (.bool (rgtB (kindI (txt f.kd)) f.wd)) ∧ Below x.heap.size x w') := fun x => same_b (bright_any (txt f.kd) f.wd x hi.wd)
 have r1 : Hid (∀ x, Calls Tryz.prog 62 #[rv f.sn f.sd] x fun e w' => e = .returned (.bool (rightB f.sn f.sd)) ∧ Below x.heap.size x w') := fun x => rright_any f.sn f.sd x hi.sn hi.sd
 have r2 : Hid (∀ x, Calls Tryz.prog 62 #[rv f.on f.od] x fun e w' => e = .returned (.bool (rightB f.on f.od)) ∧ Below x.heap.size x w') := fun x => rright_any f.on f.od x hi.on hi.od
 have fd : Hid (∀ x, Calls Tryz.prog 63 #[.string (txt f.un)] x fun e w' => e = .returned (.tuple #[encU (atU (txt f.un)), .bool (gdU f)]) ∧ Below x.heap.size x w') := fun x => rfind_any (txt f.un) x
 have F0 : Hid (FdB (w.alloc (.cells #[.string (txt f.nm), .int .i64 f.pl, .string (txt f.kd), .int .i64 f.wd, .int .i64 f.sn, .int .i64 f.sd, .int .i64 f.on, .int .i64 f.od, .string (txt f.un)] 64)) w.heap.size f) := FdB.new w f _
 have B0 : Hid (Below w.heap.size w (w.alloc (.cells #[.string (txt f.nm), .int .i64 f.pl, .string (txt f.kd), .int .i64 f.wd, .int .i64 f.sn, .int .i64 f.sd, .int .i64 f.on, .int .i64 f.od, .string (txt f.un)] 64))) := (Below.refl _ _).alloc (Nat.le_refl _) _
 obtain ⟨T, hT⟩ : ∃ T, fldE sz f = T := ⟨_, rfl⟩
 rw [hT]
 replace hT : Hid (fldE sz f = T) := hT
 obtain ⟨A, hA⟩ : ∃ A, nameB f.nm = A := ⟨_, rfl⟩
 obtain ⟨K, hK⟩ : ∃ K, rgtB (kindI (txt f.kd)) f.wd = K := ⟨_, rfl⟩
 obtain ⟨R1, hR1⟩ : ∃ R, rightB f.sn f.sd = R := ⟨_, rfl⟩
 obtain ⟨R2, hR2⟩ : ∃ R, rightB f.on f.od = R := ⟨_, rfl⟩
 obtain ⟨U, hU⟩ : ∃ U, gdU f = U := ⟨_, rfl⟩
 rw [hA] at nc
 rw [hK] at rc
 rw [hR1] at r1
 rw [hR2] at r2
 rw [hU] at fd
 have hGK : Hid (gdK f = (A && K)) := by unfold Hid gdK; rw [hA, hK]
 have hGR : Hid (gdR f = (R1 && R2)) := by unfold Hid gdR; rw [hR1, hR2]
 replace hU : Hid (gdU f = U) := hU
 obtain ⟨hz1, hz2⟩ := hz
 obtain ⟨hp1, hp2⟩ := hi.pl
 clear hi hA hK hR1 hR2
 generalize atU (txt f.un) = uu at *
 go_enter Tryz.func27, Tryz.ntmps27
 go_wp2_with fail
 refine (nc.out _).mono ?_
 rintro e y1 ⟨rfl, hb⟩
 have F1 : Hid (FdB y1 w.heap.size f) := F0.out.below hb
 have B1 : Hid (Below w.heap.size w y1) := B0.out.trans (hb.mono B0.out.size)
 clear hb F0 B0 nc
 cases A
 · have fin : Hid (6 = T) := fldE_k hT.out hGK.out
   clear rc r1 r2 fd hT hGK hGR hU F1
   go_wp2
   go_ret
   exact ⟨ret_int fin.out, B1.out⟩
 obtain ⟨_, _, c2, c3, _⟩ := F1.out.cells
 go_wp2_with fail
 refine (rc.out _).mono ?_
 rintro e y2 ⟨rfl, hb⟩
 have F2 : Hid (FdB y2 w.heap.size f) := F1.out.below hb
 have B2 : Hid (Below w.heap.size w y2) := B1.out.trans (hb.mono B1.out.size)
 clear hb F1 B1 rc c2 c3
 cases K
 · have fin : Hid (6 = T) := fldE_k hT.out hGK.out
   clear r1 r2 fd hT hGK hGR hU F2
   go_wp2
   go_ret
   exact ⟨ret_int fin.out, B2.out⟩
 have hk : gdK f = true := hGK.out
 obtain ⟨hw1, hw2⟩ := gdK_wd hk
 replace hk : Hid (gdK f = true) := hk
 clear hGK
 obtain ⟨_, c1, _, c3, _⟩ := F2.out.cells
 by_cases q1 : f.pl < 0
 · have fin : Hid (11 = T) := fldE_p hT.out hk.out (gdP_low q1)
   clear r1 r2 fd hT hk hGR hU F2
   generalize f.pl = pl at *
   generalize f.wd = wd at *
   go_wp2
   go_ret
   exact ⟨ret_int fin.out, B2.out⟩
 by_cases q2 : 1000000 < f.pl
 · have fin : Hid (11 = T) := fldE_p hT.out hk.out (gdP_far (by omega))
   clear r1 r2 fd hT hk hGR hU F2
   generalize f.pl = pl at *
   generalize f.wd = wd at *
   go_wp2
   go_ret
   exact ⟨ret_int fin.out, B2.out⟩
 by_cases q3 : sz < f.pl + f.wd
 · have fin : Hid (11 = T) := fldE_p hT.out hk.out (gdP_high q3)
   clear r1 r2 fd hT hk hGR hU F2
   generalize f.pl = pl at *
   generalize f.wd = wd at *
   go_wp2
   go_ret
   exact ⟨ret_int fin.out, B2.out⟩
 have hp : Hid (gdP sz f = true) := gdP_yes hk.out (by omega) (by omega)
 obtain ⟨_, _, _, _, c4, c5, _⟩ := F2.out.cells
 go_wp2_with fail
 refine (r1.out _).mono ?_
 rintro e y3 ⟨rfl, hb⟩
 have F3 : Hid (FdB y3 w.heap.size f) := F2.out.below hb
 have B3 : Hid (Below w.heap.size w y3) := B2.out.trans (hb.mono B2.out.size)
 clear hb F2 B2 r1 c1 c3 c4 c5 q1 q2 q3 hw1 hw2 hp1 hp2
 cases R1
 · have fin : Hid (1 = T) := fldE_r hT.out hk.out hp.out hGR.out
   clear r2 fd hT hk hGR hU hp F3
   go_wp2
   go_ret
   exact ⟨ret_int fin.out, B3.out⟩
 obtain ⟨_, _, _, _, _, _, c6, c7, _⟩ := F3.out.cells
 go_wp2_with fail
 refine (r2.out _).mono ?_
 rintro e y4 ⟨rfl, hb⟩
 have F4 : Hid (FdB y4 w.heap.size f) := F3.out.below hb
 have B4 : Hid (Below w.heap.size w y4) := B3.out.trans (hb.mono B3.out.size)
 clear hb F3 B3 r2 c6 c7
 cases R2
 · have fin : Hid (1 = T) := fldE_r hT.out hk.out hp.out hGR.out
   clear fd hT hk hGR hU hp F4
   go_wp2
   go_ret
   exact ⟨ret_int fin.out, B4.out⟩
 have c8 := F4.out.c 8 _ rfl
 clear F4
 go_wp2_with fail
 refine (fd.out _).mono ?_
 rintro e y5 ⟨rfl, hb⟩
 have B5 : Hid (∀ o, Below w.heap.size w (y5.alloc o)) := fun o => (B4.out.trans (hb.mono B4.out.size)).alloc (Nat.le_trans B4.out.size hb.size) o
 clear hb fd c8 B4
 cases U
 · have fin : Hid (4 = T) := fldE_u hT.out hk.out hp.out hGR.out hU.out
   clear hT hk hGR hU hp
   go_wp2
   go_ret
   exact ⟨ret_int fin.out, B5.out _⟩
 · have fin : Hid (0 = T) := fldE_ok hT.out hk.out hp.out hGR.out hU.out
   clear hT hk hGR hU hp
   go_wp2
   go_ret
   exact ⟨ret_int fin.out, B5.out _⟩
theorem gdN_iff {d : Dv} : gdN d = true ↔ (0 ≤ d.st ∧ d.st ≤ 255) ∧ (0 ≤ d.es ∧ d.es ≤ 255) ∧ (0 ≤ d.mx ∧ d.mx ≤ 255) ∧ (1 ≤ d.sz ∧ d.sz ≤ 32) ∧ (1 ≤ d.po ∧ d.po ≤ 1000) ∧ (1 ≤ d.ti ∧ d.ti ≤ 1000) ∧ (1 ≤ d.ag ∧ d.ag ≤ 1000) ∧ (0 ≤ d.re ∧ d.re ≤ 10) ∧ (1 ≤ (d.rq.length : Int) ∧ (d.rq.length : Int) ≤ 16) ∧ (0 ≤ (d.fs.length : Int) ∧ (d.fs.length : Int) ≤ 8) := by
 unfold gdN gd1 gd2 gd3 gd4 gd5 gd6 inB
 simp only [Bool.and_eq_true, decide_eq_true_eq]
 omega
theorem ck_6 {d : Dv} {T : Int} (h : ckE d = T) (hk : ¬ (nameB d.nm = true ∧ gdN d = true)) : 6 = T := by rw [← h, ckE_form, if_neg hk]
theorem ck_4 {d : Dv} {T : Int} (h : ckE d = T) (h1 : nameB d.nm = true) (h2 : gdN d = true) (h3 : isSum (txt d.sm) = false) : 4 = T := by rw [← h, ckE_form, if_pos ⟨h1, h2⟩, if_neg (by rw [h3]; decide)]
theorem ck_10 {d : Dv} {T : Int} (h : ckE d = T) (h1 : nameB d.nm = true) (h2 : gdN d = true) (h3 : isSum (txt d.sm) = true) (h4 : gdC d = false) : 10 = T := by rw [← h, ckE_form, if_pos ⟨h1, h2⟩, if_pos h3, if_neg (by rw [h4]; decide)]
theorem ck_11 {d : Dv} {T : Int} (h : ckE d = T) (h1 : nameB d.nm = true) (h2 : gdN d = true) (h3 : isSum (txt d.sm) = true) (h4 : gdC d = true) (h5 : gdT d = false) : 11 = T := by rw [← h, ckE_form, if_pos ⟨h1, h2⟩, if_pos h3, if_pos h4, if_neg (by rw [h5]; decide)]
theorem ck_fs {d : Dv} {T : Int} (h : ckE d = T) (h1 : nameB d.nm = true) (h2 : gdN d = true) (h3 : isSum (txt d.sm) = true) (h4 : gdC d = true) (h5 : gdT d = true) : FsI d.sz [] d.fs T := by unfold FsI; rw [← h, ckE_form, if_pos ⟨h1, h2⟩, if_pos h3, if_pos h4, if_pos h5]
theorem FsI.err {sz : Int} {seen : List Wd} {f : Fd} {l : List Fd} {T : Int} (h : FsI sz seen (f :: l) T) (h0 : ¬ fldE sz f = 0) : fldE sz f = T := by unfold FsI at h; rw [flds_cons, if_neg h0] at h; exact h
theorem FsI.twice {sz : Int} {seen : List Wd} {f : Fd} {l : List Fd} {T : Int} (h : FsI sz seen (f :: l) T) (h0 : fldE sz f = 0) (hm : f.nm ∈ seen) : 8 = T := by unfold FsI at h; rw [flds_cons, if_pos h0, if_pos hm] at h; exact h
theorem FsI.go {sz : Int} {seen : List Wd} {f : Fd} {l : List Fd} {T : Int} (h : FsI sz seen (f :: l) T) (h0 : fldE sz f = 0) (hm : ¬ f.nm ∈ seen) : FsI sz (seen ++ [f.nm]) l T := by unfold FsI at *; rw [flds_cons, if_pos h0, if_neg hm] at h; exact h
theorem rck_a (d : Dv) (pf pq : Option Addr) (nf cf nq cq : Nat) (w : World) (hf : d.fs.length = nf) (hq : d.rq.length = nq) (hfv : FldsV w (.slice pf nf cf) d.fs) (hbad : ¬ nameB d.nm = true ∨ d.st < 0 ∨ 255 < d.st ∨ d.es < 0 ∨ 255 < d.es ∨ d.mx < 0 ∨ 255 < d.mx ∨ d.sz < 1 ∨ 32 < d.sz ∨ 8 < (nf : Int) ∨ (nq : Int) < 1 ∨ 16 < (nq : Int)) : Calls Tryz.prog 12 #[dvV d (.slice pf nf cf) (.slice pq nq cq)] w (QA w 6) := by
 have nc : Hid (∀ x, Calls Tryz.prog 25 #[.string (txt d.nm)] x fun e w' => e = .returned (.bool (nameB d.nm)) ∧ Below x.heap.size x w') := fun x => same_b (rname_any (txt d.nm) x)
 have D0 : Hid (DevB (w.alloc (.cells #[.string (txt d.nm), .int .i64 d.st, .int .i64 d.es, .int .i64 d.mx, .int .i64 d.sz, .string (txt d.sm), .slice pf nf cf, .slice pq nq cq, .int .i64 d.po, .int .i64 d.ti, .int .i64 d.re, .int .i64 d.ag] 25)) w.heap.size d (.slice pf nf cf) (.slice pq nq cq)) := DevB.new hfv _
 have B0 : Hid (Below w.heap.size w (w.alloc (.cells #[.string (txt d.nm), .int .i64 d.st, .int .i64 d.es, .int .i64 d.mx, .int .i64 d.sz, .string (txt d.sm), .slice pf nf cf, .slice pq nq cq, .int .i64 d.po, .int .i64 d.ti, .int .i64 d.re, .int .i64 d.ag] 25))) := (Below.refl _ _).alloc (Nat.le_refl _) _
 clear hf hq hfv
 go_enter Tryz.func12, Tryz.ntmps12
 go_wp2_with fail
 refine (nc.out _).mono ?_
 rintro e y1 ⟨rfl, hb⟩
 have D1 : Hid (DevB y1 w.heap.size d (.slice pf nf cf) (.slice pq nq cq)) := D0.out.below hb
 have B1 : Hid (Below w.heap.size w y1) := B0.out.trans (hb.mono B0.out.size)
 clear hb D0 B0 nc
 cases hA : nameB d.nm
 · clear hbad hA D1
   go_wp2
   go_ret
   exact ⟨rfl, B1.out⟩
 replace hbad := hbad.resolve_left (by simp [hA])
 obtain ⟨_, z1, z2, z3, z4, z5, z6, z7, z8, z9, z10, z11⟩ := D1.out.cells
 clear D1 hA
 generalize d.st = st_ at *
 generalize d.es = es_ at *
 generalize d.mx = mx_ at *
 generalize d.sz = sz_ at *
 generalize d.po = po_ at *
 generalize d.ti = ti_ at *
 generalize d.re = re_ at *
 generalize d.ag = ag_ at *
 by_cases q0 : st_ < 0
 · clear hbad
   go_wp2
   go_ret
   exact ⟨rfl, B1.out⟩
 replace hbad := hbad.resolve_left q0
 by_cases q1 : 255 < st_
 · clear hbad
   go_wp2
   go_ret
   exact ⟨rfl, B1.out⟩
 replace hbad := hbad.resolve_left q1
 by_cases q2 : es_ < 0
 · clear hbad
   go_wp2
   go_ret
   exact ⟨rfl, B1.out⟩
 replace hbad := hbad.resolve_left q2
 by_cases q3 : 255 < es_
 · clear hbad
   go_wp2
   go_ret
   exact ⟨rfl, B1.out⟩
 replace hbad := hbad.resolve_left q3
 by_cases q4 : mx_ < 0
 · clear hbad
   go_wp2
   go_ret
   exact ⟨rfl, B1.out⟩
 replace hbad := hbad.resolve_left q4
 by_cases q5 : 255 < mx_
 · clear hbad
   go_wp2
   go_ret
   exact ⟨rfl, B1.out⟩
 replace hbad := hbad.resolve_left q5
 by_cases q6 : sz_ < 1
 · clear hbad
   go_wp2
   go_ret
   exact ⟨rfl, B1.out⟩
 replace hbad := hbad.resolve_left q6
 by_cases q7 : 32 < sz_
 · clear hbad
   go_wp2
   go_ret
   exact ⟨rfl, B1.out⟩
 replace hbad := hbad.resolve_left q7
 by_cases q8 : 8 < (nf : Int)
 · clear hbad
   go_wp2
   go_ret
   exact ⟨rfl, B1.out⟩
 replace hbad := hbad.resolve_left q8
 by_cases q9 : (nq : Int) < 1
 · clear hbad
   go_wp2
   go_ret
   exact ⟨rfl, B1.out⟩
 replace hbad := hbad.resolve_left q9
 by_cases q10 : 16 < (nq : Int)
 · clear hbad
   go_wp2
   go_ret
   exact ⟨rfl, B1.out⟩
 exact absurd hbad q10
theorem rck_b (d : Dv) (pf pq : Option Addr) (nf cf nq cq : Nat) (w : World) (hf : d.fs.length = nf) (hq : d.rq.length = nq) (hfv : FldsV w (.slice pf nf cf) d.fs) (hn : nameB d.nm = true) (h1 : ¬ d.st < 0 ∧ ¬ 255 < d.st ∧ ¬ d.es < 0 ∧ ¬ 255 < d.es ∧ ¬ d.mx < 0 ∧ ¬ 255 < d.mx ∧ ¬ d.sz < 1 ∧ ¬ 32 < d.sz ∧ ¬ 8 < (nf : Int) ∧ ¬ (nq : Int) < 1 ∧ ¬ 16 < (nq : Int)) (hbad : d.po < 1 ∨ 1000 < d.po ∨ d.ti < 1 ∨ 1000 < d.ti ∨ d.ag < 1 ∨ 1000 < d.ag ∨ d.re < 0 ∨ 10 < d.re) : Calls Tryz.prog 12 #[dvV d (.slice pf nf cf) (.slice pq nq cq)] w (QA w 6) := by
 have nc : Hid (∀ x, Calls Tryz.prog 25 #[.string (txt d.nm)] x fun e w' => e = .returned (.bool (nameB d.nm)) ∧ Below x.heap.size x w') := fun x => same_b (rname_any (txt d.nm) x)
 have D0 : Hid (DevB (w.alloc (.cells #[.string (txt d.nm), .int .i64 d.st, .int .i64 d.es, .int .i64 d.mx, .int .i64 d.sz, .string (txt d.sm), .slice pf nf cf, .slice pq nq cq, .int .i64 d.po, .int .i64 d.ti, .int .i64 d.re, .int .i64 d.ag] 25)) w.heap.size d (.slice pf nf cf) (.slice pq nq cq)) := DevB.new hfv _
 have B0 : Hid (Below w.heap.size w (w.alloc (.cells #[.string (txt d.nm), .int .i64 d.st, .int .i64 d.es, .int .i64 d.mx, .int .i64 d.sz, .string (txt d.sm), .slice pf nf cf, .slice pq nq cq, .int .i64 d.po, .int .i64 d.ti, .int .i64 d.re, .int .i64 d.ag] 25))) := (Below.refl _ _).alloc (Nat.le_refl _) _
 rw [hn] at nc
 clear hf hq hfv hn
 obtain ⟨p0, p1, p2, p3, p4, p5, p6, p7, p8, p9, p10⟩ := h1
 go_enter Tryz.func12, Tryz.ntmps12
 go_wp2_with fail
 refine (nc.out _).mono ?_
 rintro e y1 ⟨rfl, hb⟩
 have D1 : Hid (DevB y1 w.heap.size d (.slice pf nf cf) (.slice pq nq cq)) := D0.out.below hb
 have B1 : Hid (Below w.heap.size w y1) := B0.out.trans (hb.mono B0.out.size)
 clear hb D0 B0 nc
 obtain ⟨_, z1, z2, z3, z4, z5, z6, z7, z8, z9, z10, z11⟩ := D1.out.cells
 clear D1
 generalize d.st = st_ at *
 generalize d.es = es_ at *
 generalize d.mx = mx_ at *
 generalize d.sz = sz_ at *
 generalize d.po = po_ at *
 generalize d.ti = ti_ at *
 generalize d.re = re_ at *
 generalize d.ag = ag_ at *
 by_cases q0 : po_ < 1
 · clear hbad
   go_wp2
   go_ret
   exact ⟨rfl, B1.out⟩
 replace hbad := hbad.resolve_left q0
 by_cases q1 : 1000 < po_
 · clear hbad
   go_wp2
   go_ret
   exact ⟨rfl, B1.out⟩
 replace hbad := hbad.resolve_left q1
 by_cases q2 : ti_ < 1
 · clear hbad
   go_wp2
   go_ret
   exact ⟨rfl, B1.out⟩
 replace hbad := hbad.resolve_left q2
 by_cases q3 : 1000 < ti_
 · clear hbad
   go_wp2
   go_ret
   exact ⟨rfl, B1.out⟩
 replace hbad := hbad.resolve_left q3
 by_cases q4 : ag_ < 1
 · clear hbad
   go_wp2
   go_ret
   exact ⟨rfl, B1.out⟩
 replace hbad := hbad.resolve_left q4
 by_cases q5 : 1000 < ag_
 · clear hbad
   go_wp2
   go_ret
   exact ⟨rfl, B1.out⟩
 replace hbad := hbad.resolve_left q5
 by_cases q6 : re_ < 0
 · clear hbad
   go_wp2
   go_ret
   exact ⟨rfl, B1.out⟩
 replace hbad := hbad.resolve_left q6
 by_cases q7 : 10 < re_
 · clear hbad
   go_wp2
   go_ret
   exact ⟨rfl, B1.out⟩
 exact absurd hbad q7
structure RcI (w wr : World) (d : Dv) (fv qv : Value) : Prop where
 d : DevB wr w.heap.size d fv qv
 b : Below w.heap.size w wr
theorem RcI.below {w x y : World} {d : Dv} {fv qv : Value} (h : RcI w x d fv qv) (k : Below x.heap.size x y) : RcI w y d fv qv := ⟨h.d.below k, h.b.trans (k.mono h.b.size)⟩
theorem rof_any (s : ByteArray) (w : World) : Calls Tryz.prog 26 #[.string s, .slice none 0 0] w fun e w' => ∃ p n c, e = .returned (.tuple #[.slice p n c, .bool (isSum s)]) ∧ (isSum s = true → n = sizeK (whichN s)) ∧ Below w.heap.size w w' := by
 have hv : BytesAt w (.slice none 0 0) [] := .inl ⟨rfl, rfl⟩
 rcases which_cases s with ⟨k, hk, e, hw⟩ | ⟨hw, hn⟩
 · rw [sum_yes hk hw, hw]
   rw [e]
   refine (rof_yes hk (.slice none 0 0) [] w hv (by simp) (fun c hc => by cases hc)).mono ?_
   rintro e y ⟨x, rfl, hx, hb⟩
   have hl := end_len hk []
   rcases hx with ⟨rfl, h0⟩ | ⟨g, o, cap, rfl, _⟩
   · exact ⟨_, _, _, rfl, fun _ => by rw [← hl, h0]; rfl, hb⟩
   · exact ⟨_, _, _, rfl, fun _ => hl, hb⟩
 · rw [sum_not hw]
   refine (rof_no s (.slice none 0 0) [] w hv (by simp) (fun c hc => by cases hc) hn).mono ?_
   rintro e y ⟨rfl, hb⟩
   exact ⟨_, _, _, rfl, fun h => (by cases h), hb⟩
def NoneIn (nm : Wd) (l : List Wd) : Prop := nm ∉ l
theorem none_next {nm : Wd} {fs : List Fd} {k : Nat} (hk : k < fs.length) (h : NoneIn nm ((fs.take k).map (·.nm))) (hn : ¬ fs[k].nm = nm) : NoneIn nm ((fs.take (k + 1)).map (·.nm)) := by
 unfold NoneIn at *
 rw [← List.take_append_getElem hk, List.map_append, List.mem_append]
 rintro (c | c)
 · exact h c
 · exact hn (by rw [List.map_cons, List.map_nil, List.mem_singleton] at c; exact c.symm)
theorem some_in {nm : Wd} {fs : List Fd} {k i : Nat} (hk : k < i) (hi : i ≤ fs.length) (hn : (fs[k]'(by omega)).nm = nm) : nm ∈ (fs.take i).map (·.nm) := by
 rw [← hn]
 refine List.mem_map_of_mem ?_
 have hk' : k < (fs.take i).length := by rw [List.length_take]; omega
 have e : (fs.take i)[k] = fs[k]'(by omega) := List.getElem_take
 rw [← e]
 exact List.getElem_mem hk'
theorem rck_c (d : Dv) (pf pq : Option Addr) (nf cf nq cq : Nat) (w : World) (hf : d.fs.length = nf) (hq : d.rq.length = nq) (hfv : FldsV w (.slice pf nf cf) d.fs) (hi : DvI d) (hn : nameB d.nm = true) (hN : gdN d = true) : Calls Tryz.prog 12 #[dvV d (.slice pf nf cf) (.slice pq nq cq)] w (QA w (ckE d)) := by
 have nc : Hid (∀ x, Calls Tryz.prog 25 #[.string (txt d.nm)] x fun e w' => e = .returned (.bool (nameB d.nm)) ∧ Below x.heap.size x w') := fun x => same_b (rname_any (txt d.nm) x)
 have D0 : Hid (DevB (w.alloc (.cells #[.string (txt d.nm), .int .i64 d.st, .int .i64 d.es, .int .i64 d.mx, .int .i64 d.sz, .string (txt d.sm), .slice pf nf cf, .slice pq nq cq, .int .i64 d.po, .int .i64 d.ti, .int .i64 d.re, .int .i64 d.ag] 25)) w.heap.size d (.slice pf nf cf) (.slice pq nq cq)) := DevB.new hfv _
 have B0 : Hid (Below w.heap.size w (w.alloc (.cells #[.string (txt d.nm), .int .i64 d.st, .int .i64 d.es, .int .i64 d.mx, .int .i64 d.sz, .string (txt d.sm), .slice pf nf cf, .slice pq nq cq, .int .i64 d.po, .int .i64 d.ti, .int .i64 d.re, .int .i64 d.ag] 25))) := (Below.refl _ _).alloc (Nat.le_refl _) _
 rw [hn] at nc
 have oc : Hid (∀ x, Calls Tryz.prog 26 #[.string (txt d.sm), .slice none 0 0] x fun e w' => ∃ p n c, e = .returned (.tuple #[.slice p n c, .bool (isSum (txt d.sm))]) ∧ (isSum (txt d.sm) = true → n = sizeK (whichN (txt d.sm))) ∧ Below x.heap.size x w') := fun x => rof_any (txt d.sm) x
 obtain ⟨T, hT⟩ : ∃ T, ckE d = T := ⟨_, rfl⟩
 rw [hT]
 replace hT : Hid (ckE d = T) := hT
 obtain ⟨⟨i1, i2⟩, ⟨i3, i4⟩, ⟨i5, i6⟩, ⟨i7, i8⟩, ⟨i9, i10⟩, ⟨i11, i12⟩, ⟨i13, i14⟩, ⟨i15, i16⟩, ⟨i17, i18⟩, i19, i20⟩ := gdN_iff.1 hN
 rw [hq] at i17 i18
 rw [hf] at i19 i20
 replace hn : Hid (nameB d.nm = true) := hn
 replace hN : Hid (gdN d = true) := hN
 replace hi : Hid (DvI d) := hi
 replace hf : Hid (d.fs.length = nf) := hf
 clear hq hfv
 obtain ⟨S, hS⟩ : ∃ S, isSum (txt d.sm) = S := ⟨_, rfl⟩
 rw [hS] at oc
 replace hS : Hid (isSum (txt d.sm) = S) := hS
 go_enter Tryz.func12, Tryz.ntmps12
 go_wp2_with fail
 refine (nc.out _).mono ?_
 rintro e y1 ⟨rfl, hb⟩
 have D1 : Hid (DevB y1 w.heap.size d (.slice pf nf cf) (.slice pq nq cq)) := D0.out.below hb
 have B1 : Hid (Below w.heap.size w y1) := B0.out.trans (hb.mono B0.out.size)
 clear hb D0 B0 nc
 obtain ⟨_, z1, z2, z3, z4, z5, z6, z7, z8, z9, z10, z11⟩ := D1.out.cells
 go_wp2_with fail
 refine (oc.out _).mono ?_
 rintro e y2 ⟨pO, nO, cO, rfl, _, hb⟩
 have I2 : Hid (RcI w y2 d (.slice pf nf cf) (.slice pq nq cq)) := ⟨D1.out.below hb, B1.out.trans (hb.mono B1.out.size)⟩
 clear hb D1 B1 oc z1 z2 z3 z4 z5 z6 z7 z8 z9 z10 z11
 cases S
 · have fin : Hid (4 = T) := ck_4 hT.out hn.out hN.out hS.out
   clear hT hn hN hS hi hf
   go_wp2
   go_ret
   exact ⟨ret_int fin.out, I2.out.b⟩
 obtain ⟨_, z1, z2, z3, z4, _, z6, _, z8, z9, _, z11⟩ := I2.out.d.cells
 have hC := gdC_doc hN.out
 by_cases c1 : d.st = d.es
 · have fin : Hid (10 = T) := ck_10 hT.out hn.out hN.out hS.out (by rw [hC, decide_eq_true c1]; rfl)
   have b1 : (d.st == d.es) = true := beq_iff_eq.2 c1
   clear hT hn hN hS hi hf hC c1
   go_wp2
   go_ret
   exact ⟨ret_int fin.out, I2.out.b⟩
 have b1 : (d.st == d.es) = false := beq_eq_false_iff_ne.2 c1
 by_cases c2 : d.mx = 0
 · have fin : Hid (10 = T) := ck_10 hT.out hn.out hN.out hS.out (by rw [hC, decide_eq_true c2]; simp)
   have b2 : (d.mx == 0) = true := beq_iff_eq.2 c2
   clear hT hn hN hS hi hf hC c1 c2
   go_wp2
   go_ret
   exact ⟨ret_int fin.out, I2.out.b⟩
 have b2 : (d.mx == 0) = false := beq_eq_false_iff_ne.2 c2
 by_cases c3 : bits .xor .i64 d.es d.mx = d.st
 · have fin : Hid (10 = T) := ck_10 hT.out hn.out hN.out hS.out (by rw [hC, decide_eq_true (show xorI d.es d.mx = d.st from c3)]; simp)
   have b3 : (bits .xor .i64 d.es d.mx == d.st) = true := beq_iff_eq.2 c3
   clear hT hn hN hS hi hf hC c1 c2 c3
   go_wp2
   go_ret
   exact ⟨ret_int fin.out, I2.out.b⟩
 have b3 : (bits .xor .i64 d.es d.mx == d.st) = false := beq_eq_false_iff_ne.2 c3
 have hC' : Hid (gdC d = true) := by
  unfold Hid
  rw [hC, decide_eq_false c1, decide_eq_false c2, decide_eq_false (show ¬ xorI d.es d.mx = d.st from c3)]; rfl
 clear hC c1 c2 c3
 by_cases c4 : d.po ≤ d.ti
 · have fin : Hid (11 = T) := ck_11 hT.out hn.out hN.out hS.out hC'.out (by unfold gdT; rw [decide_eq_false (by omega)]; rfl)
   clear hT hn hN hS hi hf hC'
   go_wp2
   go_ret
   exact ⟨ret_int fin.out, I2.out.b⟩
 by_cases c5 : d.ag < d.po
 · have fin : Hid (11 = T) := ck_11 hT.out hn.out hN.out hS.out hC'.out (by unfold gdT; rw [decide_eq_false (by omega : ¬ d.po ≤ d.ag)]; simp)
   clear hT hn hN hS hi hf hC'
   go_wp2
   go_ret
   exact ⟨ret_int fin.out, I2.out.b⟩
 have I0 : Hid (FsI d.sz ((d.fs.take 0).map (·.nm)) (d.fs.drop 0) T) := ck_fs hT.out hn.out hN.out hS.out hC'.out (by unfold gdT; rw [decide_eq_true (by omega : d.ti < d.po), decide_eq_true (by omega : d.po ≤ d.ag)]; rfl)
 have hs1 : Hid (I64 d.sz) := ⟨by omega, by omega⟩
 clear hT hn hN hS hC'
 go_wp2
 clear z1 z2 z3 z4 z6 z8 z9 z11 b1 b2 b3 c4 c5 i1 i2 i3 i4 i5 i6 i9 i10 i11 i12 i13 i14 i15 i16 i17 i18 i19
 go_loopw [5] (fun vi wr => ∃ i : Nat, (i : Int) ≤ (nf : Int) ∧ vi = .int .i64 (i : Int) ∧ Hid (FsI d.sz ((d.fs.take i).map (·.nm)) (d.fs.drop i) T) ∧ Hid (RcI w wr d (.slice pf nf cf) (.slice pq nq cq))) (fun vi _ => nf - (intOf vi).toNat)
 case atStart => exact ⟨0, by omega, rfl, I0, I2⟩
 case round =>
  obtain ⟨i, hii, rfl, lf, I⟩ := hrel
  clear I0 I2
  obtain ⟨_, _, _, _, z4, _, z6, _⟩ := I.out.d.cells
  by_cases hlt : (i : Int) < (nf : Int)
  · have hil : i < d.fs.length := by have := hf.out; omega
    have fl := I.out.d.fl
    rcases fl with ⟨_, _, _, e⟩ | ⟨g, o, cap', e, _, hin, hg⟩
    · rw [e] at hil; cases hil
    · injection e with e1 e2 e3
      subst e1
      have lq := lf.out
      rw [List.drop_eq_getElem_cons hil] at lq
      have tk : d.fs.take (i + 1) = d.fs.take i ++ [d.fs[i]] := by rw [List.take_append_getElem]
      obtain ⟨f, hfi⟩ : ∃ f, d.fs[i] = f := ⟨_, rfl⟩
      obtain ⟨c0, c1, c2, c3, c4, c5, c6, c7, c8⟩ := hin.cells hil hfi
      have fi := hi.out.fs f (by rw [← hfi]; exact List.getElem_mem hil)
      rw [hfi] at lq tk
      replace lq : Hid (FsI d.sz ((d.fs.take i).map (·.nm)) (f :: d.fs.drop (i + 1)) T) := lq
      replace tk : Hid (d.fs.take (i + 1) = d.fs.take i ++ [f]) := tk
      have rf : Hid (∀ dr os, Calls Tryz.prog 27 #[.int .i64 d.sz, fdV f] (Sort.grow (redrawn wr dr) os) fun e w' => e = .returned (.int .i64 (fldE d.sz f)) ∧ Below (Sort.grow (redrawn wr dr) os).heap.size (Sort.grow (redrawn wr dr) os) w') := fun dr os => rfield_any d.sz f _ fi hs1.out (by omega)
      have k4 := fun dr os => cell_regrown z4 dr os
      have k6 := fun dr os => cell_regrown z6 dr os
      have k0 := fun dr os => cell_regrown c0 dr os
      have k1 := fun dr os => cell_regrown c1 dr os
      have k2 := fun dr os => cell_regrown c2 dr os
      have k3 := fun dr os => cell_regrown c3 dr os
      have k5 := fun dr os => cell_regrown c4 dr os
      have k7 := fun dr os => cell_regrown c5 dr os
      have k8 := fun dr os => cell_regrown c6 dr os
      have k9 := fun dr os => cell_regrown c7 dr os
      have k10 := fun dr os => cell_regrown c8 dr os
      obtain ⟨E, hE⟩ : ∃ E, fldE d.sz f = E := ⟨_, rfl⟩
      rw [hE] at rf
      replace hE : Hid (fldE d.sz f = E) := hE
      have hfi' : Hid (∃ h : i < d.fs.length, d.fs[i] = f) := ⟨hil, hfi⟩
      clear lf hin hfi e2 e3 hil fi c0 c1 c2 c3 c4 c5 c6 c7 c8
      obtain ⟨fm, pl, kd, wd, sn, sd, on, od, un⟩ := f
      simp only at k0 k1 k2 k3 k5 k7 k8 k9 k10
      go_wp2_with fail
      refine wp_region_quiet_below (by kernel_rfl) (by kernel_rfl) ?_
      repeat (go_big_quiet_step (first
       | (go_at_call 27; with_reducible exact Calls.regrown_of (rf.out _ _))))
      refine wpQuiet_nil ?_
      intro _ hw'
      obtain ⟨⟨dq, osq⟩, hw''⟩ := hw'
      subst hw''
      replace I : Hid (RcI w (Sort.grow (redrawn wr dq) osq) d (.slice (some ⟨g, o, none⟩) nf cf) (.slice pq nq cq)) := I.out.below (below_regrown wr dq osq)
      clear k0 k1 k2 k3 k4 k5 k6 k7 k8 k9 k10 rf z4 z6 hg
      generalize Sort.grow (redrawn wr dq) osq = wq at *
      by_cases h0 : E = 0
      · subst h0
        have N0 : Hid (NoneIn fm ((d.fs.take 0).map (·.nm))) := by unfold Hid NoneIn; simp
        go_wp2_with fail
        go_loopw [7] (fun vk wk => ∃ k : Nat, (k : Int) ≤ (i : Int) ∧ vk = .int .i64 (k : Int) ∧ Hid (NoneIn fm ((d.fs.take k).map (·.nm))) ∧ Hid (RcI w wk d (.slice (some ⟨g, o, none⟩) nf cf) (.slice pq nq cq))) (fun vk _ => i - (intOf vk).toNat)
        case atStart => exact ⟨0, by omega, rfl, N0, I⟩
        case round =>
         obtain ⟨k, hk, rfl, ln, J⟩ := hrel
         clear N0 I
         by_cases hki : (k : Int) < (i : Int)
         · obtain ⟨_, _, _, _, _, _, y6, _⟩ := J.out.d.cells
           obtain ⟨hil, hfi⟩ := hfi'.out
           have hkl : k < d.fs.length := by omega
           rcases J.out.d.fl with ⟨_, _, _, e⟩ | ⟨g', o', cap', e, _, hin, _⟩
           · rw [e] at hkl; cases hkl
           · injection e with e1 e2 e3
             injection e1 with e1
             injection e1 with e1 e4 e5
             subst e1
             subst e4
             obtain ⟨d0, _⟩ := hin.cells hil hfi
             obtain ⟨x0, _⟩ := hin.cells hkl rfl
             simp only at d0
             have kA := fun dr os => cell_regrown y6 dr os
             have kB := fun dr os => cell_regrown d0 dr os
             have kC := fun dr os => cell_regrown x0 dr os
             have heq := txtw_eqL (d.fs[k]).nm fm
             have hyes : Hid (d.fs[k].nm = fm → 8 = T) := fun h => lq.out.twice hE.out (some_in (by omega) (by omega) h)
             have hno : Hid (¬ d.fs[k].nm = fm → NoneIn fm ((d.fs.take (k + 1)).map (·.nm))) := fun h => none_next hkl ln.out h
             have hki2 : (k : Int) < (nf : Int) := by omega
             clear hin e2 e3 ln
             cases hd : decide (d.fs[k].nm = fm)
             · rw [hd] at heq
               have nx := hno.out (of_decide_eq_false hd)
               replace nx : Hid (NoneIn fm ((d.fs.take (k + 1)).map (·.nm))) := nx
               clear hyes hno hd d0 x0 y6
               generalize txt d.fs[k].nm = S1 at *
               generalize txt fm = S2 at *
               go_wp2_with fail
               refine wp_region_quiet_below (by kernel_rfl) (by kernel_rfl) ?_
               repeat (go_big_quiet_step (fail))
               refine wpQuiet_nil ?_
               intro _ hw'
               obtain ⟨⟨dq, osq⟩, hw''⟩ := hw'
               subst hw''
               have J2 : Hid (RcI w (Sort.grow (redrawn wr dq) osq) d (.slice (some ⟨g, o, none⟩) nf cf) (.slice pq nq cq)) := J.out.below (below_regrown _ dq osq)
               clear kA kB kC J
               go_wp2
               exact ⟨⟨k + 1, by omega, by simp, nx, J2⟩, by simp [intOf]; omega⟩
             · rw [hd] at heq
               have fin : Hid (8 = T) := hyes.out (of_decide_eq_true hd)
               clear hyes hno hd d0 x0 y6
               generalize txt d.fs[k].nm = S1 at *
               generalize txt fm = S2 at *
               go_wp2_with fail
               refine wp_region_quiet_below (by kernel_rfl) (by kernel_rfl) ?_
               repeat (go_big_quiet_step (fail))
               refine wpQuiet_nil ?_
               intro _ hw'
               obtain ⟨⟨dq, osq⟩, hw''⟩ := hw'
               subst hw''
               have J2 : Hid (Below w.heap.size w (Sort.grow (redrawn wr dq) osq)) := J.out.b.trans ((below_regrown _ dq osq).mono J.out.b.size)
               clear kA kB kC J
               go_wp2
               go_ret
               exact ⟨ret_int fin.out, J2.out⟩
         · obtain rfl : k = i := by omega
           have nx : Hid (FsI d.sz ((d.fs.take (k + 1)).map (·.nm)) (d.fs.drop (k + 1)) T) := by
            have k1 := lq.out.go hE.out ln.out
            rw [tk.out, List.map_append]
            exact k1
           clear lq tk hE ln hfi'
           go_wp2
           exact ⟨⟨k + 1, by omega, by simp, nx, J⟩, by simp [intOf]; omega⟩
      · have hne : (E != 0) = true := by simpa using h0
        have fin : Hid (E = T) := by
         have k1 := lq.out.err (by rw [hE.out]; exact h0)
         rw [hE.out] at k1
         exact k1
        clear lq tk hE hfi'
        go_wp2
        go_ret
        exact ⟨ret_int fin.out, I.out.b⟩
  · obtain rfl : i = nf := by omega
    have fin : Hid (0 = T) := by
     have lq := lf.out
     rw [List.drop_of_length_le (by have := hf.out; omega)] at lq
     exact lq.fin
    clear lf
    go_wp2
    go_ret
    exact ⟨ret_int fin.out, I.out.b⟩
theorem rcheck_any (d : Dv) (pf pq : Option Addr) (cf cq : Nat) (w : World) (hi : DvI d) (hfv : FldsV w (.slice pf d.fs.length cf) d.fs) : Calls Tryz.prog 12 #[dvV d (.slice pf d.fs.length cf) (.slice pq d.rq.length cq)] w (QA w (ckE d)) := by
 by_cases hn : nameB d.nm = true
 · by_cases hN : gdN d = true
   · exact rck_c d pf pq _ cf _ cq w rfl rfl hfv hi hn hN
   · rw [← ck_6 (d := d) rfl (fun h => hN h.2)]
     have hx := fun h => hN (gdN_iff.2 h)
     by_cases h1 : d.st < 0 ∨ 255 < d.st ∨ d.es < 0 ∨ 255 < d.es ∨ d.mx < 0 ∨ 255 < d.mx ∨ d.sz < 1 ∨ 32 < d.sz ∨ 8 < (d.fs.length : Int) ∨ (d.rq.length : Int) < 1 ∨ 16 < (d.rq.length : Int)
     · exact rck_a d pf pq _ cf _ cq w rfl rfl hfv (.inr h1)
     · refine rck_b d pf pq _ cf _ cq w rfl rfl hfv hn (by omega) ?_
       clear hN
       by_cases h2 : d.po < 1 ∨ 1000 < d.po ∨ d.ti < 1 ∨ 1000 < d.ti ∨ d.ag < 1 ∨ 1000 < d.ag ∨ d.re < 0 ∨ 10 < d.re
       · exact h2
       · exact absurd (by omega) hx
 · rw [← ck_6 (d := d) rfl (fun h => hn h.1)]
   exact rck_a d pf pq _ cf _ cq w rfl rfl hfv (.inl hn)
def ShAwC (w : World) : Prop := ∀ x, Below w.heap.size w x → Calls Tryz.prog 8 #[] x fun e y => e = .returned (.bool true) ∧ Below x.heap.size x y
theorem shAwC {w : World} (T7 : Tab7 w) : ShAwC w := fun x hx => awake10 x (T7.below hx)
def ShRdC (w : World) (s : ByteArray) (T : Dv × Int × Nat) : Prop := ∀ x, Below w.heap.size w x → Calls Tryz.prog 13 #[.string s] x (ReadQ x T)
end Go.Proofs.YthabffjgdhfbmaaGreatDoor
