/-
  Texts that belong together, one behind the other: DsRR0, RegProps4, DsBk0, BitMath, UnTab, CrcMath, CrcRefA, CrcKind, CrcRefC. Conditions: as each says.
-/
import Derived.Below
import Derived.ChangeOld
import Derived.Deep.AppendLies
import Derived.Deep.CutRange
import Derived.Deep.RegionHeld3
import Derived.Deep.SlicePairs
import Derived.Deep.Strs
import Derived.Handy
import Derived.Laws.OwnMore
import Derived.Laws.Tables
import Derived.Lib.QuietBelowIn
import Derived.Lib.SliceRun
import Derived.Maps.AppendAt
import Derived.OpenShut
import Derived.OwnWalk
import Derived.ProofKit
import Derived.RangeFuncBox
import Derived.RangeFuncCalls
import Derived.RowKit
import Derived.ShutString
import Derived.Sort.BigQuietIn
import Derived.Test.YthabffjgdhfbmaaGreatDoorProg
import Derived.WalkKit
import Derived.WalkLawsBesides
import Derived.WalkSpells
import Derived.Test.YthabffjgdhfbmaaGreatDoorJr1
import Derived.Test.YthabffjgdhfbmaaGreatDoorJr2
import Derived.Test.YthabffjgdhfbmaaGreatDoorJr3
import Derived.Test.YthabffjgdhfbmaaGreatDoorJr4
import Derived.Test.YthabffjgdhfbmaaGreatDoorJr5
import Derived.Test.YthabffjgdhfbmaaGreatDoorJr6
import Derived.Test.YthabffjgdhfbmaaGreatDoorJr7
import Derived.Test.YthabffjgdhfbmaaGreatDoorJr8
import Derived.Test.YthabffjgdhfbmaaGreatDoorJr9
import Derived.Test.YthabffjgdhfbmaaGreatDoorJr10
set_option maxRecDepth 100000
set_option maxHeartbeats 32000000
set_option linter.unusedVariables false
namespace Go.Proofs.YthabffjgdhfbmaaGreatDoor
open Go.RowKit
theorem own_strs {x : World} {N : Nat} {e : TypeId} {v : Value} {ws : List Wd} (h : x.ownsRow N e 1 v ws.length (strV ws)) : StrsAt x v ws := by
 rcases own_slice h with ⟨e1, hn⟩ | ⟨g, cap, e1, _, hg⟩
 · exact .inl ⟨e1, List.length_eq_zero_iff.1 hn⟩
 · refine .inr ⟨g, 0, cap, e1, fun j hj => ?_, hg⟩
   have k := h
   rw [e1] at k
   rw [Nat.zero_add, World.ownsRow.cellAt k j (by omega), List.getElem?_map, List.getElem?_eq_getElem hj]
   rfl
theorem FldsAt.lt {x : World} {v : Value} {fs : List Fd} (h : FldsAt x v fs) : ∀ g, v.ownBlock = some g → g < x.heap.size := by
 intro g hg
 rcases h with ⟨rfl, _⟩ | ⟨g', o, cap, rfl, _, _, h3⟩
 · cases hg
 · cases hg; exact h3
theorem BytesAt.lt {x : World} {v : Value} {bs : List Nat} (h : BytesAt x v bs) : ∀ g, v.ownBlock = some g → g < x.heap.size := by
 intro g hg
 rcases h with ⟨rfl, _⟩ | ⟨g', o, cap, rfl, _, h3⟩
 · cases hg
 · cases hg; exact h3
theorem FldsAt.on {x y : World} {v : Value} {fs : List Fd} (h : FldsAt x v fs) (hk : ∀ g, v.ownBlock = some g → y.heap[g]? = x.heap[g]?) : FldsAt y v fs := by
 rcases h with h | ⟨g, o, cap, rfl, h0, h2, h3⟩
 · exact .inl h
 · have k := hk g rfl
   refine .inr ⟨g, o, cap, rfl, h0, fun j hj i u hu => (World.cell?_of_block (a := ⟨g, o + 9 * j + i, none⟩) k).trans (h2 j hj i u hu), ?_⟩
   rw [Array.getElem?_eq_getElem h3] at k
   exact (Array.getElem?_eq_some_iff.1 k).1
theorem BytesAt.on {x y : World} {v : Value} {bs : List Nat} (h : BytesAt x v bs) (hk : ∀ g, v.ownBlock = some g → y.heap[g]? = x.heap[g]?) : BytesAt y v bs := by
 rcases h with h | ⟨g, o, cap, rfl, h2, h3⟩
 · exact .inl h
 · have k := hk g rfl
   refine .inr ⟨g, o, cap, rfl, fun j hj => (World.cell?_of_block (a := ⟨g, o + j, none⟩) k).trans (h2 j hj), ?_⟩
   rw [Array.getElem?_eq_getElem h3] at k
   exact (Array.getElem?_eq_some_iff.1 k).1
structure RrSt (w x : World) (d : Dv) (fv qv vs : Value) (seen : List Wd) : Prop where
 rc : x.heap[w.heap.size]? = some (.cells dz 25 (0, 0))
 dc : x.heap[w.heap.size + 1]? = some (.cells (dvA d fv qv) 25 (0, 0))
 so : x.ownsRow (w.heap.size + 2) 9 1 vs seen.length (strV seen)
 fl : FldsAt x fv d.fs
 rq : BytesAt x qv d.rq
 fn : ∀ g, fv.ownBlock = some g → w.heap.size + 2 ≤ g ∧ some g ≠ vs.ownBlock
 qn : ∀ g, qv.ownBlock = some g → w.heap.size + 2 ≤ g ∧ some g ≠ vs.ownBlock
 sn : SeenOk d seen
 b : Below w.heap.size w x
theorem RrSt.first (w : World) : RrSt w ((w.alloc (.cells dz 25)).alloc (.cells dz 25)) dv0 nilS nilS nilS [] := by
 refine ⟨map_under _ _ _ _ (World.alloc_heap_new w _), ?_, World.ownsRow_nil _ _ _ _, .inl ⟨rfl, rfl⟩, .inl ⟨rfl, rfl⟩, fun g h => (by cases h), fun g h => (by cases h), SeenOk.first, ?_⟩
 · have k := World.alloc_heap_new (w.alloc (.cells dz 25)) (.cells dz 25)
   rwa [World.size_alloc] at k
 · exact ((Below.refl _ _).alloc (Nat.le_refl _) _).alloc (by rw [World.size_alloc]; omega) _
structure LnG where
 b : Nat
 d : Dv
 v1 : Value
 v2 : Value
def GoodD (w0 : World) (d : Dv) (fv qv : Value) (seen ws : List Wd) (γ : LnG) (z : World) : Prop := ∀ d', stepM d seen ws = .ok d' → γ.d = d' ∧ FldsAt z γ.v1 d'.fs ∧ BytesAt z γ.v2 d'.rq ∧ NewB w0 fv γ.v1 ∧ NewB w0 qv γ.v2
theorem NewB.up {w z : World} {v u : Value} (h : NewB z v u) (hs : w.heap.size ≤ z.heap.size) : NewB w v u := h.imp id fun h g hg => Nat.le_trans hs (h g hg)
theorem NewB.ne {w : World} {v u : Value} (h : NewB w v u) {b : Nat} (hb : b < w.heap.size) (hv : some b ≠ v.ownBlock) : some b ≠ u.ownBlock := by
 rcases h with h | h
 · rw [h]; exact hv
 · intro e; have := h b e.symm; omega
def isSl (v : Value) : Prop := ∃ p n c, v = .slice p n c
structure LnW (w0 : World) (d : Dv) (fv qv : Value) (seen ws : List Wd) (γ : LnG) (x : Array Bool) (z : World) : Prop where
 low : Below w0.heap.size w0 z
 f1 : isSl γ.v1
 f2 : isSl γ.v2
 o8 : x.getD 8 false = true → x.getD 7 false = true
 o9 : x.getD 9 false = true → x.getD 7 false = true
 o10 : x.getD 10 false = true → x.getD 7 false = true
 o12 : x.getD 12 false = true → x.getD 7 false = true
 o13 : x.getD 13 false = true → x.getD 7 false = true
 o11 : x.getD 12 false = true → x.getD 11 false = true
 bl : x.getD 11 false = true → w0.heap.size ≤ γ.b ∧ z.heap[γ.b]? = some (.cells (if x.getD 12 false = true then dvA γ.d γ.v1 γ.v2 else dz) 25 (0, 0))
 gd : x.getD 7 false = true → GoodD w0 d fv qv seen ws γ z
 ne : x.getD 7 false = true → x.getD 11 false = true → ∀ d', stepM d seen ws = .ok d' → some γ.b ≠ γ.v1.ownBlock ∧ some γ.b ≠ γ.v2.ownBlock
theorem LnW.other {w0 : World} {d : Dv} {fv qv : Value} {seen ws : List Wd} {γ : LnG} {x : Array Bool} {z : World} (h : LnW w0 d fv qv seen ws γ x z) {i : Nat} (h7 : i ≠ 7) (h11 : i ≠ 11) (h12 : i ≠ 12) (hd : x.getD 7 false = true ∨ (i ≠ 8 ∧ i ≠ 9 ∧ i ≠ 10 ∧ i ≠ 13)) : LnW w0 d fv qv seen ws γ (x.setIfInBounds i true) z := by
 obtain ⟨low, f1, f2, o8, o9, o10, o12, o13, o11, bl, gd, ne⟩ := h
 have e7 : (x.setIfInBounds i true).getD 7 false = x.getD 7 false := getD_set_ne false h7
 have e11 : (x.setIfInBounds i true).getD 11 false = x.getD 11 false := getD_set_ne false h11
 have e12 : (x.setIfInBounds i true).getD 12 false = x.getD 12 false := getD_set_ne false h12
 have q : ∀ j, (i ≠ j ∨ x.getD 7 false = true) → (x.getD j false = true → x.getD 7 false = true) → (x.setIfInBounds i true).getD j false = true → x.getD 7 false = true := fun j hj ho hs => by
  rcases hj with hj | hj
  · rw [getD_set_ne false hj] at hs; exact ho hs
  · exact hj
 refine ⟨low, f1, f2, ?_, ?_, ?_, ?_, ?_, ?_, ?_, ?_, ?_⟩
 · rw [e7]; exact q 8 (hd.elim .inr fun h => .inl h.1) o8
 · rw [e7]; exact q 9 (hd.elim .inr fun h => .inl h.2.1) o9
 · rw [e7]; exact q 10 (hd.elim .inr fun h => .inl h.2.2.1) o10
 · rw [e7, e12]; exact o12
 · rw [e7]; exact q 13 (hd.elim .inr fun h => .inl h.2.2.2) o13
 · rw [e11, e12]; exact o11
 · rw [e11, e12]; exact bl
 · rw [e7]; exact gd
 · rw [e7, e11]; exact ne
theorem LnW.call {w0 : World} {d : Dv} {fv qv : Value} {seen ws : List Wd} {γ : LnG} {x : Array Bool} {z z' : World} (h : LnW w0 d fv qv seen ws γ x z) (h7 : x.getD 7 false = false) (h14 : x.size = 14) {d2 : Dv} {p1 p2 : Option Addr} {n1 c1 n2 c2 : Nat} (hb : Below z.heap.size z z') (hf0 : ∀ g, fv.ownBlock = some g → g < w0.heap.size) (hq0 : ∀ g, qv.ownBlock = some g → g < w0.heap.size)
 (hg : ∀ d', stepM d seen ws = .ok d' → d2 = d' ∧ FldsAt z' (.slice p1 n1 c1) d'.fs ∧ BytesAt z' (.slice p2 n2 c2) d'.rq ∧ NewB z fv (.slice p1 n1 c1) ∧ NewB z qv (.slice p2 n2 c2)) : LnW w0 d fv qv seen ws ⟨γ.b, d2, .slice p1 n1 c1, .slice p2 n2 c2⟩ (x.setIfInBounds 7 true) z' := by
 obtain ⟨low, f1, f2, o8, o9, o10, o12, o13, o11, bl, gd, ne⟩ := h
 have s7 : (x.setIfInBounds 7 true).getD 7 false = true := getD_set_at (by rw [h14]; decide)
 have e11 : (x.setIfInBounds 7 true).getD 11 false = x.getD 11 false := getD_set_ne false (by decide)
 have e12 : (x.setIfInBounds 7 true).getD 12 false = x.getD 12 false := getD_set_ne false (by decide)
 have x12 : x.getD 12 false = false := by
  cases e : x.getD 12 false
  · rfl
  · rw [o12 e] at h7; cases h7
 refine ⟨low.trans (hb.mono low.size), ⟨_, _, _, rfl⟩, ⟨_, _, _, rfl⟩, fun _ => s7, fun _ => s7, fun _ => s7, fun _ => s7, fun _ => s7, ?_, ?_, fun _ => ?_, fun _ => ?_⟩
 · rw [e11, e12]; exact o11
 · rw [e11, e12, x12]
   intro k
   have hbl := bl k
   rw [x12] at hbl
   exact ⟨hbl.1, (hb.block _ (Array.getElem?_eq_some_iff.1 hbl.2).1).trans hbl.2⟩
 · intro d' hd
   obtain ⟨k1, k2, k3, k4, k5⟩ := hg d' hd
   exact ⟨k1, k2, k3, k4.up low.size, k5.up low.size⟩
 · rw [e11]
   intro k d' hd
   obtain ⟨k1, k2, k3, k4, k5⟩ := hg d' hd
   have hbl := bl k
   have hlt := (Array.getElem?_eq_some_iff.1 hbl.2).1
   exact ⟨k4.ne hlt (fun e => by have : γ.b < w0.heap.size := hf0 _ e.symm; have h1 := hbl.1; omega), k5.ne hlt (fun e => by have : γ.b < w0.heap.size := hq0 _ e.symm; have h1 := hbl.1; omega)⟩
theorem LnW.alloc {w0 : World} {d : Dv} {fv qv : Value} {seen ws : List Wd} {γ : LnG} {x : Array Bool} {z : World} (h : LnW w0 d fv qv seen ws γ x z) (h11 : x.getD 11 false = false) (h14 : x.size = 14) : LnW w0 d fv qv seen ws ⟨z.heap.size, γ.d, γ.v1, γ.v2⟩ (x.setIfInBounds 11 true) (z.alloc (.cells dz 25)) := by
 obtain ⟨low, f1, f2, o8, o9, o10, o12, o13, o11, bl, gd, ne⟩ := h
 have e7 : (x.setIfInBounds 11 true).getD 7 false = x.getD 7 false := getD_set_ne false (by decide)
 have s11 : (x.setIfInBounds 11 true).getD 11 false = true := getD_set_at (by rw [h14]; decide)
 have e12 : (x.setIfInBounds 11 true).getD 12 false = x.getD 12 false := getD_set_ne false (by decide)
 have x12 : x.getD 12 false = false := by
  cases e : x.getD 12 false
  · rfl
  · rw [o11 e] at h11; cases h11
 have ba : Below z.heap.size z (z.alloc (.cells dz 25)) := (Below.refl _ _).alloc (Nat.le_refl _) _
 have gd' : x.getD 7 false = true → GoodD w0 d fv qv seen ws γ (z.alloc (.cells dz 25)) := fun k d' hd => by
  obtain ⟨k1, k2, k3, k4⟩ := gd k d' hd
  exact ⟨k1, k2.below ba, k3.below ba, k4⟩
 refine ⟨low.alloc low.size _, f1, f2, ?_, ?_, ?_, ?_, ?_, fun _ => s11, fun _ => ⟨low.size, ?_⟩, ?_, ?_⟩
 · rw [e7, getD_set_ne false (by decide)]; exact o8
 · rw [e7, getD_set_ne false (by decide)]; exact o9
 · rw [e7, getD_set_ne false (by decide)]; exact o10
 · rw [e7, e12]; exact o12
 · rw [e7, getD_set_ne false (by decide)]; exact o13
 · rw [e12, x12]; exact World.alloc_heap_new z _
 · rw [e7]; exact fun k => gd' k
 · rw [e7]
   intro k _ d' hd
   obtain ⟨_, k2, k3, _⟩ := gd k d' hd
   exact ⟨fun e => Nat.lt_irrefl _ (by have : z.heap.size < z.heap.size := k2.lt _ e.symm; exact this), fun e => Nat.lt_irrefl _ (by have : z.heap.size < z.heap.size := k3.lt _ e.symm; exact this)⟩
theorem LnW.store {w0 : World} {d : Dv} {fv qv : Value} {seen ws : List Wd} {γ : LnG} {x : Array Bool} {z : World} (h : LnW w0 d fv qv seen ws γ x z) (h7 : x.getD 7 false = true) (h11 : x.getD 11 false = true) (h12 : x.getD 12 false = false) (h14 : x.size = 14) :
 LnW w0 d fv qv seen ws γ (x.setIfInBounds 12 true) (put12 z γ.b (.string (txt γ.d.nm)) (.int .i64 γ.d.st) (.int .i64 γ.d.es) (.int .i64 γ.d.mx) (.int .i64 γ.d.sz) (.string (txt γ.d.sm)) γ.v1 γ.v2 (.int .i64 γ.d.po) (.int .i64 γ.d.ti) (.int .i64 γ.d.re) (.int .i64 γ.d.ag)) := by
 obtain ⟨low, f1, f2, o8, o9, o10, o12, o13, o11, bl, gd, ne⟩ := h
 have e7 : (x.setIfInBounds 12 true).getD 7 false = x.getD 7 false := getD_set_ne false (by decide)
 have e11 : (x.setIfInBounds 12 true).getD 11 false = x.getD 11 false := getD_set_ne false (by decide)
 have s12 : (x.setIfInBounds 12 true).getD 12 false = true := getD_set_at (by rw [h14]; decide)
 have hbl := bl h11
 rw [h12] at hbl
 have off : ∀ k, k ≠ γ.b → (put12 z γ.b (.string (txt γ.d.nm)) (.int .i64 γ.d.st) (.int .i64 γ.d.es) (.int .i64 γ.d.mx) (.int .i64 γ.d.sz) (.string (txt γ.d.sm)) γ.v1 γ.v2 (.int .i64 γ.d.po) (.int .i64 γ.d.ti) (.int .i64 γ.d.re) (.int .i64 γ.d.ag)).heap[k]? = z.heap[k]? := fun k hk => put12_off hk _ _ _ _ _ _ _ _ _ _ _ _
 refine ⟨put12_below low hbl.1 _ _ _ _ _ _ _ _ _ _ _ _, f1, f2, ?_, ?_, ?_, fun _ => e7.trans h7, ?_, fun _ => e11.trans h11, fun _ => ⟨hbl.1, ?_⟩, fun _ => ?_, ?_⟩
 · rw [e7, getD_set_ne false (by decide)]; exact o8
 · rw [e7, getD_set_ne false (by decide)]; exact o9
 · rw [e7, getD_set_ne false (by decide)]; exact o10
 · rw [e7, getD_set_ne false (by decide)]; exact o13
 · rw [s12, if_pos rfl]; exact put12_at hbl.2 _ _ _ _ _ _ _ _ _ _ _ _
 · intro d' hd
   obtain ⟨k1, k2, k3, k4⟩ := gd h7 d' hd
   obtain ⟨n1, n2⟩ := ne h7 h11 d' hd
   exact ⟨k1, k2.on fun g hg => off g (fun e => n1 (by rw [← e]; exact hg.symm)), k3.on fun g hg => off g (fun e => n2 (by rw [← e]; exact hg.symm)), k4⟩
 · rw [e7, e11]; exact ne
def lineV (D gr k lk : Nat) (len cap : Nat) (dv vw vs : Value) (er : Int) (γ : LnG) (i : Nat) : Value :=
 (#[dv, .slice (some ⟨gr, lk, none⟩) len cap, .int .i64 (k : Int), .pointer (some ⟨gr, lk + k * 2, none⟩), .pointer (some ⟨gr, lk + k * 2 + 1, none⟩), vw, vs,
  .tuple #[dvV γ.d γ.v1 γ.v2, .int .i64 er], .tuple #[dvV γ.d γ.v1 γ.v2, .int .i64 er], dvV γ.d γ.v1 γ.v2, .int .i64 er, .pointer (some ⟨γ.b, 0, none⟩), undef, .int .i64 er] : Array Value).getD i undef
def LnP (D gr k lk : Nat) (len cap : Nat) (dv vw vs : Value) (er : Int) (γ : LnG) (_x : Array Bool) (i : Nat) (v : Value) (_z : World) : Prop := v = lineV D gr k lk len cap dv vw vs er γ i
theorem getD_q {x : Array Bool} {j : Nat} (h : x[j]?.getD false = true) : x.getD j false = true := by rw [Array.getD_eq_getD_getElem?]; exact h
theorem lineV_call {D gr k lk len cap : Nat} {dv vw vs : Value} {er : Int} {γ γ' : LnG} (hb : γ'.b = γ.b) {j : Nat} (h : j ≠ 7 ∧ j ≠ 8 ∧ j ≠ 9 ∧ j ≠ 10 ∧ j ≠ 13) : lineV D gr k lk len cap dv vw vs er γ j = lineV D gr k lk len cap dv vw vs er γ' j := by
 obtain ⟨h7, h8, h9, h10, h13⟩ := h
 unfold lineV
 rw [hb]
 match j, h7, h8, h9, h10, h13 with
 | 0, _, _, _, _, _ => rfl
 | 1, _, _, _, _, _ => rfl
 | 2, _, _, _, _, _ => rfl
 | 3, _, _, _, _, _ => rfl
 | 4, _, _, _, _, _ => rfl
 | 5, _, _, _, _, _ => rfl
 | 6, _, _, _, _, _ => rfl
 | 7, h, _, _, _, _ => exact absurd rfl h
 | 8, _, h, _, _, _ => exact absurd rfl h
 | 9, _, _, h, _, _ => exact absurd rfl h
 | 10, _, _, _, h, _ => exact absurd rfl h
 | 11, _, _, _, _, _ => rfl
 | 12, _, _, _, _, _ => rfl
 | 13, _, _, _, _, h => exact absurd rfl h
 | (n + 14), _, _, _, _, _ => rfl
theorem lineV_alloc {D gr k lk len cap : Nat} {dv vw vs : Value} {er : Int} {γ : LnG} {b : Nat} {j : Nat} (h : j ≠ 11) : lineV D gr k lk len cap dv vw vs er γ j = lineV D gr k lk len cap dv vw vs er ⟨b, γ.d, γ.v1, γ.v2⟩ j := by
 unfold lineV
 match j, h with
 | 0, _ => rfl
 | 1, _ => rfl
 | 2, _ => rfl
 | 3, _ => rfl
 | 4, _ => rfl
 | 5, _ => rfl
 | 6, _ => rfl
 | 7, _ => rfl
 | 8, _ => rfl
 | 9, _ => rfl
 | 10, _ => rfl
 | 11, h => exact absurd rfl h
 | 12, _ => rfl
 | 13, _ => rfl
 | (n + 14), _ => rfl
theorem RrSt.next {w wr z y : World} {d d' : Dv} {fv qv vs v' : Value} {seen ws : List Wd} {γ : LnG} {f : Wd} {o : Obj} (h : RrSt w wr d fv qv vs seen) (hz : Below wr.heap.size wr z) (hs : stepM d seen ws = .ok d') (hg : GoodD wr d fv qv seen ws γ z) (hf : ws.headD [] = f)
 (ho : y.ownsRow (w.heap.size + 2) 9 1 v' (seen.length + 1) (strV seen ++ [.string (txt f)]))
 (hgr : ((put12 z (w.heap.size + 1) (.string (txt d'.nm)) (.int .i64 d'.st) (.int .i64 d'.es) (.int .i64 d'.mx) (.int .i64 d'.sz) (.string (txt d'.sm)) γ.v1 γ.v2 (.int .i64 d'.po) (.int .i64 d'.ti) (.int .i64 d'.re) (.int .i64 d'.ag)).alloc o).grownBy y vs.ownBlock)
 (hv : v'.ownBlock = vs.ownBlock ∨ v'.ownBlock = some ((put12 z (w.heap.size + 1) (.string (txt d'.nm)) (.int .i64 d'.st) (.int .i64 d'.es) (.int .i64 d'.mx) (.int .i64 d'.sz) (.string (txt d'.sm)) γ.v1 γ.v2 (.int .i64 d'.po) (.int .i64 d'.ti) (.int .i64 d'.re) (.int .i64 d'.ag)).alloc o).heap.size) :
 RrSt w y d' γ.v1 γ.v2 v' (seen ++ [f]) := by
 obtain ⟨rfl, g1, g2, g3, g4⟩ := hg d' hs
 have off : ∀ k, k ≠ w.heap.size + 1 → (put12 z (w.heap.size + 1) (.string (txt γ.d.nm)) (.int .i64 γ.d.st) (.int .i64 γ.d.es) (.int .i64 γ.d.mx) (.int .i64 γ.d.sz) (.string (txt γ.d.sm)) γ.v1 γ.v2 (.int .i64 γ.d.po) (.int .i64 γ.d.ti) (.int .i64 γ.d.re) (.int .i64 γ.d.ag)).heap[k]? = z.heap[k]? := fun k hk => put12_off hk _ _ _ _ _ _ _ _ _ _ _ _
 have dcz : z.heap[w.heap.size + 1]? = some (.cells (dvA d fv qv) 25 (0, 0)) := (hz.block _ (Array.getElem?_eq_some_iff.1 h.dc).1).trans h.dc
 have atD := put12_at dcz (.string (txt γ.d.nm)) (.int .i64 γ.d.st) (.int .i64 γ.d.es) (.int .i64 γ.d.mx) (.int .i64 γ.d.sz) (.string (txt γ.d.sm)) γ.v1 γ.v2 (.int .i64 γ.d.po) (.int .i64 γ.d.ti) (.int .i64 γ.d.re) (.int .i64 γ.d.ag)
 have lowD : Below w.heap.size w (put12 z (w.heap.size + 1) (.string (txt γ.d.nm)) (.int .i64 γ.d.st) (.int .i64 γ.d.es) (.int .i64 γ.d.mx) (.int .i64 γ.d.sz) (.string (txt γ.d.sm)) γ.v1 γ.v2 (.int .i64 γ.d.po) (.int .i64 γ.d.ti) (.int .i64 γ.d.re) (.int .i64 γ.d.ag)) := put12_below (h.b.trans (hz.mono h.b.size)) (by omega) _ _ _ _ _ _ _ _ _ _ _ _
 have szD : (put12 z (w.heap.size + 1) (.string (txt γ.d.nm)) (.int .i64 γ.d.st) (.int .i64 γ.d.es) (.int .i64 γ.d.mx) (.int .i64 γ.d.sz) (.string (txt γ.d.sm)) γ.v1 γ.v2 (.int .i64 γ.d.po) (.int .i64 γ.d.ti) (.int .i64 γ.d.re) (.int .i64 γ.d.ag)).heap.size = z.heap.size := by unfold put12; simp only [World.size_setCell]
 generalize put12 z (w.heap.size + 1) (.string (txt γ.d.nm)) (.int .i64 γ.d.st) (.int .i64 γ.d.es) (.int .i64 γ.d.mx) (.int .i64 γ.d.sz) (.string (txt γ.d.sm)) γ.v1 γ.v2 (.int .i64 γ.d.po) (.int .i64 γ.d.ti) (.int .i64 γ.d.re) (.int .i64 γ.d.ag) = zD at *
 have lw := World.ownsRow.lt h.so
 have Dl : w.heap.size + 1 < wr.heap.size := (Array.getElem?_eq_some_iff.1 h.dc).1
 have zl := hz.size
 have n1 : ∀ g, γ.v1.ownBlock = some g → w.heap.size + 2 ≤ g ∧ some g ≠ vs.ownBlock := fun g hg => by
  rcases g3 with e | e
  · exact h.fn g (by rw [← e]; exact hg)
  · have k := e g hg
    exact ⟨by omega, fun c => by have := (lw g c.symm).2; omega⟩
 have n2 : ∀ g, γ.v2.ownBlock = some g → w.heap.size + 2 ≤ g ∧ some g ≠ vs.ownBlock := fun g hg => by
  rcases g4 with e | e
  · exact h.qn g (by rw [← e]; exact hg)
  · have k := e g hg
    exact ⟨by omega, fun c => by have := (lw g c.symm).2; omega⟩
 have keep : ∀ k, k < z.heap.size → k ≠ w.heap.size + 1 → some k ≠ vs.ownBlock → y.heap[k]? = z.heap[k]? := fun k hk hD hv => by
  rw [hgr.block k (by rw [World.size_alloc, szD]; omega) (fun e => hv e), ← off k hD]
  exact (((Below.refl _ _).alloc (Nat.le_refl _) o).block k (by rw [szD]; exact hk))
 have vn : ∀ g, g < z.heap.size → some g ≠ vs.ownBlock → some g ≠ v'.ownBlock := fun g hg hn => by
  rcases hv with e | e
  · rw [e]; exact hn
  · rw [e, World.size_alloc, szD]; intro c; have := Option.some.inj c; omega
 have hst := h.sn.step hs
 rw [hf] at hst
 refine ⟨?_, ?_, ?_, ?_, ?_, ?_, ?_, hst, ?_⟩
 · rw [keep _ (by omega) (by omega) (fun e => by have := (lw _ e.symm).1; omega)]
   exact (hz.block _ (Array.getElem?_eq_some_iff.1 h.rc).1).trans h.rc
 · rw [hgr.block _ (by rw [World.size_alloc, szD]; omega) (fun e => by have := (lw _ e.symm).1; omega)]
   exact map_under _ _ _ _ atD
 · have e1 : (seen ++ [f]).length = seen.length + 1 := by simp
   have e2 : strV (seen ++ [f]) = strV seen ++ [.string (txt f)] := by unfold strV; simp
   rw [e1, e2]; exact ho
 · exact g1.on fun g hg => keep g (g1.lt g hg) (by have := (n1 g hg).1; omega) (n1 g hg).2
 · exact g2.on fun g hg => keep g (g2.lt g hg) (by have := (n2 g hg).1; omega) (n2 g hg).2
 · exact fun g hg => ⟨(n1 g hg).1, vn g (g1.lt g hg) (n1 g hg).2⟩
 · exact fun g hg => ⟨(n2 g hg).1, vn g (g2.lt g hg) (n2 g hg).2⟩
 · exact (lowD.alloc lowD.size o).grown hgr (by rw [World.size_alloc]; have := lowD.size; omega) (fun k e => by have := (lw k e).1; omega)
def LineP : Prop := ∀ (ws : List Wd) (d : Dv) (fv qv vw vs : Value) (w : World) (seen : List Wd), StrsAny w vw ws → (ws.length : Int) ≤ 5000 → (∀ z ∈ ws, (z.length : Int) ≤ 5000) → StrsAt w vs seen → (seen.length : Int) ≤ 5000 → FldsAt w fv d.fs → BytesAt w qv d.rq → d.fs.length ≤ 8 → Calls Tryz.prog 33 #[dvV d fv qv, vw, vs] w (LineQ w d fv qv seen ws)
def LnC (wr : World) (d : Dv) (fv qv vw vs : Value) (seen ws : List Wd) : Prop := ∀ z, Below wr.heap.size wr z → Calls Tryz.prog 33 #[dvV d fv qv, vw, vs] z (LineQ z d fv qv seen ws)
theorem LineP.at (P : LineP) {w wr : World} {d : Dv} {fv qv vs vw : Value} {seen ws : List Wd} (h : RrSt w wr d fv qv vs seen) (hw : StrsAny wr vw ws) (hl : (ws.length : Int) ≤ 4500) (hz : ∀ z ∈ ws, (z.length : Int) ≤ 5000) : LnC wr d fv qv vw vs seen ws := fun z hb =>
 P ws d fv qv vw vs z seen (hw.below hb) (by omega) hz ((own_strs h.so).below hb) (by have := sn_len h.sn; omega) (h.fl.below hb) (h.rq.below hb) h.sn.le
theorem res_dev3r {fn : Func} {p u v : Tmp} (h : fn.results = #[.cell p 25, .tmp u, .tmp v]) {tmps : Array Value} {w : World} {b : Nat} {v0 v1 v2 v3 v4 v5 v6 v7 v8 v9 v10 v11 e1 e2 : Value}
 (hp : tmps.getD p undef = .pointer (some ⟨b, 0, none⟩)) (hu : tmps.getD u undef = e1) (hv : tmps.getD v undef = e2)
 (hc : w.heap[b]? = some (.cells #[v0, v1, v2, v3, v4, v5, v6, v7, v8, v9, v10, v11] 25 (0, 0))) :
 (results fn tmps).run Tryz.prog w = .ok (.tuple #[.agg #[v0, v1, v2, v3, v4, v5, v6, v7, v8, v9, v10, v11], e1, e2]) w := by
 have c := rd_cell hc
 have c0 := (c 0).1
 have c1 := (c 1).1
 have c2 := (c 2).1
 have c3 := (c 3).1
 have c4 := (c 4).1
 have c5 := (c 5).1
 have c6 := (c 6).1
 have c7 := (c 7).1
 have c8 := (c 8).1
 have c9 := (c 9).1
 have c10 := (c 10).1
 have c11 := (c 11).1
 simp only [List.getElem?_toArray, List.getElem?_cons_zero, List.getElem?_cons_succ] at c0 c1 c2 c3 c4 c5 c6 c7 c8 c9 c10 c11
 rw [results_cell_tmp2 h, hp, hu, hv]
 simp only [asAddr]
 simp [go_sem, Result.andThen, c0, c1, c2, c3, c4, c5, c6, c7, c8, c9, c10, c11]
def errV (gr lk k len cap : Nat) (ln n : Int) (i : Nat) : Value :=
 (#[.agg dz, .slice (some ⟨gr, lk, none⟩) len cap, .int .i64 (k : Int), .pointer (some ⟨gr, lk + k * 2, none⟩), .pointer (some ⟨gr, lk + k * 2, none⟩), .int .i64 ln, .int .i64 n, undef, .int .i64 ln, .int .i64 n] : Array Value).getD i undef
def ErP (gr lk k len cap : Nat) (ln n : Int) (i : Nat) (v : Value) : Prop := v = errV gr lk k len cap ln n i
abbrev putZ (y : World) (R : Nat) : World := put12 y R (.string ⟨#[]⟩) (.int .i64 0) (.int .i64 0) (.int .i64 0) (.int .i64 0) (.string ⟨#[]⟩) (.slice none 0 0) (.slice none 0 0) (.int .i64 0) (.int .i64 0) (.int .i64 0) (.int .i64 0)
structure ErrX (y : World) (R gr a : Nat) (ln : Int) (x : Array Bool) (z : World) : Prop where
 lr : z.cell? ⟨gr, a, none⟩ = some (.int .i64 ln)
 f0 : x.getD 7 false = false → z = y.drew
 f1 : x.getD 7 false = true → z = (putZ y R).drew
theorem ErrX.other {y : World} {R gr a : Nat} {ln : Int} {x : Array Bool} {z : World} (h : ErrX y R gr a ln x z) {i : Nat} (hi : i ≠ 7) : ErrX y R gr a ln (x.setIfInBounds i true) z :=
 ⟨h.lr, by rw [getD_set_ne false hi]; exact h.f0, by rw [getD_set_ne false hi]; exact h.f1⟩
theorem ErrX.stored {y : World} {R gr a : Nat} {ln : Int} {x : Array Bool} {z : World} (h : ErrX y R gr a ln x z) (hr : gr ≠ R) (hx : x.getD 7 false = false) (hs : 7 < x.size) : ErrX y R gr a ln (x.setIfInBounds 7 true) (putZ y R).drew := by
 have e := getD_set_at hs
 have hl := h.lr
 rw [h.f0 hx, drew_cell] at hl
 refine ⟨by rw [drew_cell]; exact (World.cell?_of_block (a := ⟨gr, a, none⟩) (put12_off (y := y) hr _ _ _ _ _ _ _ _ _ _ _ _)).trans hl, fun h4 => ?_, fun _ => rfl⟩
 rw [e] at h4; cases h4
def NxC (w yD : World) (d' : Dv) (vs v1 v2 : Value) (seen : List Wd) (f : Wd) : Prop := ∀ (y : World) (v' : Value) (o : Obj), y.ownsRow (w.heap.size + 2) 9 1 v' (seen.length + 1) (strV seen ++ [.string (txt f)]) → (yD.alloc o).grownBy y vs.ownBlock → (v'.ownBlock = vs.ownBlock ∨ v'.ownBlock = some (yD.alloc o).heap.size) → RrSt w y d' v1 v2 v' (seen ++ [f])
theorem own_on {x y : World} {N : Nat} {e : TypeId} {s : Nat} {v : Value} {n : Nat} {xs : List Value} (h : x.ownsRow N e s v n xs) (hk : ∀ g, v.ownBlock = some g → y.heap[g]? = x.heap[g]?) : y.ownsRow N e s v n xs := by
 refine ⟨h.1, ?_⟩
 rcases h.2 with h | ⟨g, cap, cur, h1, h2, h3, h4⟩
 · exact .inl h
 · exact .inr ⟨g, cap, cur, h1, h2, (hk g (by rw [h1]; rfl)).trans h3, h4⟩
theorem notF_snoc (s : List Wd) (f : Wd) : ((notF (s ++ [f])).length : Int) = ((notF s).length : Int) + (if f = kFie then 0 else 1) := by
 unfold notF
 rw [List.filter_append]
 by_cases h : f = kFie
 · rw [if_pos h]; simp [h]
 · rw [if_neg h]; simp [h]
end Go.Proofs.YthabffjgdhfbmaaGreatDoor
namespace Go.Proofs.YthabffjgdhfbmaaGreatDoor
def ClosedB (L : List Oper) (x : Array Bool) : Prop := ∀ (j : Nat) (o : Oper), L[j]? = some o → x.getD j false = true → ∀ e ∈ o.after, Region.binds .any e = true → x.getD e.on false = true
theorem ClosedB.at {L : List Oper} {x : Array Bool} (h : ClosedB L x) {j : Nat} {o : Oper} (ho : L[j]? = some o) {k : Nat} (hk : (o.after.any fun e => Region.binds .any e && e.on == k) = true) (hx : x.getD j false = true) : x.getD k false = true := dep_at (h j o ho hx) hk
theorem getD_put_true {x : Array Bool} {i j : Nat} (h : x.getD j false = true) : (x.setIfInBounds i true).getD j false = true := by
 by_cases e : i = j
 · subst e
   refine getD_set_at ?_
   rw [Array.getD_eq_getD_getElem?] at h
   cases hx : x[i]? with
   | none => rw [hx] at h; cases h
   | some b => exact (Array.getElem?_eq_some_iff.1 hx).1
 · rw [getD_set_ne false e]; exact h
theorem region_props4 {G : Type} {P : Program} {id : Nat} {L : List Oper} {Q : Exit → Act → World → Prop} (Pv : G → Nat → Value → Prop) (W : G → Array Bool → World → Prop) (g0 : G) {a0 : Act} {w0 : World}
 (hm : P.follows .mixedOrders = true) (hb : regB L a0.tmps.size = true)
 (step : ∀ (γ : G) x a w i o, L[i]? = some o → RegI L a0.tmps a0.defers (fun i v _ => Pv γ i v) x a w → (∀ e ∈ o.after, Region.binds .any e = true → x.getD e.on false = true) → ClosedB L x → x.size = L.length → x.getD i true = false → W γ x w →
  o.wp P a w (fun a' w' => ∃ v γ', a' = a.put o.dst v ∧ (∀ d, o.dst = some d → Pv γ' i v) ∧ (∀ j v, x.getD j false = true → Pv γ j v → Pv γ' j v) ∧ W γ' (x.setIfInBounds i true) w') Q)
 (fin : ∀ γ x a w, x.size = L.length → (∀ i, i < L.length → x.getD i false = true) → RegI L a0.tmps a0.defers (fun i v _ => Pv γ i v) x a w → W γ x w → Q .normal a w)
 (h0 : W g0 (Array.replicate L.length false) { w0 with drawn := w0.drawn + 1 }) : (Code.region id L.toArray true).wp P Q a0 w0 := by
 refine region_props3 (G := G) (fun γ _ i v _ => Pv γ i v) (fun γ x w => W γ x w ∧ ClosedB L x) g0 hm hb ?_ ?_ ⟨h0, ?_⟩
 · rintro γ x a w i o ho hI haf hx hxi ⟨hW, hc⟩
   refine Oper.wp_mono ?_ (step γ x a w i o ho hI haf hc hx hxi hW)
   rintro a' w' ⟨v, γ', e, hv, hk, hw⟩
   refine ⟨v, γ', e, hv, hk, hw, fun j p hp hj e' he' hb' => ?_⟩
   by_cases hji : j = i
   · subst hji
     rw [ho] at hp
     cases hp
     exact getD_put_true (haf e' he' hb')
   · rw [getD_set_ne false (Ne.symm hji)] at hj
     exact getD_put_true (hc j p hp hj e' he' hb')
 · rintro γ x a w hx hall hI ⟨hW, _⟩
   exact fin γ x a w hx hall hI hW
 · intro j o _ hj
   exfalso
   rw [Array.getD_eq_getD_getElem?] at hj
   by_cases hlt : j < L.length
   · rw [Array.getElem?_replicate, if_pos hlt] at hj
     cases hj
   · rw [Array.getElem?_replicate, if_neg hlt] at hj
     cases hj
end Go.Proofs.YthabffjgdhfbmaaGreatDoor
namespace Go.Proofs.YthabffjgdhfbmaaGreatDoor
open Go.RowKit
theorem own_below {x y : World} {b : Nat} {T : TypeId} {s : Nat} {v : Value} {n : Nat} {xs : List Value} (h : x.ownsRow b T s v n xs) (hb : Below x.heap.size x y) : y.ownsRow b T s v n xs :=
 own_on h fun g hg => hb.block g (World.ownsRow.lt h g hg).2
abbrev kBe : ByteArray := ⟨#[98, 101]⟩
abbrev kLe : ByteArray := ⟨#[108, 101]⟩
abbrev kSbe : ByteArray := ⟨#[115, 98, 101]⟩
abbrev kSle : ByteArray := ⟨#[115, 108, 101]⟩
abbrev kBcd : ByteArray := ⟨#[98, 99, 100]⟩
abbrev kDec : ByteArray := ⟨#[100, 101, 99]⟩
def kindI (s : ByteArray) : Nat := if s = kBe then 0 else if s = kLe then 1 else if s = kSbe then 2 else if s = kSle then 3 else if s = kBcd then 4 else if s = kDec then 5 else 6
def NoKind (s : ByteArray) : Prop := ¬ s = kBe ∧ ¬ s = kLe ∧ ¬ s = kSbe ∧ ¬ s = kSle ∧ ¬ s = kBcd ∧ ¬ s = kDec
theorem kind_be : kindI kBe = 0 := of_decide_eq_true (by kernel_rfl)
theorem kind_le : kindI kLe = 1 := of_decide_eq_true (by kernel_rfl)
theorem kind_sbe : kindI kSbe = 2 := of_decide_eq_true (by kernel_rfl)
theorem kind_sle : kindI kSle = 3 := of_decide_eq_true (by kernel_rfl)
theorem kind_bcd : kindI kBcd = 4 := of_decide_eq_true (by kernel_rfl)
theorem kind_dec : kindI kDec = 5 := of_decide_eq_true (by kernel_rfl)
theorem kind_no {s : ByteArray} (h : NoKind s) : kindI s = 6 := by
 obtain ⟨h0, h1, h2, h3, h4, h5⟩ := h
 unfold kindI
 rw [if_neg h0, if_neg h1, if_neg h2, if_neg h3, if_neg h4, if_neg h5]
theorem kind_cases (s : ByteArray) : s = kBe ∨ s = kLe ∨ s = kSbe ∨ s = kSle ∨ s = kBcd ∨ s = kDec ∨ NoKind s := by
 by_cases h0 : s = kBe
 · exact .inl h0
 by_cases h1 : s = kLe
 · exact .inr (.inl h1)
 by_cases h2 : s = kSbe
 · exact .inr (.inr (.inl h2))
 by_cases h3 : s = kSle
 · exact .inr (.inr (.inr (.inl h3)))
 by_cases h4 : s = kBcd
 · exact .inr (.inr (.inr (.inr (.inl h4))))
 by_cases h5 : s = kDec
 · exact .inr (.inr (.inr (.inr (.inr (.inl h5)))))
 exact .inr (.inr (.inr (.inr (.inr (.inr ⟨h0, h1, h2, h3, h4, h5⟩)))))
def rgtB (k : Nat) (n : Int) : Bool := if k < 5 then decide (1 ≤ n ∧ n ≤ 4) else if k = 5 then decide (1 ≤ n ∧ n ≤ 8) else false
theorem rgt_cases {k : Nat} {n : Int} (h : rgtB k n = true) : (k < 5 ∧ 1 ≤ n ∧ n ≤ 4) ∨ (k = 5 ∧ 1 ≤ n ∧ n ≤ 8) := by
 unfold rgtB at h
 split at h
 · left; exact ⟨by assumption, by simpa using h⟩
 · split at h
   · right; exact ⟨by assumption, by simpa using h⟩
   · cases h
structure U where
 nm : ByteArray
 m : Int
 l : Int
 t : Int
 k : Int
 fn : Int
 fd : Int
 on : Int
 od : Int
 code : Int
abbrev encU (u : U) : Value := .agg #[.string u.nm, .int .i64 u.m, .int .i64 u.l, .int .i64 u.t, .int .i64 u.k, .int .i64 u.fn, .int .i64 u.fd, .int .i64 u.on, .int .i64 u.od, .int .i64 u.code]
def tab : List U := [
 ⟨⟨#[111, 110, 101]⟩, 0, 0, 0, 0, 1, 1, 0, 1, 512⟩,
 ⟨⟨#[112, 99, 116]⟩, 0, 0, 0, 0, 1, 100, 0, 1, 544⟩,
 ⟨⟨#[107, 103]⟩, 1, 0, 0, 0, 1, 1, 0, 1, 1731⟩,
 ⟨⟨#[103]⟩, 1, 0, 0, 0, 1, 1000, 0, 1, 1728⟩,
 ⟨⟨#[108, 98]⟩, 1, 0, 0, 0, 45359237, 100000000, 0, 1, 1760⟩,
 ⟨⟨#[109]⟩, 0, 1, 0, 0, 1, 1, 0, 1, 1280⟩,
 ⟨⟨#[99, 109]⟩, 0, 1, 0, 0, 1, 100, 0, 1, 1297⟩,
 ⟨⟨#[109, 109]⟩, 0, 1, 0, 0, 1, 1000, 0, 1, 1298⟩,
 ⟨⟨#[105, 110]⟩, 0, 1, 0, 0, 127, 5000, 0, 1, 1376⟩,
 ⟨⟨#[115]⟩, 0, 0, 1, 0, 1, 1, 0, 1, 2176⟩,
 ⟨⟨#[109, 105, 110]⟩, 0, 0, 1, 0, 60, 1, 0, 1, 2208⟩,
 ⟨⟨#[104]⟩, 0, 0, 1, 0, 3600, 1, 0, 1, 2240⟩,
 ⟨⟨#[107]⟩, 0, 0, 0, 1, 1, 1, 0, 1, 3520⟩,
 ⟨⟨#[99]⟩, 0, 0, 0, 1, 1, 1, 5463, 20, 6048⟩,
 ⟨⟨#[102]⟩, 0, 0, 0, 1, 5, 9, 45967, 180, 4416⟩,
 ⟨⟨#[112, 97]⟩, 1, (-1), (-2), 0, 1, 1, 0, 1, 3840⟩,
 ⟨⟨#[107, 112, 97]⟩, 1, (-1), (-2), 0, 1000, 1, 0, 1, 3843⟩,
 ⟨⟨#[109, 109, 104, 103]⟩, 1, (-1), (-2), 0, 20265, 152, 0, 1, 3872⟩,
 ⟨⟨#[99, 109, 104, 111]⟩, 1, (-1), (-2), 0, 196133, 2000, 0, 1, 3904⟩,
 ⟨⟨#[108]⟩, 0, 3, 0, 0, 1, 1000, 0, 1, 1600⟩,
 ⟨⟨#[109, 108]⟩, 0, 3, 0, 0, 1, 1000000, 0, 1, 1618⟩,
 ⟨⟨#[108, 112, 109]⟩, 0, 3, (-1), 0, 1, 60000, 0, 1, 3072⟩,
 ⟨⟨#[109, 108, 104]⟩, 0, 3, (-1), 0, 1, 3600000000, 0, 1, 3122⟩,
 ⟨⟨#[98, 112, 109]⟩, 0, 0, (-1), 0, 1, 60, 0, 1, 2720⟩,
 ⟨⟨#[104, 122]⟩, 0, 0, (-1), 0, 1, 1, 0, 1, 2496⟩]
def noU : U := ⟨⟨#[]⟩, 0, 0, 0, 0, 0, 0, 0, 0, 0⟩
def isU (s : ByteArray) : Bool := tab.any (fun u => decide (u.nm = s))
def atU (s : ByteArray) : U := (tab.find? (fun u => decide (u.nm = s))).getD noU
theorem nm_eq (a b : ByteArray) : (a.toList == b.toList) = decide (a = b) := by
 rw [ByteArray.toList_eq, ByteArray.toList_eq]
 by_cases h : a = b
 · subst h; simp
 · rw [decide_eq_false h, beq_eq_false_iff_ne]
   exact fun e => h (ByteArray.ext (Array.toList_inj.mp e))
theorem nm_yes {a b : ByteArray} (h : a = b) : (a.toList == b.toList) = true := by rw [nm_eq, decide_eq_true h]
theorem nm_no {a b : ByteArray} (h : ¬ a = b) : (a.toList == b.toList) = false := by rw [nm_eq, decide_eq_false h]
theorem tab_len : tab.length = 25 := rfl
theorem isU_of {s : ByteArray} {u : U} (h : u ∈ tab) (e : u.nm = s) : isU s = true := by
 unfold isU; rw [List.any_eq_true]; exact ⟨u, h, by simp [e]⟩
theorem isU_not {s : ByteArray} (h : ∀ u ∈ tab, u.nm ≠ s) : isU s = false ∧ atU s = noU := by
 constructor
 · unfold isU; rw [List.any_eq_false]; intro u hu; simp [h u hu]
 · unfold atU
   rw [List.find?_eq_none.2 (fun u hu => by simp [h u hu])]
   rfl
theorem atU_first {s : ByteArray} {pre rest : List U} {u : U} (h : tab = pre ++ u :: rest) (hp : ∀ x ∈ pre, x.nm ≠ s) (e : u.nm = s) : isU s = true ∧ atU s = u := by
 refine ⟨isU_of (u := u) (by rw [h]; simp) e, ?_⟩
 unfold atU
 rw [h, List.find?_append, List.find?_eq_none.2 (fun x hx => by simp [hp x hx])]
 simp [e]
def bigA : Array Value := (tab.flatMap (fun u => [.string u.nm, .int .i64 u.m, .int .i64 u.l, .int .i64 u.t, .int .i64 u.k, .int .i64 u.fn, .int .i64 u.fd, .int .i64 u.on, .int .i64 u.od, .int .i64 u.code])).toArray
theorem index_big (w : World) : ∀ (k : Nat) (h : k < tab.length), (Instr.index 239 (.agg bigA) (.int .i64 (k : Int))).run Tryz.prog w = .ok (encU tab[k]) w
 | 0, _ => by kernel_rfl
 | 1, _ => by kernel_rfl
 | 2, _ => by kernel_rfl
 | 3, _ => by kernel_rfl
 | 4, _ => by kernel_rfl
 | 5, _ => by kernel_rfl
 | 6, _ => by kernel_rfl
 | 7, _ => by kernel_rfl
 | 8, _ => by kernel_rfl
 | 9, _ => by kernel_rfl
 | 10, _ => by kernel_rfl
 | 11, _ => by kernel_rfl
 | 12, _ => by kernel_rfl
 | 13, _ => by kernel_rfl
 | 14, _ => by kernel_rfl
 | 15, _ => by kernel_rfl
 | 16, _ => by kernel_rfl
 | 17, _ => by kernel_rfl
 | 18, _ => by kernel_rfl
 | 19, _ => by kernel_rfl
 | 20, _ => by kernel_rfl
 | 21, _ => by kernel_rfl
 | 22, _ => by kernel_rfl
 | 23, _ => by kernel_rfl
 | 24, _ => by kernel_rfl
 | k + 25, h => by exfalso; have := tab_len; omega
def xl : List Bool → List Bool → List Bool
 | a :: asz, b :: bs => (a ^^ b) :: xl asz bs
 | _, _ => []
def numL (l : List Bool) : Nat := l.foldl (fun v b => 2 * v + b.toNat) 0
def bitsL (v : Nat) : Nat → List Bool
 | 0 => []
 | n + 1 => bitsL (v / 2) n ++ [decide (v % 2 = 1)]
theorem numL_nil : numL [] = 0 := rfl
theorem numL_snoc (l : List Bool) (b : Bool) : numL (l ++ [b]) = 2 * numL l + b.toNat := by simp [numL]
theorem foldl_num (l : List Bool) : ∀ v : Nat, l.foldl (fun v b => 2 * v + b.toNat) v = v * 2 ^ l.length + numL l := by
 unfold numL
 induction l with
 | nil => intro v; simp
 | cons b l ih =>
  intro v
  simp only [List.foldl_cons, List.length_cons]
  rw [ih, ih (2 * 0 + b.toNat), Nat.pow_succ]
  grind
theorem numL_cons (b : Bool) (l : List Bool) : numL (b :: l) = b.toNat * 2 ^ l.length + numL l := by
 have := foldl_num l (2 * 0 + b.toNat)
 unfold numL at *
 rw [List.foldl_cons, this]
 simp
theorem numL_lt (l : List Bool) : numL l < 2 ^ l.length := by
 induction l with
 | nil => decide
 | cons b l ih =>
  rw [numL_cons, List.length_cons, Nat.pow_succ]
  cases b
  · simp; omega
  · simp; omega
theorem bitsL_len (n : Nat) : ∀ v, (bitsL v n).length = n := by
 induction n with
 | zero => intro v; rfl
 | succ n ih => intro v; simp [bitsL, ih]
theorem numL_bits (n : Nat) : ∀ v, numL (bitsL v n) = v % 2 ^ n := by
 induction n with
 | zero => intro v; simp [bitsL, numL_nil, Nat.mod_one]
 | succ n ih =>
  intro v
  rw [bitsL, numL_snoc, ih]
  have h : (decide (v % 2 = 1)).toNat = v % 2 := by
   rcases Nat.mod_two_eq_zero_or_one v with h | h <;> simp [h]
  rw [h, Nat.pow_succ, Nat.mul_comm (2 ^ n) 2, Nat.mod_mul]
  omega
theorem snoc_of_len {l : List Bool} {n : Nat} (h : l.length = n + 1) : ∃ m b, l = m ++ [b] ∧ m.length = n := by
 refine ⟨l.dropLast, l.getLast (by intro e; rw [e] at h; cases h), (List.dropLast_concat_getLast _).symm, by simp [h]⟩
theorem bits_num (n : Nat) : ∀ l : List Bool, l.length = n → bitsL (numL l) n = l := by
 induction n with
 | zero => intro l h; rw [List.length_eq_zero_iff.1 h]; rfl
 | succ n ih =>
  intro l h
  obtain ⟨m, b, rfl, hm⟩ := snoc_of_len h
  rw [bitsL, numL_snoc]
  have e1 : (2 * numL m + b.toNat) / 2 = numL m := by cases b <;> simp <;> omega
  have e2 : decide ((2 * numL m + b.toNat) % 2 = 1) = b := by cases b <;> simp <;> omega
  rw [e1, e2, ih m hm]
theorem numL_inj {a b : List Bool} (h : a.length = b.length) (e : numL a = numL b) : a = b := by
 have h1 := bits_num b.length a h
 have h2 := bits_num b.length b rfl
 rw [← h1, e, h2]
theorem xl_len {a : List Bool} : ∀ {b : List Bool}, a.length = b.length → (xl a b).length = b.length := by
 induction a with
 | nil => intro b h; cases b with | nil => rfl | cons _ _ => cases h
 | cons x a ih =>
  intro b h
  cases b with
  | nil => cases h
  | cons y b => simp [xl, ih (Nat.succ.inj h)]
theorem xl_app {a : List Bool} : ∀ {b c d : List Bool}, a.length = b.length → xl (a ++ c) (b ++ d) = xl a b ++ xl c d := by
 induction a with
 | nil => intro b c d h; cases b with | nil => rfl | cons _ _ => cases h
 | cons x a ih =>
  intro b c d h
  cases b with
  | nil => cases h
  | cons y b => simp [xl, ih (Nat.succ.inj h)]
def stL (p : List Bool) : List Bool → List Bool
 | [] => []
 | h :: t => if h = true then xl (t ++ [false]) p else t ++ [false]
theorem stL_len {p r : List Bool} (h : p.length = r.length) : (stL p r).length = r.length := by
 cases r with
 | nil => rfl
 | cons b t =>
  cases b
  · show (t ++ [false]).length = t.length + 1
    simp
  · show (xl (t ++ [false]) p).length = t.length + 1
    rw [xl_len (by simpa using h.symm)]; exact h
def itL (p : List Bool) : Nat → List Bool → List Bool
 | 0, r => r
 | k + 1, r => itL p k (stL p r)
theorem itL_len {p : List Bool} (k : Nat) : ∀ {r : List Bool}, p.length = r.length → (itL p k r).length = r.length := by
 induction k with
 | zero => intro r h; rfl
 | succ k ih => intro r h; rw [itL, ih (by rw [stL_len h]; exact h), stL_len h]
def mixL (r c : List Bool) : List Bool := xl (r.take 8) c ++ r.drop 8
theorem mixL_len {r c : List Bool} (h : 8 ≤ r.length) (k : c.length = 8) : (mixL r c).length = r.length := by
 unfold mixL
 rw [List.length_append, xl_len (by rw [List.length_take, k]; omega), List.length_drop, k]
 omega
def byL (p r c : List Bool) : List Bool := itL p 8 (mixL r c)
def foldB (p : List Bool) (r : List Bool) (cs : List (List Bool)) : List Bool := cs.foldl (byL p) r
structure Fits (w : Nat) (p r : List Bool) : Prop where
 w8 : 8 ≤ w
 pl : p.length = w
 rl : r.length = w
theorem Fits.byte {w : Nat} {p r c : List Bool} (h : Fits w p r) (hc : c.length = 8) : Fits w p (byL p r c) := by
 have m : (mixL r c).length = r.length := mixL_len (by rw [h.rl]; exact h.w8) hc
 refine ⟨h.w8, h.pl, ?_⟩
 unfold byL
 rw [itL_len 8 (by rw [m, h.rl, h.pl]), m, h.rl]
theorem foldB_len {w : Nat} {p : List Bool} (cs : List (List Bool)) : ∀ {r : List Bool}, Fits w p r → (∀ c ∈ cs, c.length = 8) → Fits w p (foldB p r cs) := by
 induction cs with
 | nil => intro r h _; exact h
 | cons c cs ih => intro r h k; exact ih (h.byte (k c (by simp))) (fun x hx => k x (by simp [hx]))
def bcL (t : Bool) (c : Nat) : List Bool := if t = true then (bitsL c 8).reverse else bitsL c 8
def revL (t : Bool) (r : List Bool) : List Bool := if t = true then r.reverse else r
theorem bcL_len (t : Bool) (c : Nat) : (bcL t c).length = 8 := by unfold bcL; cases t <;> simp [bitsL_len]
theorem bcL_all (t : Bool) (cs : List Nat) : ∀ c ∈ cs.map (bcL t), c.length = 8 := by
 intro c h
 obtain ⟨x, _, rfl⟩ := List.mem_map.1 h
 exact bcL_len t x
theorem revL_len (t : Bool) (r : List Bool) : (revL t r).length = r.length := by unfold revL; cases t <;> simp
def sumL (w p f : Nat) (t : Bool) (z : Nat) (cs : List Nat) : Nat := numL (revL t (foldB (bitsL p w) (bitsL f w) (cs.map (bcL t)))) ^^^ z
theorem sum_fits {w : Nat} (p f : Nat) (t : Bool) (cs : List Nat) (hw : 8 ≤ w) : Fits w (bitsL p w) (foldB (bitsL p w) (bitsL f w) (cs.map (bcL t))) :=
 foldB_len _ ⟨hw, bitsL_len _ _, bitsL_len _ _⟩ (bcL_all t cs)
theorem sumL_lt {w p f : Nat} {t : Bool} {z : Nat} {cs : List Nat} (hw : 8 ≤ w) (hz : z < 2 ^ w) : sumL w p f t z cs < 2 ^ w := by
 have G := sum_fits p f t cs hw
 unfold sumL
 refine Nat.xor_lt_two_pow ?_ hz
 have := numL_lt (revL t (foldB (bitsL p w) (bitsL f w) (cs.map (bcL t))))
 rwa [revL_len, G.rl] at this
theorem info_bool : (Tryz.prog.info? 4).map (fun i => (i.zero, i.size, i.bytes)) = some (some (.bool false), 1, 1) := by kernel_rfl
def Row (w : World) (base : Nat) (x : Value) (l : List Bool) : Prop := w.ownsRow base 4 1 x l.length (l.map Value.bool)
theorem Row.form {w : World} {base : Nat} {x : Value} {l : List Bool} (h : Row w base x l) : (x = .slice none 0 0 ∧ l = []) ∨ ∃ g cap, x = .slice (some ⟨g, 0, none⟩) l.length cap ∧ l.length ≤ cap ∧ base ≤ g ∧ g < w.heap.size := by
 rcases h.2 with ⟨h1, h2⟩ | ⟨g, cap, cur, h1, h2, h3, h4, _⟩
 · exact .inl ⟨h1, List.length_eq_zero_iff.1 h2⟩
 · exact .inr ⟨g, cap, h1, h4, h2, (Array.getElem?_eq_some_iff.1 h3).1⟩
theorem Row.cell {w : World} {base g cap : Nat} {l : List Bool} (h : Row w base (.slice (some ⟨g, 0, none⟩) l.length cap) l) (j : Nat) (hj : j < l.length) : w.cell? ⟨g, j, none⟩ = some (.bool l[j]) := by
 rw [World.ownsRow.cellAt h j (by omega), List.getElem?_map, List.getElem?_eq_getElem hj]; rfl
theorem Row.below {w w' : World} {base : Nat} {x : Value} {l : List Bool} (h : Row w base x l) (hb : Below w.heap.size w w') : Row w' base x l := by
 refine ⟨h.1, ?_⟩
 rcases h.2 with k | ⟨g, cap, cur, h1, h2, h3, h4⟩
 · exact .inl k
 · exact .inr ⟨g, cap, cur, h1, h2, (hb.block g (Array.getElem?_eq_some_iff.1 h3).1).trans h3, h4⟩
theorem numL_take (l : List Bool) {k : Nat} (h : k < l.length) : numL (l.take (k + 1)) = 2 * numL (l.take k) + l[k].toNat := by
 rw [← List.take_append_getElem h, numL_snoc]
theorem number_any (l : List Bool) (x : Value) (base : Nat) (w : World) (h : Row w base x l) (hl : l.length ≤ 32) :
 Calls Tryz.prog 92 #[x] w fun e w' => e = .returned (.int .u32 (numL l : Int)) ∧ w' = w := by
 rcases h.form with ⟨rfl, rfl⟩ | ⟨g, cap, rfl, hc, _, _⟩
 · go_enter Tryz.func92, Tryz.ntmps92
   go_wp2
   go_loop [3, 4] (fun v i => v = .int .u32 0 ∧ i = .int .i64 0) (fun _ _ => 0)
   case atStart => exact ⟨rfl, rfl⟩
   case round =>
    obtain ⟨rfl, rfl⟩ := hrel
    go_wp2
    go_ret
    exact ⟨rfl, rfl⟩
 · have HC : Hid (∀ j (hj : j < l.length), w.cell? ⟨g, j, none⟩ = some (.bool l[j])) := fun j hj => h.cell j hj
   have hl1 : (l.length : Int) ≤ 32 := by omega
   clear h
   go_enter Tryz.func92, Tryz.ntmps92
   go_wp2
   go_loop [3, 4] (fun v i => ∃ k : Nat, k ≤ l.length ∧ i = .int .i64 (k : Int) ∧ v = .int .u32 ((numL (l.take k) : Nat) : Int)) (fun _ i => l.length - (intOf i).toNat)
   case atStart => exact ⟨0, by omega, rfl, rfl⟩
   case round =>
    obtain ⟨k, hk, rfl, rfl⟩ := hrel
    by_cases hlt : k < l.length
    · have hcell := HC.out k hlt
      have hnx : Hid (numL (l.take (k + 1)) = 2 * numL (l.take k) + l[k].toNat) := numL_take l hlt
      have hbd : numL (l.take k) < 2147483648 := by
       have h1 := numL_lt (l.take k)
       have h2 : (l.take k).length ≤ 31 := by rw [List.length_take]; omega
       have h3 : 2 ^ (l.take k).length ≤ 2 ^ 31 := Nat.pow_le_pow_right (by omega) h2
       omega
      have hb0 : (0 : Int) ≤ ((numL (l.take k) : Nat) : Int) ∧ ((numL (l.take k) : Nat) : Int) < 2147483648 := ⟨by omega, by omega⟩
      have hki : (k : Int) < (l.length : Int) := by omega
      generalize l[k] = b at *
      generalize numL (l.take k) = m at *
      obtain ⟨m', hm'⟩ : ∃ m', numL (l.take (k + 1)) = m' := ⟨_, rfl⟩
      have hm : numL (l.take (k + 1)) = m' := hm'
      rw [hm'] at hnx
      replace hm : Hid (numL (l.take (k + 1)) = m') := hm
      clear hm'
      have w1 : IntKind.u32.wrap (2 * (m : Int)) = 2 * (m : Int) := by
       simp only [IntKind.wrap_u32]; omega
      have w2 : IntKind.u32.wrap (2 * (m : Int) + 1) = 2 * (m : Int) + 1 := by
       simp only [IntKind.wrap_u32]; omega
      cases b
      · go_wp2
        exact ⟨⟨k + 1, by omega, by simp, by rw [hm.out, hnx.out]; simp⟩, by simp [intOf]; omega⟩
      · go_wp2
        exact ⟨⟨k + 1, by omega, by simp, by rw [hm.out, hnx.out]; simp⟩, by simp [intOf]; omega⟩
    · obtain rfl : k = l.length := by omega
      go_wp2
      go_ret
      exact ⟨rfl, rfl⟩
theorem bits_cons (v k : Nat) : bitsL v (k + 1) = decide (v / 2 ^ k % 2 = 1) :: bitsL v k := by
 refine numL_inj (by simp [bitsL_len]) ?_
 rw [numL_bits, numL_cons, bitsL_len, numL_bits]
 have h : (decide (v / 2 ^ k % 2 = 1)).toNat = v / 2 ^ k % 2 := by
  rcases Nat.mod_two_eq_zero_or_one (v / 2 ^ k) with h | h <;> simp [h]
 rw [h, Nat.pow_succ, Nat.mod_mul]
 grind
theorem row_one (w : World) (base : Nat) (b : Bool) (h : base ≤ w.heap.size) : (w.alloc (.cells #[.bool b] 4)).ownsRow base 4 1 (.slice (some ⟨w.heap.size, 0, none⟩) 1 1) 1 [.bool b] :=
 ⟨rfl, .inr ⟨w.heap.size, 1, #[.bool b], rfl, h, World.alloc_heap_new w _, by omega, by unfold maxLen; omega, rfl, rfl⟩⟩
theorem bits_any (v n : Nat) (w : World) (hv : v < 4294967296) (hn : n ≤ 40) :
 Calls Tryz.prog 90 #[.int .u32 (v : Int), .int .i64 (n : Int)] w fun e w' => ∃ x, e = .returned x ∧ Row w' w.heap.size x (bitsL v n) ∧ Below w.heap.size w w' := by
 obtain ⟨i0, hi, hz0, hz1, hz2⟩ := info_parts info_bool
 have hni : (n : Int) ≤ 40 := by omega
 go_enter Tryz.func90, Tryz.ntmps90
 go_wp2
 go_loopw [0, 5, 6] (fun a o i wr => ∃ k m : Nat, k ≤ n ∧ i = .int .i64 (k : Int) ∧ a = .int .u32 (m : Int) ∧ Hid (m = v / 2 ^ k) ∧ Hid (Row wr w.heap.size o (bitsL v k)) ∧ Hid (Below w.heap.size w wr)) (fun _ _ i _ => n - (intOf i).toNat)
 case atStart => exact ⟨0, v, by omega, rfl, rfl, by show _ = _; simp, World.ownsRow_nil _ _ _ _, Below.refl _ _⟩
 case round =>
  obtain ⟨k, m, hk, rfl, rfl, hm, hrow, hB⟩ := hrel
  have hmb : (0 : Int) ≤ (m : Int) ∧ (m : Int) < 4294967296 := by
   have : v / 2 ^ k ≤ v := Nat.div_le_self _ _
   have := hm.out
   exact ⟨by omega, by omega⟩
  by_cases hlt : k < n
  · have hki : (k : Int) < (n : Int) := by omega
    have hbit : Hid (bitsL v (k + 1) = decide (m % 2 = 1) :: bitsL v k) := by
     show _ = _
     rw [hm.out]; exact bits_cons v k
    have hdiv : Hid (m / 2 = v / 2 ^ (k + 1)) := by
     show _ = _
     rw [hm.out, Nat.div_div_eq_div_mul, Nat.pow_succ]
    have hbb : ((m : Int) % 2 == 1) = decide (m % 2 = 1) := by
     rw [Bool.eq_iff_iff]; simp; omega
    rcases hrow.out.form with ⟨rfl, hz⟩ | ⟨g, cap, rfl, hc, hg, hgl⟩
    · have hr1 : Hid (Row (wr.alloc (.cells #[.bool (decide (m % 2 = 1))] 4)) w.heap.size (.slice (some ⟨wr.heap.size, 0, none⟩) 1 1) (bitsL v (k + 1))) := by
       unfold Hid Row
       rw [hbit.out, hz]; exact row_one wr _ _ hB.out.size
      have hB1 : Hid (Below w.heap.size w (wr.alloc (.cells #[.bool (decide (m % 2 = 1))] 4))) := hB.out.alloc hB.out.size _
      clear hbit hm
      go_wp2
      exact ⟨⟨k + 1, m / 2, by omega, by simp, by simp, hdiv, hr1, hB1⟩, by simp [intOf]; omega⟩
    · have hkl : (bitsL v k).length = k := bitsL_len k v
      have hone : ∀ u ∈ (bitsL v k).map Value.bool, u.oneCell' = true := fun u hu => by
       obtain ⟨b, _, rfl⟩ := List.mem_map.1 hu; rfl
      have h63 : 1 + (bitsL v k).length ≤ maxLen := by unfold maxLen; omega
      have hby : (1 + (bitsL v k).length) * 1 ≤ 140737488355328 := by omega
      have hsz := hB.out.size
      go_wp2_with (at_builtin; refine wpList_append_own _ rfl _ _ 154 rfl w.heap.size 4 i0 (.bool false) 1 1 Tryz.underlying154 hi hz0 hz1 hz2 rfl (by decide) _ _ _ rfl (row_one wr w.heap.size (decide (m % 2 = 1)) hsz) ⟨g, 0, none⟩ (bitsL v k).length cap ((bitsL v k).map Value.bool) rfl (by simp) ((World.ownsRow.alloc hrow.out _).cells rfl) hone h63 hby (by simp; omega) ?_; intro v' w1 hown' hgrow _)
      have hr1 : Row w1 w.heap.size v' (bitsL v (k + 1)) := by
       unfold Row
       rw [hbit.out, List.length_cons, Nat.add_comm]
       exact hown'
      have hB1 : Below w.heap.size w w1 := by
       refine (hB.out.alloc hsz _).grown hgrow (by simp; omega) (fun j ej => ?_)
       exact (World.ownsRow.lt (row_one wr w.heap.size (decide (m % 2 = 1)) hsz) j ej).1
      exact ⟨⟨k + 1, m / 2, by omega, by simp, by simp, hdiv, hr1, hB1⟩, by simp [intOf]; omega⟩
  · obtain rfl : k = n := by omega
    go_wp2
    go_ret
    exact ⟨_, rfl, hrow.out, hB.out⟩
theorem drop_rev (l : List Bool) {j : Nat} (h : j < l.length) : (l.drop j).reverse = (l.drop (j + 1)).reverse ++ [l[j]] := by
 rw [List.drop_eq_getElem_cons h, List.reverse_cons]
theorem turned_any (l : List Bool) (x : Value) (base : Nat) (w : World) (h : Row w base x l) (hl : l.length ≤ 40) :
 Calls Tryz.prog 91 #[x] w fun e w' => ∃ y, e = .returned y ∧ Row w' w.heap.size y l.reverse ∧ Below w.heap.size w w' := by
 obtain ⟨i0, hi, hz0, hz1, hz2⟩ := info_parts info_bool
 rcases h.form with ⟨rfl, rfl⟩ | ⟨g, cap, rfl, hc, _, hgl⟩
 · go_enter Tryz.func91, Tryz.ntmps91
   go_wp2
   go_loop [3, 4] (fun o i => o = .slice none 0 0 ∧ i = .int .i64 (-1)) (fun _ _ => 0)
   case atStart => exact ⟨rfl, rfl⟩
   case round =>
    obtain ⟨rfl, rfl⟩ := hrel
    go_wp2
    go_ret
    exact ⟨_, rfl, World.ownsRow_nil _ _ _ _, Below.refl _ _⟩
 · have HC : Hid (∀ j (hj : j < l.length), w.cell? ⟨g, j, none⟩ = some (.bool l[j])) := fun j hj => h.cell j hj
   have hl1 : (l.length : Int) ≤ 40 := by omega
   clear h
   go_enter Tryz.func91, Tryz.ntmps91
   go_wp2
   go_loopw [3, 4] (fun o i wr => ∃ j : Nat, j ≤ l.length ∧ i = .int .i64 ((j : Int) - 1) ∧ Hid (Row wr w.heap.size o (l.drop j).reverse) ∧ Hid (Below w.heap.size w wr)) (fun _ i _ => (intOf i + 1).toNat)
   case atStart => exact ⟨l.length, by omega, by simp, by unfold Hid; rw [List.drop_length]; exact World.ownsRow_nil _ _ _ _, Below.refl _ _⟩
   case round =>
    obtain ⟨j, hj, rfl, hrow, hB⟩ := hrel
    cases j with
    | zero =>
     go_wp2
     go_ret
     exact ⟨_, rfl, hrow.out, hB.out⟩
    | succ j =>
     have ej : ((j + 1 : Nat) : Int) - 1 = (j : Int) := by omega
     have hji : (j : Int) < (l.length : Int) := by omega
     have hcell : wr.cell? ⟨g, j, none⟩ = some (.bool l[j]) := (hB.out.cell (p := ⟨g, j, none⟩) hgl).trans (HC.out j (by omega))
     have hrev : Hid ((l.drop j).reverse = (l.drop (j + 1)).reverse ++ [l[j]]) := drop_rev l (by omega)
     have hlen : (l.drop (j + 1)).reverse.length ≤ 40 := by simp; omega
     have h63 : (l.drop (j + 1)).reverse.length + 1 ≤ maxLen := by unfold maxLen; omega
     have hby : ((l.drop (j + 1)).reverse.length + 1) * 1 ≤ 140737488355328 := by omega
     have hsz := hB.out.size
     generalize l[j] = b at *
     rw [ej]
     go_wp2_with (at_builtin; refine wpList_append_own _ rfl _ _ 154 rfl w.heap.size 4 i0 (.bool false) 1 1 Tryz.underlying154 hi hz0 hz1 hz2 rfl (by decide) _ _ _ rfl (World.ownsRow.alloc hrow.out _) ⟨wr.heap.size, 0, none⟩ 1 1 [.bool b] rfl rfl (cell_one_new _ _ _) (by simp [Value.oneCell']) h63 hby (by simp; omega) ?_; intro v' w1 hown' hgrow _)
     have hr1 : Row w1 w.heap.size v' (l.drop j).reverse := by
      unfold Row
      rw [hrev.out, List.length_append, List.map_append]
      exact hown'
     have hB1 : Below w.heap.size w w1 := by
      refine (hB.out.alloc hsz _).grown hgrow (by simp; omega) (fun q eq => ?_)
      exact (World.ownsRow.lt hrow.out q eq).1
     exact ⟨⟨j, by omega, by simp, hr1, hB1⟩, by simp [intOf]⟩
abbrev kv (W : Int) (p f : Nat) (t : Bool) (z : Nat) : Value := .agg #[.int .i64 W, .int .u32 (p : Int), .int .u32 (f : Int), .bool t, .int .u32 (z : Int)]
def kindB (W : Int) (p f z : Nat) : Bool := decide (W = 8 ∨ W = 16 ∨ W = 32) && (decide (p < 2 ^ W.toNat) && (decide (f < 2 ^ W.toNat) && decide (z < 2 ^ W.toNat)))
def RowW (x : World) (g cap W : Nat) (l : List Bool) : Prop :=
 l.length = W ∧ W ≤ cap ∧ cap ≤ maxLen ∧ ∃ cur : Array Value, x.heap[g]? = some (.cells cur 4 (0, 0)) ∧ cur.size = cap ∧ cur.toList.take W = l.map Value.bool
theorem RowW.lt {x : World} {g cap W : Nat} {l : List Bool} (h : RowW x g cap W l) : g < x.heap.size := by
 obtain ⟨_, _, _, cur, h4, _⟩ := h
 exact (Array.getElem?_eq_some_iff.1 h4).1
theorem RowW.row {x : World} {g cap W base : Nat} {l : List Bool} (h : RowW x g cap W l) (hb : base ≤ g) : Row x base (.slice (some ⟨g, 0, none⟩) W cap) l := by
 obtain ⟨h1, h2, h3, cur, h4, h5, h6⟩ := h
 subst h1
 exact ⟨by simp, .inr ⟨g, cap, cur, rfl, hb, h4, h2, h3, by omega, by simpa using h6⟩⟩
theorem RowW.of {x : World} {base : Nat} {v : Value} {l : List Bool} (h : Row x base v l) (hl : 0 < l.length) : ∃ g cap, v = .slice (some ⟨g, 0, none⟩) l.length cap ∧ base ≤ g ∧ RowW x g cap l.length l := by
 rcases h.2 with ⟨_, k⟩ | ⟨g, cap, cur, h1, h2, h3, h4, h5, h6, h7⟩
 · omega
 · exact ⟨g, cap, h1, h2, rfl, h4, h5, cur, h3, by omega, by simpa using h7⟩
theorem RowW.cell {x : World} {g cap W : Nat} {l : List Bool} (h : RowW x g cap W l) (j : Nat) (hj : j < l.length) : x.cell? ⟨g, j, none⟩ = some (.bool l[j]) ∧ x.frozen? ⟨g, j, none⟩ = false := by
 obtain ⟨h1, h2, h3, cur, h4, h5, h6⟩ := h
 refine ⟨?_, ?_⟩
 · have : cur[j]? = some (.bool l[j]) := by
    rw [← Array.getElem?_toList]
    have e : (cur.toList.take W)[j]? = some (.bool l[j]) := by rw [h6, List.getElem?_map, List.getElem?_eq_getElem hj]; rfl
    rwa [List.getElem?_take_of_lt (by omega)] at e
   simp [World.cell?, h4, this]
 · simp [World.frozen?, h4]
theorem RowW.block {x y : World} {g cap W : Nat} {l : List Bool} (h : RowW x g cap W l) (e : y.heap[g]? = x.heap[g]?) : RowW y g cap W l := by
 obtain ⟨h1, h2, h3, cur, h4, h5⟩ := h
 exact ⟨h1, h2, h3, cur, e.trans h4, h5⟩
theorem RowW.below {x y : World} {g cap W : Nat} {l : List Bool} (h : RowW x g cap W l) (hb : Below x.heap.size x y) : RowW y g cap W l := h.block (hb.block g h.lt)
theorem RowW.set {x : World} {g cap W : Nat} {l : List Bool} (h : RowW x g cap W l) (j : Nat) (b : Bool) : RowW (x.setCell ⟨g, j, none⟩ (.bool b)) g cap W (l.set j b) := by
 obtain ⟨h1, h2, h3, cur, h4, h5, h6⟩ := h
 refine ⟨by rw [List.length_set]; exact h1, h2, h3, cur.setIfInBounds j (.bool b), ?_, by simp [h5], ?_⟩
 · rw [setCell_eq_setRow x g j cur _ (0, 0) _ h4]; exact setRow_heap x g cur _ _ (0, 0) h4
 · rw [Array.toList_setIfInBounds, List.take_set, h6, List.map_set]
structure SumSt (w x : World) (kc : Array Value) (g cap gp capp W : Nat) (rl pl : List Bool) : Prop where
 r : RowW x g cap W rl
 p : RowW x gp capp W pl
 ne : g ≠ gp
 gl : w.heap.size < g
 gpl : w.heap.size < gp
 k : x.heap[w.heap.size]? = some (.cells kc 110 (0, 0))
 b : Below w.heap.size w x
theorem SumSt.below {w x y : World} {kc : Array Value} {g cap gp capp W : Nat} {rl pl : List Bool} (h : SumSt w x kc g cap gp capp W rl pl) (hb : Below x.heap.size x y) : SumSt w y kc g cap gp capp W rl pl :=
 ⟨h.r.below hb, h.p.below hb, h.ne, h.gl, h.gpl, (hb.block _ (Array.getElem?_eq_some_iff.1 h.k).1).trans h.k, belowT h.b hb⟩
theorem SumSt.set {w x : World} {kc : Array Value} {g cap gp capp W : Nat} {rl pl : List Bool} (h : SumSt w x kc g cap gp capp W rl pl) (j : Nat) (b : Bool) :
 SumSt w (x.setCell ⟨g, j, none⟩ (.bool b)) kc g cap gp capp W (rl.set j b) pl :=
 ⟨h.r.set j b, h.p.block (blk_far _ _ _ _ h.ne.symm), h.ne, h.gl, h.gpl, (blk_far _ _ _ _ (by have := h.gl; simp; omega)).trans h.k, h.b.setCell (p := ⟨g, j, none⟩) (Nat.le_of_lt h.gl) _⟩
def partL (j : Nat) (r c : List Bool) : List Bool := xl (r.take j) (c.take j) ++ r.drop j
theorem partL_zero (r c : List Bool) : partL 0 r c = r := by simp [partL, xl]
theorem partL_len {j : Nat} {r c : List Bool} (h : j ≤ c.length) (k : j ≤ r.length) : (partL j r c).length = r.length := by
 unfold partL
 rw [List.length_append, xl_len (by simp; omega), List.length_take, List.length_drop]; omega
theorem partL_get {j : Nat} {r c : List Bool} (h : j ≤ c.length) (k : j < r.length) (l : j < (partL j r c).length) : (partL j r c)[j] = r[j] := by
 have e : (xl (r.take j) (c.take j)).length = j := by rw [xl_len (by simp; omega), List.length_take]; omega
 have g : (partL j r c)[j]? = some r[j] := by
  unfold partL
  rw [List.getElem?_append_right (by omega), e, Nat.sub_self, List.getElem?_drop, Nat.add_zero, List.getElem?_eq_getElem k]
 rw [List.getElem?_eq_getElem l] at g
 exact Option.some.inj g
theorem partL_next {j : Nat} {r c : List Bool} (h : j < c.length) (k : j < r.length) : (partL j r c).set j (r[j] ^^ c[j]) = partL (j + 1) r c := by
 have e : (xl (r.take j) (c.take j)).length = j := by rw [xl_len (by simp; omega), List.length_take]; omega
 unfold partL
 rw [List.set_append_right _ _ (by omega), e, Nat.sub_self, List.drop_eq_getElem_cons k, List.set_cons_zero]
 rw [← List.take_append_getElem k, ← List.take_append_getElem h, xl_app (by simp; omega), List.append_assoc]
 rfl
theorem partL_mix {r c : List Bool} (h : c.length = 8) : partL 8 r c = mixL r c := by
 unfold partL mixL; rw [show c.take 8 = c from List.take_of_length_le (by omega)]
theorem partL_all {r c : List Bool} (h : c.length = r.length) : partL r.length r c = xl r c := by
 unfold partL; rw [List.take_length, ← h, List.take_length, h, List.drop_length, List.append_nil]
end Go.Proofs.YthabffjgdhfbmaaGreatDoor
