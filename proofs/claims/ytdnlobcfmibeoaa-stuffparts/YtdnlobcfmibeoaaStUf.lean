/-
  What the program's own Unstuff returns (layer 11): what stuffed bytes were, in a row of their own, or what is wrong. Conditions: marks are bytes; at most 4000 bytes.
-/
import Derived.Test.YtdnlobcfmibeoaaStStf
import Derived.Test.YtdnlobcfmibeoaaStUi
import Derived.Test.YtdnlobcfmibeoaaRange2
namespace Go.Proofs.Ytdnlobcfmibeoaa
open Go.RowKit Go.Shelf
set_option linter.unusedVariables false

attribute [local go_sem] Oper.semAt_some

theorem rowB_set {W : World} {base B : Nat} {t : TypeId} {u v : Value} {l : List Nat} (h : RowB W base v l) (hb : Boxed W B t u) (ht : t ≠ 5) (u2 : Value) : RowB (W.setCell ⟨B, 0, none⟩ u2) base v l :=
  World.ownsRow.kept h (grownBy_setCell' W B u2) (.inr (hb.not_row ht h).symm)
theorem mkB_set {W : World} {B C s e x : Nat} (h : MkB W B s e x) (hne : B ≠ C) (u : Value) : MkB (W.setCell ⟨C, 0, none⟩ u) B s e x := h.block (blk_far W ⟨C, 0, none⟩ u B hne)
/-- what Unstuff lays ahead of its rounds -/
theorem unstuff_lays (w : World) (s e x : Nat) (v : Value) (c : Nat) (hc : c ≤ 4000) : ∃ W0, (((((((w.alloc (.cells #[.int .u8 (s : Int), .int .u8 (e : Int), .int .u8 (x : Int)] 24)).alloc (.cells #[.slice none 0 0] 22)).alloc (.cells #[.int .i64 0] 28)).alloc (.cells (madeCells #[.int .u8 0] c) 5)).alloc (.cells #[.slice (some ⟨w.heap.size + 1 + 1 + 1, 0, none⟩) 0 c] 22)).alloc (.cells #[.int .u8 (s : Int), .int .u8 (e : Int), .int .u8 (x : Int)] 24)).alloc (.cells #[v] 22)) = W0 ∧
    MkB W0 w.heap.size s e x ∧ Boxed W0 (w.heap.size + 1) 22 (.slice none 0 0) ∧ Boxed W0 (w.heap.size + 1 + 1) 28 (.int .i64 0) ∧ Boxed W0 (w.heap.size + 1 + 1 + 1 + 1) 22 (.slice (some ⟨w.heap.size + 1 + 1 + 1, 0, none⟩) 0 c) ∧ RowB W0 w.heap.size (.slice (some ⟨w.heap.size + 1 + 1 + 1, 0, none⟩) 0 c) [] ∧ MkB W0 (w.heap.size + 1 + 1 + 1 + 1 + 1) s e x ∧ W0.cell? ⟨w.heap.size + 1 + 1 + 1 + 1 + 1 + 1, 0, none⟩ = some v ∧ Below w.heap.size w W0 ∧ W0.heap.size = w.heap.size + 7 := by
  refine ⟨_, rfl, ?_, ?_, ?_, ?_, ?_, ?_, ?_, ?_, ?_⟩
  · exact ((((((mkB_new w _ s e x rfl).alloc _).alloc _).alloc _).alloc _).alloc _).alloc _
  · exact (((((box_at _ _ _ _ (by simp)).alloc _).alloc _).alloc _).alloc _).alloc _
  · exact ((((box_at _ _ _ _ (by simp)).alloc _).alloc _).alloc _).alloc _
  · exact ((box_at _ _ _ _ (by simp)).alloc _).alloc _
  · have h := World.ownsRow_made (base := w.heap.size) (size := 1) (e := 5) (((w.alloc (.cells #[.int .u8 (s : Int), .int .u8 (e : Int), .int .u8 (x : Int)] 24)).alloc (.cells #[.slice none 0 0] 22)).alloc (.cells #[.int .i64 0] 28)) (madeCells #[.int .u8 0] c) c (by simp; omega) (by unfold maxLen; omega) (by rw [size_madeCells]; omega)
    rw [World.size_alloc, World.size_alloc, World.size_alloc] at h
    exact ((h.alloc _).alloc _).alloc _
  · exact (mkB_new _ _ s e x (by simp)).alloc _
  · exact (box_at _ _ 22 v (by simp)).cell
  · go_grown
  · simp
/-- between the rounds -/
def UnI (w : World) (s e x : Nat) (L : List (Nat × Nat)) (pre : List (Fin L.length)) (W : World) : Prop :=
  (∃ v, Boxed W (w.heap.size + 1 + 1 + 1 + 1) 22 v ∧ RowB W w.heap.size v (pre.map fun y => L[y.1].1)) ∧ (∀ y ∈ pre, L[y.1].2 = 0) ∧ MkB W w.heap.size s e x ∧ MkB W (w.heap.size + 1 + 1 + 1 + 1 + 1) s e x ∧ Boxed W (w.heap.size + 1) 22 (.slice none 0 0) ∧ Boxed W (w.heap.size + 1 + 1) 28 (.int .i64 0) ∧ Below w.heap.size w W
/-- a round has left -/
def UnX (w : World) (L : List (Nat × Nat)) (c : Code) (pre : List (Fin L.length)) (W : World) : Prop :=
  (c = .ret ∧ ∃ q y, pre = q ++ [y] ∧ ¬ L[y.1].2 = 0 ∧ Boxed W (w.heap.size + 1 + 1) 28 (.int .i64 ((L[y.1].2 : Nat) : Int))) ∧ Boxed W (w.heap.size + 1) 22 (.slice none 0 0) ∧ Below w.heap.size w W
theorem box_own {X Y : World} {row : Option Nat} {B : Nat} {t : TypeId} {v : Value} (h : Boxed X B t v) (hg : X.grownBy Y row) (hr : ∀ r, row = some r → ∃ o : Obj, X.heap[r]? = some o ∧ o.isCells = false) : Boxed Y B t v := boxed_own B t (fun _ : Unit => v) () X Y row h hg hr
theorem unI_own (w : World) (s e x : Nat) (L : List (Nat × Nat)) (B : Nat) (hB : w.heap.size ≤ B) : OwnFrom B (UnI w s e x L) := fun pre X Y row ⟨⟨v, h1, h2⟩, hz, b0, b1, c1, c2, b2⟩ hg hr =>
  have hr2 : ∀ r, row = some r → ∃ o : Obj, X.heap[r]? = some o ∧ o.isCells = false := fun r e => (hr r e).2
  ⟨⟨v, box_own h1 hg hr2, rowB_own h2 hg hr2⟩, hz, mkB_own _ _ _ _ b0 hg hr2, mkB_own _ _ _ _ b1 hg hr2, box_own c1 hg hr2, box_own c2 hg hr2, b2.grown hg b2.size (fun k e => Nat.le_trans hB (hr k e).1)⟩
theorem unX_own (w : World) (L : List (Nat × Nat)) (B : Nat) (hB : w.heap.size ≤ B) (c : Code) : OwnFrom B (UnX w L c) := fun pre X Y row ⟨⟨hc, q, y, e, h1, h2⟩, b1, hb⟩ hg hr =>
  have hr2 : ∀ r, row = some r → ∃ o : Obj, X.heap[r]? = some o ∧ o.isCells = false := fun r e => (hr r e).2
  ⟨⟨hc, q, y, e, h1, box_own h2 hg hr2⟩, box_own b1 hg hr2, hb.grown hg hb.size (fun k e => Nat.le_trans hB (hr k e).1)⟩
/-- a byte more, and its slice back in its box -/
theorem UnI.more {w W y : World} {s e x : Nat} {L : List (Nat × Nat)} {pre : List (Fin L.length)} {z : Fin L.length} {v v' : Value} {tmp : Obj} {G : Nat} (hG : G < w.heap.size ∨ G = w.heap.size) (bR : Boxed W (w.heap.size + 1 + 1 + 1 + 1) 22 v) (ro : RowB W w.heap.size v (pre.map fun y => L[y.1].1)) (hz : ∀ y ∈ pre, L[y.1].2 = 0) (hz1 : L[z.1].2 = 0) (b0 : MkB W w.heap.size s e x) (b1 : MkB W (w.heap.size + 1 + 1 + 1 + 1 + 1) s e x) (c1 : Boxed W (w.heap.size + 1) 22 (.slice none 0 0)) (c2 : Boxed W (w.heap.size + 1 + 1) 28 (.int .i64 0)) (hB : Below w.heap.size w W)
    (hO : y.ownsRow w.heap.size 5 1 v' (pre.length + 1) (u8v (pre.map fun y => L[y.1].1) ++ [.int .u8 ((L[z.1].1 : Nat) : Int)])) (gO : (W.alloc tmp).grownBy y v.ownBlock) :
    Boxed y (w.heap.size + 1 + 1 + 1 + 1) 22 v ∧ KeepsOthers W (y.setCell ⟨w.heap.size + 1 + 1 + 1 + 1, 0, none⟩ v') ∧ KeepD G (w.heap.size + 1 + 1 + 1 + 1 + 1) W (y.setCell ⟨w.heap.size + 1 + 1 + 1 + 1, 0, none⟩ v') ∧ UnI w s e x L (pre ++ [z]) (y.setCell ⟨w.heap.size + 1 + 1 + 1 + 1, 0, none⟩ v') := by
  obtain ⟨hv1, hv2, hr2, hk2, hb2⟩ := bR.appended (by decide) ro hB.size (by omega) hO gO
  have mk : ∀ B, MkB W B s e x → B ≠ w.heap.size + 1 + 1 + 1 + 1 → (y.setCell ⟨w.heap.size + 1 + 1 + 1 + 1, 0, none⟩ v').heap[B]? = W.heap[B]? := fun B hm hne => by
    rw [blk_far _ _ _ _ hne]
    have h1 := gO.block B (by rw [World.size_alloc]; have := (Array.getElem?_eq_some_iff.1 hm).1; omega) (by
      intro e'
      rcases ro.2 with ⟨e, _⟩ | ⟨g, cap, cur, e, _, hgb, _⟩
      · rw [e] at e'; cases e'
      · rw [e] at e'
        have : B = g := by simpa [Value.ownBlock] using e'
        subst this
        rw [show W.heap[B]? = _ from hm] at hgb
        cases hgb)
    rw [h1]
    exact (hm.alloc tmp).trans hm.symm
  have k0 := mk _ b0 (by omega)
  have k1 := mk _ b1 (by omega)
  have keep : ∀ {B : Nat} {t : TypeId} {u : Value}, Boxed W B t u → t ≠ 5 → B ≠ w.heap.size + 1 + 1 + 1 + 1 → Boxed (y.setCell ⟨w.heap.size + 1 + 1 + 1 + 1, 0, none⟩ v') B t u := fun hb ht hB =>
    ((hb.alloc tmp).kept gO (hb.not_row ht ro)).other hB _
  refine ⟨hv1, hk2, ⟨?_, k1⟩, ⟨_, hv2, ?_⟩, ?_, b0.block k0, b1.block k1, keep c1 (by decide) (by omega), keep c2 (by decide) (by omega), hB.trans hb2⟩
  · rcases hG with h | h
    · exact hb2.block G h
    · rw [h]; exact k0
  · unfold RowB
    have e1 : (pre ++ [z]).map (fun y => L[y.1].1) = pre.map (fun y => L[y.1].1) ++ [L[z.1].1] := by rw [List.map_append]; rfl
    rw [e1, show (pre.map (fun y : Fin L.length => L[y.1].1) ++ [L[z.1].1]).length = pre.length + 1 from by simp, show u8v (pre.map (fun y : Fin L.length => L[y.1].1) ++ [L[z.1].1]) = u8v (pre.map fun y : Fin L.length => L[y.1].1) ++ [.int .u8 ((L[z.1].1 : Nat) : Int)] from List.map_append]
    exact hr2
  · intro u hu
    rcases List.mem_append.1 hu with h | h
    · exact hz u h
    · rw [List.mem_singleton.1 h]; exact hz1
theorem map_fst_fin (L : List (Nat × Nat)) : (List.finRange L.length).map (fun y => L[y.1].1) = L.map (·.1) := by
  apply List.ext_getElem
  · simp
  · intro i h1 h2; simp
/-- all of it is handed on: the bytes -/
theorem uns_done {s e x : Nat} {bs : List Nat} {L : List (Nat × Nat)} (hL : unsW s e x false bs = L) (hz : ∀ y ∈ List.finRange L.length, L[y.1].2 = 0) : unsM s e x bs = (L.map (·.1), 0) := by
  subst hL
  rcases uns_tell s e x bs with ⟨l, h1, h2⟩ | ⟨oks, k, hk, h1, h2⟩
  · rw [h2, h1, List.map_map]
    congr 1
    exact (List.map_id' l).symm
  · exfalso
    have h3 : (0, k) ∈ unsW s e x false bs := by rw [h1]; simp
    obtain ⟨i, hi, h4⟩ := List.mem_iff_getElem.1 h3
    have := hz ⟨i, hi⟩ (List.mem_finRange _)
    rw [h4] at this
    exact hk this
theorem uns_left {s e x : Nat} {bs : List Nat} {L : List (Nat × Nat)} (hL : unsW s e x false bs = L) {y : Fin L.length} (hy : ¬ L[y.1].2 = 0) : unsM s e x bs = ([], L[y.1].2) := by
  have g : L[y.1] ∈ L := List.getElem_mem y.2
  generalize L[y.1] = u at *
  subst hL
  rcases uns_tell s e x bs with ⟨l, h1, h2⟩ | ⟨oks, k, hk, h1, h2⟩
  · exfalso
    rw [h1] at g
    obtain ⟨a, _, rfl⟩ := List.mem_map.1 g
    exact hy rfl
  · rw [h1] at g
    rcases List.mem_append.1 g with g | g
    · obtain ⟨a, _, rfl⟩ := List.mem_map.1 g
      exact absurd rfl hy
    · rw [h2, List.mem_singleton.1 g]
set_option maxRecDepth 100000 in
set_option maxHeartbeats 4000000 in
theorem unstuff_in (F : Fence) (n : Nat) (h1 : F.fn 11) (h2 : F.fn 17) (h3 : F.fn 19) (hro : F.round = none) (hn : 3 ≤ n) (w : World) (s e x : Nat) (bs : List Nat) (hl : (bs.length : Int) ≤ 4000) (L : List (Nat × Nat)) (hL : unsW s e x false bs = L) (hL4 : (L.length : Int) ≤ 4001) (hL10 : ∀ y : Fin L.length, (L[y.1].2 : Nat) ≤ 10) (p : Option Addr) (cap : Nat) (G : Nat) (hg : ByG w G p bs) (hG : G < w.heap.size ∨ (p = none ∧ bs = []))
    (cM : Hid (∀ m x', CallsIn F m Try.prog 17 #[.agg #[.int .u8 (s : Int), .int .u8 (e : Int), .int .u8 (x : Int)], .slice p bs.length cap] x' fun E w' => E = .returned (.func (.func 19) #[] #[.pointer (some ⟨x'.heap.size + 1, 0, none⟩), .pointer (some ⟨x'.heap.size, 0, none⟩)]) ∧ w' = (x'.alloc (.cells #[.int .u8 (s : Int), .int .u8 (e : Int), .int .u8 (x : Int)] 24)).alloc (.cells #[.slice p bs.length cap] 22)))
    (cS : Hid (∀ m W0 Bb Bm H, 1 ≤ m → Bb < W0.heap.size → Bm < W0.heap.size → H < W0.heap.size → W0.cell? ⟨Bb, 0, none⟩ = some (.slice p bs.length cap) → MkB W0 Bm s e x → ByG W0 H p bs → SeqStopsK F m Try.prog 19 #[.pointer (some ⟨Bb, 0, none⟩), .pointer (some ⟨Bm, 0, none⟩)] (fun y : Fin L.length => #[.int .u8 ((L[y.1].1 : Nat) : Int), .int .i64 ((L[y.1].2 : Nat) : Int)]) (KeepD H Bm) (fun xs => xs = List.finRange L.length) (fun pre => pre <+: List.finRange L.length) L.length W0)) :
    CallsIn F n Try.prog 11 #[.agg #[.int .u8 (s : Int), .int .u8 (e : Int), .int .u8 (x : Int)], .slice p bs.length cap] w fun E w' => ∃ y, E = .returned (.tuple #[y, .int .i64 (((unsM s e x bs).2 : Nat) : Int)]) ∧ RowB w' w.heap.size y (unsM s e x bs).1 ∧ Below w.heap.size w w' := by
  have hn1 : 1 ≤ n := by omega
  obtain ⟨i0, hi, hz0, hz1, hz2⟩ := info_parts info_u8
  have hmk : ∀ w, (Instr.makeSlice 22 (.int .i64 0) (.int .i64 (bs.length : Nat))).run Try.prog w = .ok (.slice (some ⟨w.heap.size, 0, none⟩) 0 bs.length) (w.alloc (.cells (madeCells #[.int .u8 0] bs.length) 5)) := fun w => by
    have := run_make (P := Try.prog) w 22 5 i0 (.int .u8 0) Try.underlying22 hi hz0 .i64 .i64 0 bs.length (Int.le_refl _) (by omega) (by rw [hz2]; omega) (by omega)
    simpa [hz1, Value.cells] using this
  refine callsIn_of_wp_marks Try.func11 rfl h1 ?_ hro
  simp only [Try.ntmps11, List.size_toArray, List.length_cons, List.length_nil, Nat.reduceAdd, Nat.reduceSub, Array.replicate_succ, Array.replicate_zero, List.push_toArray, List.append_toArray, List.nil_append, List.cons_append]
  gi_wp2_with (gi_at_call 17; refine (cM.out _ _).mono ?_; rintro E w' ⟨rfl, rfl⟩)
  obtain ⟨W0, hW0, b0, c1, c2, bR, ro, b1, cb, hB0, hsz⟩ := unstuff_lays w s e x (.slice p bs.length cap) bs.length (by omega)
  rw [hW0]
  clear hW0 cM hmk
  obtain ⟨H, hH, gH⟩ : ∃ H, (H < w.heap.size ∨ H = w.heap.size) ∧ ByG W0 H p bs := by
    rcases hG with h | ⟨rfl, rfl⟩
    · exact ⟨G, .inl h, hg.block (hB0.block G h)⟩
    · exact ⟨w.heap.size, .inr rfl, .inl ⟨rfl, rfl⟩⟩
  have hd1 : Hid ((∀ y ∈ List.finRange L.length, L[y.1].2 = 0) → unsM s e x bs = (L.map (·.1), 0)) := fun hz => uns_done hL hz
  have hl1 : Hid (∀ y : Fin L.length, ¬ L[y.1].2 = 0 → unsM s e x bs = ([], L[y.1].2)) := fun y hy => uns_left hL hy
  clear hL
  refine range2 15 16 7 8 (fun y : Fin L.length => .int .u8 ((L[y.1].1 : Nat) : Int)) (fun y : Fin L.length => .int .i64 ((L[y.1].2 : Nat) : Int)) hro hn1 (gf := 19) (lb := #[.pointer (some ⟨w.heap.size + 1 + 1 + 1 + 1 + 1 + 1, 0, none⟩), .pointer (some ⟨w.heap.size + 1 + 1 + 1 + 1 + 1, 0, none⟩)]) rfl h3 (enters_of Try.func19 (by kernel_rfl) rfl)
    (cS.out (n - 1) W0 _ _ H (by omega) (by omega) (by omega) (by omega) cb b1 gH) (KeepD.trans) (fun W l o o' hl _ _ _ => KeepD.put (w := W0) (by omega) (by omega) W l o o' hl) (Below.refl _ _) rfl
    (UnI w s e x L) (UnX w L) (unI_own w s e x L _ (by omega)) (unX_own w L _ (by omega))
    ⟨⟨_, bR, ro⟩, (fun y hy => by cases hy), b0, b1, c1, c2, hB0⟩
    ?assign ?body ?done ?stop (fun W => KeepD.refl _ _ W)
  case assign =>
    intro l y W K hK
    simp only [upd2, List.setIfInBounds_toArray, List.set_cons_zero, List.set_cons_succ] at hK
    gi_wp2
    exact hK
  case body =>
    rintro l pre y W ⟨⟨v, hv, hrow⟩, hz, m0, m1, c1, c2, hB⟩ hlt
    simp only [upd2, List.setIfInBounds_toArray, List.set_cons_zero, List.set_cons_succ]
    have hszB := hB.size
    clear bR ro b0 b1 cb cS gH hg hd1 hl1
    by_cases hk : L[y.1].2 = 0
    · have hc := hv.cell
      have hrow2 : Hid (W.ownsRow w.heap.size 5 1 v pre.length (u8v (pre.map fun y => L[y.1].1))) := by
        have h : W.ownsRow w.heap.size 5 1 v (pre.map fun y => L[y.1].1).length (u8v (pre.map fun y => L[y.1].1)) := hrow
        rw [List.length_map] at h
        exact h
      replace hrow : Hid (RowB W w.heap.size v (pre.map fun y => L[y.1].1)) := hrow
      replace hz : Hid _ := hz
      rw [hk, show ((0 : Nat) : Int) = 0 from rfl]
      replace hk : Hid _ := hk
      gi_wp2_with (gi_at_builtin; refine wpListIn_append_own _ rfl _ _ 22 rfl w.heap.size 5 i0 (.int .u8 0) 1 1 Try.underlying22 hi hz0 hz1 hz2 rfl (by decide) _ _ _ rfl (World.ownsRow.alloc hrow2.out _) ⟨W.heap.size, 0, none⟩ 1 1 [.int .u8 ((L[y.1].1 : Nat) : Int)] rfl rfl (cell_one_new _ _ _) (by simp [Value.oneCell']) (by unfold maxLen; omega) (by omega) (by simp; omega) ?_; intro v' w1 hown' hgrow _; obtain ⟨g', cap', rfl⟩ := ownsRow_succ hown'; obtain ⟨hv1, hk2, hko, hst⟩ := UnI.more hH hv hrow.out hz.out hk.out m0 m1 c1 c2 hB hown' hgrow; have hc1 := hv1.cell; have hf1 := hv1.frozen)
      exact ⟨hk2.from _, hko, hst⟩
    · have XX : Hid (UnX w L .ret (pre ++ [y]) ((W.setCell ⟨w.heap.size + 1, 0, none⟩ (.slice none 0 0)).setCell ⟨w.heap.size + 1 + 1, 0, none⟩ (.int .i64 ((L[y.1].2 : Nat) : Int)))) :=
        ⟨⟨rfl, pre, y, rfl, hk, (c2.other (by omega) _).set _⟩, (c1.set _).other (by omega) _,
          (hB.setCell (p := ⟨w.heap.size + 1, 0, none⟩) (by show w.heap.size ≤ w.heap.size + 1; omega) _).setCell (p := ⟨w.heap.size + 1 + 1, 0, none⟩) (by show w.heap.size ≤ w.heap.size + 1 + 1; omega) _⟩
      have KK : Hid (KeepsOthers W ((W.setCell ⟨w.heap.size + 1, 0, none⟩ (.slice none 0 0)).setCell ⟨w.heap.size + 1 + 1, 0, none⟩ (.int .i64 ((L[y.1].2 : Nat) : Int)))) := (KeepsOthers.setCell W _ _).trans (KeepsOthers.setCell _ _ _)
      have hE1 : (((L[y.1].2 : Nat) : Int) == 0) = false := by rw [beq_eq_false_iff_ne]; omega
      have hE2 : (((L[y.1].2 : Nat) : Int) != 0) = true := by rw [bne, hE1]; rfl
      have d1 := c1.cell
      have f1 := c1.frozen
      have d2 := c2.cell
      have f2 := c2.frozen
      clear hrow hz hv m0 m1 hk
      generalize L[y.1].2 = k at *
      gi_wp2
      exact ⟨KK.out.from _, XX.out⟩
  case done =>
    rintro D ys W hD rfl ⟨⟨v, hv, hrow⟩, hz, _, _, c1, c2, hB⟩ hK
    have hu := hd1.out hz
    rw [map_fst_fin] at hrow
    obtain ⟨ls, hls⟩ : ∃ ls, L.map (·.1) = ls := ⟨_, rfl⟩
    rw [hls] at hrow hu
    clear hls
    replace hu : Hid (unsM s e x bs = (ls, 0)) := hu
    have cR := hv.cell
    have d1 := c1.cell
    have f1 := c1.frozen
    have d2 := c2.cell
    have f2 := c2.frozen
    replace hz : Hid _ := hz
    have hrf := hrow.form
    clear hd1 hl1 hz
    rcases hrf with ⟨rfl, _⟩ | ⟨g, cap, rfl, _, _, _⟩
    · have hu := hu.out
      gi_wp2
      have hK' := ((KeepsOthers.setCell W ⟨w.heap.size + 1, 0, none⟩ (.slice none 0 0)).trans (KeepsOthers.setCell _ ⟨w.heap.size + 1 + 1, 0, none⟩ (.int .i64 0))).same D _ hK rfl
      have R1 := ((c1.set (.slice none 0 0)).other (B' := w.heap.size + 1 + 1) (by omega) (.int .i64 0)).kept (grownBy_putObj' _ D (.deferred none)) (fun e => by injection e with e; omega)
      have R2 := ((c2.other (B' := w.heap.size + 1) (by omega) (.slice none 0 0)).set (.int .i64 0)).kept (grownBy_putObj' _ D (.deferred none)) (fun e => by injection e with e; omega)
      have ro2 := rowB_set (rowB_set hrow c1 (by decide) (.slice none 0 0)) (c2.other (B' := w.heap.size + 1) (by omega) (.slice none 0 0)) (by decide) (.int .i64 0)
      have hB2 := (hB.setCell (p := ⟨w.heap.size + 1, 0, none⟩) (by show w.heap.size ≤ w.heap.size + 1; omega) (.slice none 0 0)).setCell (p := ⟨w.heap.size + 1 + 1, 0, none⟩) (by show w.heap.size ≤ w.heap.size + 1 + 1; omega) (.int .i64 0)
      refine ⟨by simp, .inl ⟨_, _, rfl, run_takeDeferred hK', ?_⟩⟩
      refine ⟨.tuple #[(.slice none 0 0), .int .i64 0], ?_, _, by rw [hu]; rfl, by rw [hu]; exact ownsRow_putObj ro2 _ hK' rfl, hB2.trans (belowK_b (w := w) (Nat.le_refl _) _ D _ _ (by omega) hK' rfl rfl)⟩
      have c1 := R1.cell
      have c2 := R2.cell
      simp [results, Try.f11, go_sem, c1, c2]
    · have hu := hu.out
      gi_wp2
      have hK' := ((KeepsOthers.setCell W ⟨w.heap.size + 1, 0, none⟩ (.slice (some ⟨g, 0, none⟩) ls.length cap)).trans (KeepsOthers.setCell _ ⟨w.heap.size + 1 + 1, 0, none⟩ (.int .i64 0))).same D _ hK rfl
      have R1 := ((c1.set (.slice (some ⟨g, 0, none⟩) ls.length cap)).other (B' := w.heap.size + 1 + 1) (by omega) (.int .i64 0)).kept (grownBy_putObj' _ D (.deferred none)) (fun e => by injection e with e; omega)
      have R2 := ((c2.other (B' := w.heap.size + 1) (by omega) (.slice (some ⟨g, 0, none⟩) ls.length cap)).set (.int .i64 0)).kept (grownBy_putObj' _ D (.deferred none)) (fun e => by injection e with e; omega)
      have ro2 := rowB_set (rowB_set hrow c1 (by decide) (.slice (some ⟨g, 0, none⟩) ls.length cap)) (c2.other (B' := w.heap.size + 1) (by omega) (.slice (some ⟨g, 0, none⟩) ls.length cap)) (by decide) (.int .i64 0)
      have hB2 := (hB.setCell (p := ⟨w.heap.size + 1, 0, none⟩) (by show w.heap.size ≤ w.heap.size + 1; omega) (.slice (some ⟨g, 0, none⟩) ls.length cap)).setCell (p := ⟨w.heap.size + 1 + 1, 0, none⟩) (by show w.heap.size ≤ w.heap.size + 1 + 1; omega) (.int .i64 0)
      refine ⟨by simp, .inl ⟨_, _, rfl, run_takeDeferred hK', ?_⟩⟩
      refine ⟨.tuple #[(.slice (some ⟨g, 0, none⟩) ls.length cap), .int .i64 0], ?_, _, by rw [hu]; rfl, by rw [hu]; exact ownsRow_putObj ro2 _ hK' rfl, hB2.trans (belowK_b (w := w) (Nat.le_refl _) _ D _ _ (by omega) hK' rfl rfl)⟩
      have c1 := R1.cell
      have c2 := R2.cell
      simp [results, Try.f11, go_sem, c1, c2]
  case stop =>
    rintro D c pre W hD hpre ⟨⟨rfl, q, y, rfl, hy, c2⟩, c1, hB⟩ hK
    have hu := hl1.out y hy
    clear hd1 hl1
    gi_wp2
    have R1 := c1.kept (grownBy_putObj' _ D (.deferred none)) (fun e => by injection e with e; omega)
    have R2 := c2.kept (grownBy_putObj' _ D (.deferred none)) (fun e => by injection e with e; omega)
    refine ⟨by simp, .inl ⟨_, _, rfl, run_takeDeferred hK, ?_⟩⟩
    refine ⟨.tuple #[(.slice none 0 0), .int .i64 ((L[y.1].2 : Nat) : Int)], ?_, _, by rw [hu], by rw [hu]; exact World.ownsRow_nil _ _ _ _, hB.trans (belowK_b (w := w) (Nat.le_refl _) W D _ _ (by omega) hK rfl rfl)⟩
    have c1 := R1.cell
    have c2 := R2.cell
    simp [results, Try.f11, go_sem, c1, c2]
/-- what Unstuff returns -/
theorem unstuff_any (w : World) (s e x : Nat) (hs : s < 256) (he : e < 256) (hx : x < 256) (v : Value) (bs : List Nat) (h : BytesAt w v bs) (hb : AllBytes bs) (hl : bs.length ≤ 4000) :
    Calls Try.prog 11 #[.agg #[.int .u8 (s : Int), .int .u8 (e : Int), .int .u8 (x : Int)], v] w fun E w' => ∃ y, E = .returned (.tuple #[y, .int .i64 (((unsM s e x bs).2 : Nat) : Int)]) ∧ RowB w' w.heap.size y (unsM s e x bs).1 ∧ Below w.heap.size w w' := by
  obtain ⟨G, p, cap, rfl, hg, hG⟩ := h.by2
  have hm := unsW_len s e x bs false
  exact (callsIn_wide (n := 3)).1 (unstuff_in Fence.wide 3 trivial trivial trivial rfl (Nat.le_refl _) w s e x bs (by omega) _ rfl (by omega) (fun y => (unsW_small hx bs false hb _ (List.getElem_mem y.2)).2) p cap G hg hG
    (fun m x' => callsIn_wide.2 (unstuffed_mk x' s e x p bs.length cap))
    (fun m W0 Bb Bm H h1 h2 h3 h4 hc hm hy => unstuffed_stops m h1 s e x hs he hx bs hb hl _ rfl Bb Bm H p cap W0 h2 h3 h4 hc hm hy))
end Go.Proofs.Ytdnlobcfmibeoaa
