/-
  What the program's own Stuff returns (layer 11): the bytes that bytes are stuffed to, in a row of their own. Conditions: marks are bytes; at most 2000 bytes.
-/
import Derived.Handy
import Derived.Maps.OwnIn
import Derived.Maps.AppendAt
import Derived.Laws.MakeOwn
import Derived.Test.YtdnlobcfmibeoaaStIt
namespace Go.Proofs.Ytdnlobcfmibeoaa
open Go.RowKit Go.Shelf
set_option linter.unusedVariables false

attribute [local go_sem] Oper.semAt_some

theorem stuffed_stops (n : Nat) (hn : 1 ≤ n) (s e x : Nat) (hs : s < 256) (he : e < 256) (hx : x < 256) (bs : List Nat) (hbs : AllBytes bs) (hl : bs.length ≤ 2000)
    (L : List Nat) (hL : stuL s e x bs = L) (Bb Bm G : Nat) (p : Option Addr) (cap : Nat) (w : World) (hB : Bb < w.heap.size) (hM : Bm < w.heap.size) (hG : G < w.heap.size) (hw : w.cell? ⟨Bb, 0, none⟩ = some (.slice p bs.length cap)) (hm : MkB w Bm s e x) (hg : ByG w G p bs) :
    SeqStopsK Fence.wide n Try.prog 18 #[.pointer (some ⟨Bb, 0, none⟩), .pointer (some ⟨Bm, 0, none⟩)] (fun y : Fin L.length => #[.int .u8 ((L[y.1] : Nat) : Int)]) (KeepD G Bm) (fun xs => xs = List.finRange L.length) (fun pre => pre <+: List.finRange L.length) L.length w := fun l J Jx W hbl hJ _ hY h0 =>
  stuffed_in Fence.wide n trivial rfl hn s e x hs he hx bs hbs hl L hL Bb Bm G p cap l J Jx W hJ ((hbl.cell (p := ⟨Bb, 0, none⟩) hB).trans hw) (hm.block (hbl.block _ hM)) (hg.block (hbl.block _ hG)) hY h0
/-- one loop variable: laid at i1, assigned to s1 -/
def upd1 (a : Act) (i1 s1 : Nat) (u : Value) : Act := { tmps := (a.tmps.setIfInBounds i1 u).setIfInBounds s1 u, defers := [] }
theorem range1 {F : Fence} {n : Nat} {P : Program} {α : Type} {g : Operand} {ps : Array Tmp} {assign body : Code} {Q : Exit → Act → World → Prop} {a : Act} {w : World} (i1 s1 : Nat) (u : α → Value)
    (hro : F.round = none) (h1 : 1 ≤ n) {gf : Nat} {lb : Array Value} (hg : a.eval g = .func (.func gf) #[] lb) (hFg : F.fn gf) (eg : ∀ args w, (callFunc gf args).run P w = .ok (.enter gf args) w)
    {Kp : World → World → Prop} {S Sp : List α → Prop} {N : Nat} {w0 : World} (hseq : SeqStopsK F (n - 1) P gf lb (fun x => #[u x]) Kp S Sp N w0)
    (hKt : ∀ {A B C : World}, Kp A B → Kp B C → Kp A C) (hKb : ∀ (W : World) (l : Nat) (o o' : Obj), w.heap.size ≤ l → W.heap[l]? = some o → o.isCells = false → o.isWalk = false → Kp W (W.putObj l o')) (hb0 : Below w0.heap.size w0 w) (hps : ps.size = 1)
    (I : List α → World → Prop) (Ix : Code → List α → World → Prop) (hI : OwnFrom w.heap.size I) (hIx : ∀ c, OwnFrom w.heap.size (Ix c)) (h0 : I [] w)
    (hassign : ∀ (l : Nat) (x : α) (W : World) (K : Act → World → Prop), K (upd1 a i1 s1 (u x)) W →
      assign.wpIn (F.inRound l) (n - 1 - 1) P (Exit.then K (fun _ _ _ => False)) { tmps := (ps.zip #[u x]).foldl (fun t (p, v) => t.setIfInBounds p v) a.tmps, defers := [] } W)
    (hbody : ∀ (l : Nat) (pre : List α) (x : α) (W : World), I pre W → pre.length < N → body.wpIn (F.inRound l) (n - 1 - 1) P (ownPostG w.heap.size Kp I Ix (pre ++ [x]) W) (upd1 a i1 s1 (u x)) W)
    (hdone : ∀ (D : Nat) (xs : List α) (W : World), w.heap.size ≤ D → S xs → I xs W → W.heap[D]? = some (.deferred (some [])) → Q .normal { a with defers := { target := .collected D, args := #[] } :: a.defers } W)
    (hstop : ∀ (D : Nat) (c : Code) (pre : List α) (W : World), w.heap.size ≤ D → Sp pre → Ix c pre W → W.heap[D]? = some (.deferred (some [])) → c.wpIn F n P Q { a with defers := { target := .collected D, args := #[] } :: a.defers } W)
    (hKr : ∀ W, Kp W W) : (Code.rangeFunc g ps assign body).wpIn F n P Q a w :=
  wpIn_rangeFunc_ownG_of_H hro h1 hg hFg eg hseq hKt hKb hb0 (fun x => by rw [hps]; rfl) I Ix hI hIx h0 (fun x => upd1 a i1 s1 (u x)) hassign hbody hdone hstop hKr
theorem MkB.alloc {W : World} {B s e x : Nat} (h : MkB W B s e x) (o : Obj) : MkB (W.alloc o) B s e x :=
  h.block ((World.grownBy_alloc W o none).block _ (Array.getElem?_eq_some_iff.1 h).1 (fun e => by cases e))
theorem mkB_new (W : World) (B s e x : Nat) (hB : W.heap.size = B) : MkB (W.alloc (.cells #[.int .u8 (s : Int), .int .u8 (e : Int), .int .u8 (x : Int)] 24)) B s e x := by
  subst hB; exact World.alloc_heap_new W _
theorem box_at (x : World) (B : Nat) (t : TypeId) (v : Value) (h : x.heap.size = B) : Boxed (x.alloc (.cells #[v] t)) B t v := by subst h; exact Boxed.new x t v
/-- what Stuff lays ahead of its rounds -/
theorem stuff_lays (w : World) (s e x : Nat) (v : Value) (c : Nat) (hc : c ≤ 2000) : ∃ W0, (((((w.alloc (.cells #[.int .u8 (s : Int), .int .u8 (e : Int), .int .u8 (x : Int)] 24)).alloc (.cells (madeCells #[.int .u8 0] c) 5)).alloc (.cells #[.slice (some ⟨w.heap.size + 1, 0, none⟩) 0 c] 22)).alloc (.cells #[.int .u8 (s : Int), .int .u8 (e : Int), .int .u8 (x : Int)] 24)).alloc (.cells #[v] 22)) = W0 ∧
    MkB W0 w.heap.size s e x ∧ Boxed W0 (w.heap.size + 1 + 1) 22 (.slice (some ⟨w.heap.size + 1, 0, none⟩) 0 c) ∧ RowB W0 w.heap.size (.slice (some ⟨w.heap.size + 1, 0, none⟩) 0 c) [] ∧ MkB W0 (w.heap.size + 1 + 1 + 1) s e x ∧ W0.cell? ⟨w.heap.size + 1 + 1 + 1 + 1, 0, none⟩ = some v ∧ Below w.heap.size w W0 ∧ W0.heap.size = w.heap.size + 5 := by
  refine ⟨_, rfl, ?_, ?_, ?_, ?_, ?_, ?_, ?_⟩
  · exact ((((mkB_new w _ s e x rfl).alloc _).alloc _).alloc _).alloc _
  · exact ((box_at _ _ _ _ (by simp)).alloc _).alloc _
  · have h := World.ownsRow_made (base := w.heap.size) (size := 1) (e := 5) (w.alloc (.cells #[.int .u8 (s : Int), .int .u8 (e : Int), .int .u8 (x : Int)] 24)) (madeCells #[.int .u8 0] c) c (by simp) (by unfold maxLen; omega) (by rw [size_madeCells]; omega)
    rw [World.size_alloc] at h
    exact ((h.alloc _).alloc _).alloc _
  · exact (mkB_new _ _ s e x (by simp)).alloc _
  · exact (box_at _ _ 22 v (by simp)).cell
  · go_grown
  · simp
/-- between the rounds -/
def StI (w : World) (s e x : Nat) (L : List Nat) (pre : List (Fin L.length)) (W : World) : Prop :=
  (∃ v, Boxed W (w.heap.size + 1 + 1) 22 v ∧ RowB W w.heap.size v (pre.map fun y => L[y.1])) ∧ MkB W w.heap.size s e x ∧ MkB W (w.heap.size + 1 + 1 + 1) s e x ∧ Below w.heap.size w W
theorem mkB_own (B s e x : Nat) {X Y : World} {row : Option Nat} (h : MkB X B s e x) (hg : X.grownBy Y row) (hr : ∀ r, row = some r → ∃ o : Obj, X.heap[r]? = some o ∧ o.isCells = false) : MkB Y B s e x := by
  refine h.block (hg.block _ (Array.getElem?_eq_some_iff.1 h).1 ?_)
  intro e'
  obtain ⟨o, ho, hc⟩ := hr B e'.symm
  rw [show X.heap[B]? = _ from h] at ho; cases ho; cases hc
theorem rowB_own {base : Nat} {v : Value} {l : List Nat} {X Y : World} {row : Option Nat} (h : RowB X base v l) (hg : X.grownBy Y row) (hr : ∀ r, row = some r → ∃ o : Obj, X.heap[r]? = some o ∧ o.isCells = false) : RowB Y base v l := by
  refine World.ownsRow.kept h hg ?_
  rcases h.2 with ⟨e, _⟩ | ⟨g, cap, cur, e, _, hgb, _⟩
  · exact .inl (by rw [e]; rfl)
  · refine .inr fun e' => ?_
    rw [e] at e'
    obtain ⟨o, ho, hc⟩ := hr g (by simpa [Value.ownBlock] using e'.symm)
    rw [hgb] at ho; cases ho; cases hc
theorem stI_own (w : World) (s e x : Nat) (L : List Nat) (B : Nat) (hB : w.heap.size ≤ B) : OwnFrom B (StI w s e x L) := fun pre X Y row ⟨⟨v, h1, h2⟩, b0, b1, b2⟩ hg hr =>
  have hr2 : ∀ r, row = some r → ∃ o : Obj, X.heap[r]? = some o ∧ o.isCells = false := fun r e => (hr r e).2
  ⟨⟨v, boxed_own _ _ (fun _ : Unit => v) () X Y row h1 hg hr2, rowB_own h2 hg hr2⟩, mkB_own _ _ _ _ b0 hg hr2, mkB_own _ _ _ _ b1 hg hr2, b2.grown hg b2.size (fun k e => Nat.le_trans hB (hr k e).1)⟩
theorem map_take_fin (L : List Nat) : (List.finRange L.length).map (fun y => L[y.1]) = L := by
  apply List.ext_getElem
  · simp
  · intro i h1 h2; simp
/-- a byte more, and its slice back in its box -/
theorem StI.more {w W y : World} {s e x : Nat} {L : List Nat} {pre : List (Fin L.length)} {z : Fin L.length} {v v' : Value} {tmp : Obj} {G : Nat} (hG : G < w.heap.size ∨ G = w.heap.size) (bR : Boxed W (w.heap.size + 1 + 1) 22 v) (ro : RowB W w.heap.size v (pre.map fun y => L[y.1])) (b0 : MkB W w.heap.size s e x) (b1 : MkB W (w.heap.size + 1 + 1 + 1) s e x) (hB : Below w.heap.size w W)
    (hO : y.ownsRow w.heap.size 5 1 v' (pre.length + 1) (u8v (pre.map fun y => L[y.1]) ++ [.int .u8 ((L[z.1] : Nat) : Int)])) (gO : (W.alloc tmp).grownBy y v.ownBlock) :
    Boxed y (w.heap.size + 1 + 1) 22 v ∧ KeepsOthers W (y.setCell ⟨w.heap.size + 1 + 1, 0, none⟩ v') ∧ KeepD G (w.heap.size + 1 + 1 + 1) W (y.setCell ⟨w.heap.size + 1 + 1, 0, none⟩ v') ∧ StI w s e x L (pre ++ [z]) (y.setCell ⟨w.heap.size + 1 + 1, 0, none⟩ v') := by
  obtain ⟨hv1, hv2, hr2, hk2, hb2⟩ := bR.appended (by decide) ro hB.size (by omega) hO gO
  have mk : ∀ B, MkB W B s e x → B ≠ w.heap.size + 1 + 1 → (y.setCell ⟨w.heap.size + 1 + 1, 0, none⟩ v').heap[B]? = W.heap[B]? := fun B hm hne => by
    rw [blk_far _ _ _ _ hne]
    have h1 := gO.block B (by rw [World.size_alloc]; have := (Array.getElem?_eq_some_iff.1 hm).1; omega) (by
      intro e'
      rcases ro.2 with ⟨e, _⟩ | ⟨g, cap, cur, e, _, hgb, _⟩
      · rw [e] at e'; cases e'
      · rw [e] at e'
        have : B = g := by simpa [Value.ownBlock] using e'
        subst this
        rw [show W.heap[B]? = _ from hm] at hgb
        cases hgb)
    rw [h1]
    exact (hm.alloc tmp).trans hm.symm
  have k0 := mk _ b0 (by omega)
  have k1 := mk _ b1 (by omega)
  refine ⟨hv1, hk2, ⟨?_, k1⟩, ⟨_, hv2, ?_⟩, b0.block k0, b1.block k1, hB.trans hb2⟩
  · rcases hG with h | h
    · exact hb2.block G h
    · rw [h]; exact k0
  · unfold RowB
    have e1 : (pre ++ [z]).map (fun y => L[y.1]) = pre.map (fun y => L[y.1]) ++ [L[z.1]] := by rw [List.map_append]; rfl
    rw [e1, show (pre.map (fun y => L[y.1]) ++ [L[z.1]]).length = pre.length + 1 from by simp, show u8v (pre.map (fun y => L[y.1]) ++ [L[z.1]]) = u8v (pre.map fun y => L[y.1]) ++ [.int .u8 ((L[z.1] : Nat) : Int)] from List.map_append]
    exact hr2
set_option maxRecDepth 100000 in
set_option maxHeartbeats 4000000 in
theorem stuff_in (F : Fence) (n : Nat) (h1 : F.fn 10) (h2 : F.fn 16) (h3 : F.fn 18) (hro : F.round = none) (hn : 3 ≤ n) (w : World) (s e x : Nat) (bs : List Nat) (hl : (bs.length : Int) ≤ 2000) (L : List Nat) (hL4 : (L.length : Int) ≤ 4000) (p : Option Addr) (cap : Nat) (G : Nat) (hg : ByG w G p bs) (hG : G < w.heap.size ∨ (p = none ∧ bs = []))
    (cM : Hid (∀ m x', CallsIn F m Try.prog 16 #[.agg #[.int .u8 (s : Int), .int .u8 (e : Int), .int .u8 (x : Int)], .slice p bs.length cap] x' fun E w' => E = .returned (.func (.func 18) #[] #[.pointer (some ⟨x'.heap.size + 1, 0, none⟩), .pointer (some ⟨x'.heap.size, 0, none⟩)]) ∧ w' = (x'.alloc (.cells #[.int .u8 (s : Int), .int .u8 (e : Int), .int .u8 (x : Int)] 24)).alloc (.cells #[.slice p bs.length cap] 22)))
    (cS : Hid (∀ m W0 Bb Bm H, 1 ≤ m → Bb < W0.heap.size → Bm < W0.heap.size → H < W0.heap.size → W0.cell? ⟨Bb, 0, none⟩ = some (.slice p bs.length cap) → MkB W0 Bm s e x → ByG W0 H p bs → SeqStopsK F m Try.prog 18 #[.pointer (some ⟨Bb, 0, none⟩), .pointer (some ⟨Bm, 0, none⟩)] (fun y : Fin L.length => #[.int .u8 ((L[y.1] : Nat) : Int)]) (KeepD H Bm) (fun xs => xs = List.finRange L.length) (fun pre => pre <+: List.finRange L.length) L.length W0)) :
    CallsIn F n Try.prog 10 #[.agg #[.int .u8 (s : Int), .int .u8 (e : Int), .int .u8 (x : Int)], .slice p bs.length cap] w fun E w' => ∃ y, E = .returned y ∧ RowB w' w.heap.size y L ∧ Below w.heap.size w w' := by
  have hn1 : 1 ≤ n := by omega
  obtain ⟨i0, hi, hz0, hz1, hz2⟩ := info_parts info_u8
  have hmk : ∀ w, (Instr.makeSlice 22 (.int .i64 0) (.int .i64 (bs.length : Nat))).run Try.prog w = .ok (.slice (some ⟨w.heap.size, 0, none⟩) 0 bs.length) (w.alloc (.cells (madeCells #[.int .u8 0] bs.length) 5)) := fun w => by
    have := run_make (P := Try.prog) w 22 5 i0 (.int .u8 0) Try.underlying22 hi hz0 .i64 .i64 0 bs.length (Int.le_refl _) (by omega) (by rw [hz2]; omega) (by omega)
    simpa [hz1, Value.cells] using this
  refine callsIn_of_wp_marks Try.func10 rfl h1 ?_ hro
  simp only [Try.ntmps10, List.size_toArray, List.length_cons, List.length_nil, Nat.reduceAdd, Nat.reduceSub, Array.replicate_succ, Array.replicate_zero, List.push_toArray, List.append_toArray, List.nil_append, List.cons_append]
  gi_wp2_with (gi_at_call 16; refine (cM.out _ _).mono ?_; rintro E w' ⟨rfl, rfl⟩)
  obtain ⟨W0, hW0, b0, bR, ro, b1, cb, hB0, hsz⟩ := stuff_lays w s e x (.slice p bs.length cap) bs.length (by omega)
  rw [hW0]
  clear hW0 cM hmk
  obtain ⟨H, hH, gH⟩ : ∃ H, (H < w.heap.size ∨ H = w.heap.size) ∧ ByG W0 H p bs := by
    rcases hG with h | ⟨rfl, rfl⟩
    · exact ⟨G, .inl h, hg.block (hB0.block G h)⟩
    · exact ⟨w.heap.size, .inr rfl, .inl ⟨rfl, rfl⟩⟩
  refine range1 13 6 (fun y : Fin L.length => .int .u8 ((L[y.1] : Nat) : Int)) hro hn1 (gf := 18) (lb := #[.pointer (some ⟨w.heap.size + 1 + 1 + 1 + 1, 0, none⟩), .pointer (some ⟨w.heap.size + 1 + 1 + 1, 0, none⟩)]) rfl h3 (enters_of Try.func18 (by kernel_rfl) rfl)
    (cS.out (n - 1) W0 _ _ H (by omega) (by omega) (by omega) (by omega) cb b1 gH) (KeepD.trans) (fun W l o o' hl _ _ _ => KeepD.put (w := W0) (by omega) (by omega) W l o o' hl) (Below.refl _ _) rfl
    (StI w s e x L) (fun _ _ _ => False) (stI_own w s e x L _ (by omega)) (fun _ _ _ _ _ hs _ _ => hs)
    ⟨⟨_, bR, ro⟩, b0, b1, hB0⟩
    ?assign ?body ?done ?stop (fun W => KeepD.refl _ _ W)
  case assign =>
    intro l y W K hK
    simp only [upd1, List.setIfInBounds_toArray, List.set_cons_zero, List.set_cons_succ] at hK
    gi_wp2
    exact hK
  case body =>
    rintro l pre y W ⟨⟨v, hv, hrow⟩, m0, m1, hB⟩ hlt
    simp only [upd1, List.setIfInBounds_toArray, List.set_cons_zero, List.set_cons_succ]
    have hc := hv.cell
    have hrow2 : Hid (W.ownsRow w.heap.size 5 1 v pre.length (u8v (pre.map fun y => L[y.1]))) := by
      have h : W.ownsRow w.heap.size 5 1 v (pre.map fun y => L[y.1]).length (u8v (pre.map fun y => L[y.1])) := hrow
      rw [List.length_map] at h
      exact h
    replace hrow : Hid (RowB W w.heap.size v (pre.map fun y => L[y.1])) := hrow
    have hszB := hB.size
    clear bR ro b0 b1 cb cS gH hg
    gi_wp2_with (gi_at_builtin; refine wpListIn_append_own _ rfl _ _ 22 rfl w.heap.size 5 i0 (.int .u8 0) 1 1 Try.underlying22 hi hz0 hz1 hz2 rfl (by decide) _ _ _ rfl (World.ownsRow.alloc hrow2.out _) ⟨W.heap.size, 0, none⟩ 1 1 [.int .u8 ((L[y.1] : Nat) : Int)] rfl rfl (cell_one_new _ _ _) (by simp [Value.oneCell']) (by unfold maxLen; omega) (by omega) (by simp; omega) ?_; intro v' w1 hown' hgrow _; obtain ⟨g', cap', rfl⟩ := ownsRow_succ hown'; obtain ⟨hv1, hk2, hko, hst⟩ := StI.more hH hv hrow.out m0 m1 hB hown' hgrow; have hc1 := hv1.cell; have hf1 := hv1.frozen)
    exact ⟨hk2.from _, hko, hst⟩
  case done =>
    rintro D ys W hD rfl ⟨⟨v, hv, hrow⟩, _, _, hB⟩ hK
    have hc := hv.cell
    rw [map_take_fin] at hrow
    gi_wp2
    refine ⟨by simp, .inl ⟨_, _, rfl, run_takeDeferred hK, ?_⟩⟩
    exact ⟨_, results_tmp rfl _ _ _, v, rfl, ownsRow_putObj hrow _ hK rfl, hB.trans (belowK_b (w := w) (Nat.le_refl _) W D _ _ (by omega) hK rfl rfl)⟩
  case stop =>
    rintro D c pre W _ _ h _
    exact h.elim
theorem BytesAt.by2 {w : World} {v : Value} {bs : List Nat} (h : BytesAt w v bs) : ∃ G p cap, v = .slice p bs.length cap ∧ ByG w G p bs ∧ (G < w.heap.size ∨ (p = none ∧ bs = [])) := by
  rcases h with ⟨rfl, rfl⟩ | ⟨g, o, cap, h1, h2, h3⟩
  · exact ⟨w.heap.size, none, 0, rfl, .inl ⟨rfl, rfl⟩, .inr ⟨rfl, rfl⟩⟩
  · exact ⟨g, _, cap, h1, .inr ⟨o, rfl, h2⟩, .inl h3⟩
/-- what Stuff returns -/
theorem stuff_any (w : World) (s e x : Nat) (hs : s < 256) (he : e < 256) (hx : x < 256) (v : Value) (bs : List Nat) (h : BytesAt w v bs) (hb : AllBytes bs) (hl : bs.length ≤ 2000) :
    Calls Try.prog 10 #[.agg #[.int .u8 (s : Int), .int .u8 (e : Int), .int .u8 (x : Int)], v] w fun E w' => ∃ y, E = .returned y ∧ RowB w' w.heap.size y (stuL s e x bs) ∧ Below w.heap.size w w' := by
  obtain ⟨G, p, cap, rfl, hg, hG⟩ := h.by2
  have hm := (stu_most s e x bs).2
  exact (callsIn_wide (n := 3)).1 (stuff_in Fence.wide 3 trivial trivial trivial rfl (Nat.le_refl _) w s e x bs (by omega) _ (by omega) p cap G hg hG
    (fun m x' => callsIn_wide.2 (stuffed_mk x' s e x p bs.length cap))
    (fun m W0 Bb Bm H h1 h2 h3 h4 hc hm hy => stuffed_stops m h1 s e x hs he hx bs hb hl _ rfl Bb Bm H p cap W0 h2 h3 h4 hc hm hy))
end Go.Proofs.Ytdnlobcfmibeoaa
