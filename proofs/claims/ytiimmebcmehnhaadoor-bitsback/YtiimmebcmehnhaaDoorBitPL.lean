/-
  Rows of bytes that are written place by place (layer 6): what they come to; the memory that the program's Write lays. No conditions but those that each says.
-/
import Derived.Test.YtiimmebcmehnhaaDoorBitPB
import Derived.Test.YtiimmebcmehnhaaDoorBitPI
import Derived.Test.YtiimmebcmehnhaaDoorRoundL
import Derived.Deep.OwnRows
namespace Go.Proofs.YtiimmebcmehnhaaDoor
open Go.RowKit Go.Shelf
set_option linter.unusedVariables false

/-- the byte at the place that is x-th from the lowest on -/
def dgP (k B N x : Nat) : Nat := digV k (N / B ^ x % B)
def rowP (k B L N : Nat) (pre : List (Fin L)) : List Nat := pre.foldl (fun r x => r.set (atP k L x.1) (dgP k B N x.1)) (List.replicate L 0)
theorem rowP_snoc (k B L N : Nat) (pre : List (Fin L)) (x : Fin L) : rowP k B L N (pre ++ [x]) = (rowP k B L N pre).set (atP k L x.1) (dgP k B N x.1) := by
  unfold rowP; rw [List.foldl_append]; rfl
theorem rowP_len (k B L N : Nat) (pre : List (Fin L)) : (rowP k B L N pre).length = L := by
  unfold rowP
  have : ∀ (l : List (Fin L)) (r : List Nat), (l.foldl (fun r x => r.set (atP k L x.1) (dgP k B N x.1)) r).length = r.length := by
    intro l
    induction l with
    | nil => intro r; rfl
    | cons x l ih => intro r; rw [List.foldl_cons, ih, List.length_set]
  rw [this, List.length_replicate]
theorem rowU_own {β : Type} (g cap : Nat) (f : β → List Nat) : Own (fun s W => RowU W g cap (f s)) := fun s X Y row hs hg hrow =>
  hs.block (hg.block g hs.lt (fun e => by
    obtain ⟨o, ho, hc⟩ := hrow g e.symm
    obtain ⟨_, _, cur, h4, _⟩ := hs
    rw [h4] at ho; cases ho; cases hc))
theorem rowU_dn {W : World} {g cap : Nat} {bs : List Nat} (h : RowU W g cap bs) (n : Nat) : RowU (W.drewN n) g cap bs := h
theorem rowU_zero (w : World) (L : Nat) (c : Array Value) (hc : c.toList = u8v (List.replicate L 0)) (hm : L ≤ maxLen) : RowU (w.alloc (.cells c 5)) w.heap.size L (List.replicate L 0) := by
  refine ⟨by simp, hm, c, World.alloc_heap_new w _, ?_, ?_⟩
  · have := congrArg List.length hc
    simpa using this
  · rw [hc, List.length_replicate, List.take_of_length_le (by simp)]
/-- what Write lays ahead of its rounds, behind a world with the kind and the number in boxes -/
theorem four (W1 : World) (s : ByteArray) (g L : Nat) (hg : W1.heap.size = g) (hm : L ≤ maxLen) (L' : Int) : ∃ W0, ((((W1.alloc (.cells (madeCells #[.int .u8 0] L) 5)).alloc (.cells #[.slice (some ⟨g, 0, none⟩) L L] 22)).alloc (.cells #[.string s] 9)).alloc (.cells #[.int .i64 L'] 3)) = W0 ∧
    RowU W0 g L (List.replicate L 0) ∧ Boxed W0 (g + 1) 22 (.slice (some ⟨g, 0, none⟩) L L) ∧ Boxed W0 (g + 1 + 1) 9 (.string s) ∧ Boxed W0 (g + 1 + 1 + 1) 3 (.int .i64 L') ∧ Below W1.heap.size W1 W0 ∧ W0.heap.size = g + 4 := by
  subst hg
  refine ⟨_, rfl, ?_, ?_, ?_, ?_, ?_, ?_⟩
  · refine (rowU_zero W1 L (madeCells #[.int .u8 0] L) ?_ hm).below ?_
    · rw [toList_madeCells_one]; simp
    · refine (((Below.refl _ _).alloc (Nat.le_refl _) _).alloc ?_ _).alloc ?_ _ <;> simp
  · exact (((box_at _ _ (by simp)).alloc _).alloc _)
  · exact ((box_at _ _ (by simp)).alloc _)
  · exact (box_at _ _ (by simp))
  · refine ((((Below.refl _ _).alloc (Nat.le_refl _) _).alloc ?_ _).alloc ?_ _).alloc ?_ _ <;> simp <;> omega
  · simp
/-- two loop variables: laid at i1 and i2, assigned to s1 and s2 -/
def upd2 (a : Act) (i1 i2 s1 s2 : Nat) (u v : Value) : Act := { tmps := (((a.tmps.setIfInBounds i1 u).setIfInBounds i2 v).setIfInBounds s1 u).setIfInBounds s2 v, defers := [] }
theorem range2 {F : Fence} {n : Nat} {P : Program} {α : Type} {g : Operand} {ps : Array Tmp} {assign body : Code} {Q : Exit → Act → World → Prop} {a : Act} {w : World} (i1 i2 s1 s2 : Nat) (u v : α → Value)
    (hro : F.round = none) (h1 : 1 ≤ n) {gf : Nat} {lb : Array Value} (hg : a.eval g = .func (.func gf) #[] lb) (hFg : F.fn gf) (eg : ∀ args w, (callFunc gf args).run P w = .ok (.enter gf args) w)
    {Kp : World → World → Prop} {S Sp : List α → Prop} {N : Nat} {w0 : World} (hseq : SeqStopsK F (n - 1) P gf lb (fun x => #[u x, v x]) Kp S Sp N w0)
    (hKt : ∀ {A B C : World}, Kp A B → Kp B C → Kp A C) (hKb : ∀ (W : World) (l : Nat) (o o' : Obj), w.heap.size ≤ l → W.heap[l]? = some o → o.isCells = false → o.isWalk = false → Kp W (W.putObj l o')) (hb0 : Below w0.heap.size w0 w) (hps : ps.size = 2)
    (I : List α → World → Prop) (Ix : Code → List α → World → Prop) (hI : OwnFrom w.heap.size I) (hIx : ∀ c, OwnFrom w.heap.size (Ix c)) (h0 : I [] w)
    (hassign : ∀ (l : Nat) (x : α) (W : World) (K : Act → World → Prop), K (upd2 a i1 i2 s1 s2 (u x) (v x)) W →
      assign.wpIn (F.inRound l) (n - 1 - 1) P (Exit.then K (fun _ _ _ => False)) { tmps := (ps.zip #[u x, v x]).foldl (fun t (p, v) => t.setIfInBounds p v) a.tmps, defers := [] } W)
    (hbody : ∀ (l : Nat) (pre : List α) (x : α) (W : World), I pre W → pre.length < N → body.wpIn (F.inRound l) (n - 1 - 1) P (ownPostG w.heap.size Kp I Ix (pre ++ [x]) W) (upd2 a i1 i2 s1 s2 (u x) (v x)) W)
    (hdone : ∀ (D : Nat) (xs : List α) (W : World), w.heap.size ≤ D → S xs → I xs W → W.heap[D]? = some (.deferred (some [])) → Q .normal { a with defers := { target := .collected D, args := #[] } :: a.defers } W)
    (hstop : ∀ (D : Nat) (c : Code) (pre : List α) (W : World), w.heap.size ≤ D → Sp pre → Ix c pre W → W.heap[D]? = some (.deferred (some [])) → c.wpIn F n P Q { a with defers := { target := .collected D, args := #[] } :: a.defers } W)
    (hKr : ∀ W, Kp W W) : (Code.rangeFunc g ps assign body).wpIn F n P Q a w :=
  wpIn_rangeFunc_ownG_of_H hro h1 hg hFg eg hseq hKt hKb hb0 (fun x => by rw [hps]; rfl) I Ix hI hIx h0 (fun x => upd2 a i1 i2 s1 s2 (u x) (v x)) hassign hbody hdone hstop hKr
theorem RowU.v {x : World} {g cap : Nat} {bs : List Nat} (h : RowU x g cap bs) : BytesV x (.slice (some ⟨g, 0, none⟩) bs.length cap) bs :=
  .inr ⟨g, 0, cap, rfl, h.1, h.2.1, fun j hj => by rw [Nat.zero_add]; exact (h.cell j hj).1, h.lt⟩
theorem two (w : World) (s : ByteArray) (N : Int) : Boxed ((w.alloc (.cells #[.string s] 9)).alloc (.cells #[.int .i64 N] 2)) w.heap.size 9 (.string s) ∧ Boxed ((w.alloc (.cells #[.string s] 9)).alloc (.cells #[.int .i64 N] 2)) (w.heap.size + 1) 2 (.int .i64 N) ∧ Below w.heap.size w ((w.alloc (.cells #[.string s] 9)).alloc (.cells #[.int .i64 N] 2)) ∧ ((w.alloc (.cells #[.string s] 9)).alloc (.cells #[.int .i64 N] 2)).heap.size = w.heap.size + 1 + 1 :=
  ⟨(box_at _ _ (by simp)).alloc _, box_at _ _ (by simp), by go_grown, by simp⟩
end Go.Proofs.YtiimmebcmehnhaaDoor
