/-
  Texts that belong together, one behind the other: UnIter, UnFind. Conditions: as each says.
-/
import Derived.LoopIn
import Derived.LoopNIn
import Derived.OwnWalkIn
import Derived.RangeFuncBound
import Derived.RangeFuncCalls
import Derived.RangeFuncLeaves
import Derived.RangeFuncNested
import Derived.Shelf.Abstract
import Derived.Shelf.RegionOpen
import Derived.TacticsInMore
import Derived.Test.YtllkkgcfhphgmaaJs7
import Derived.WalkKit
/-
  What unit.units hands on, one by one: the table's rows in their order; it stops where a round says so. Conditions: as the contract of a range over a function has them.
-/
namespace Go.Proofs.Ytllkkgcfhphgmaa
open Go.RowKit Go.Shelf
set_option linter.unusedVariables false
attribute [local go_sem] Oper.semAt_some

theorem upon_eq {F : Fence} {n : Nat} {P : Program} {o : Oper} {a : Act} {K : Act → World → Prop} {Q : Exit → Act → World → Prop} {R R' : Result Next} (h : R = R') (k : Oper.uponIn F n P o a K Q R') : Oper.uponIn F n P o a K Q R := h ▸ k

set_option maxRecDepth 100000 in
set_option maxHeartbeats 4000000 in
theorem units_in (F : Fence) (n : Nat) (hf : F.fn 67) (hro : F.round = none) (hn : 1 ≤ n) (l : Nat) (J Jx : List U → World → Prop) (W : World)
    (hJ : AbidesFrom W.heap.size J)
    (hY : ∀ pre x W1, J pre W1 → pre.length < 25 → YieldAt F (n - 1) Try.prog l #[encU x] W1 fun e W' =>
      (e = .returned (.bool true) ∧ J (pre ++ [x]) W' ∧ True) ∨ (e = .returned (.bool false) ∧ Jx (pre ++ [x]) W'))
    (h0 : J [] W) :
    CallsIn F n Try.prog 67 #[.func (.yield l) #[] #[]] W fun e W' => (∃ v, e = .returned v) ∧ ((∃ xs, xs = tab ∧ J xs W') ∨ (∃ pre, pre <+: tab ∧ Jx pre W')) := by
  refine callsIn_of_wp Try.func67 rfl hf ?_ hro
  simp only [Try.ntmps67, List.size_toArray, List.length_cons, List.length_nil, Nat.reduceAdd, Nat.reduceSub, Array.replicate_succ, Array.replicate_zero, List.push_toArray, List.append_toArray, List.nil_append, List.cons_append]
  gi_wp2
  first
    | (refine upon_eq (R' := .ok (.value (.agg bigA)) (W.alloc (.cells #[.int .i64 0, .int .i64 1] 43))) (by kernel_rfl) ?_
       gi_wp2)
    | (generalize hX : Array.setIfInBounds _ _ _ = X
       have hX2 : X = bigA := hX.symm.trans (by kernel_rfl)
       clear hX
       subst hX2)
  gi_loopw [107] (fun p wr => ∃ k : Nat, k ≤ tab.length ∧ p = .int .i64 (k : Int) ∧ J (tab.take k) wr) (fun p _ => tab.length - (intOf p).toNat)
  case atStart => exact ⟨0, Nat.zero_le _, rfl, hJ _ _ _ none h0 (World.grownBy_alloc W _ none) (fun r e => by cases e)⟩
  case round =>
    obtain ⟨k, hk, rfl, hJs⟩ := hrel
    by_cases hlt : k < tab.length
    · have hk25 : (k : Int) < 25 := by rw [tab_len] at hlt; omega
      have hix : ∀ w : World, (Instr.index 113 (.agg bigA) (.int .i64 (k : Int))).run Try.prog w = .ok (encU tab[k]) w := fun w => index_big w k hlt
      have htake : tab.take (k + 1) = tab.take k ++ [tab[k]] := by rw [List.take_append_getElem]
      generalize tab[k] = x at hix htake
      obtain ⟨fn, tmps, assign, body, hy, hR⟩ := hY _ x (wr.alloc (.cells #[.string x.nm, .int .i64 x.m, .int .i64 x.l, .int .i64 x.t, .int .i64 x.k, .int .i64 x.fn, .int .i64 x.fd, .int .i64 x.on, .int .i64 x.od, .int .i64 x.code] 90)) (hJ _ _ _ none hJs (World.grownBy_alloc wr _ none) (fun r e => by cases e)) (by rw [List.length_take]; rw [tab_len] at *; omega)
      gi_wp2
      refine hR.mono ?_
      rintro e W3 (⟨rfl, hJ3, _⟩ | ⟨rfl, hJx3⟩)
      · gi_wp2
        go_roundw
        case rel => exact ⟨k + 1, by omega, by simp, by rw [htake]; exact hJ3⟩
        case measure => simp [intOf]; omega
      · gi_wp2
        refine bodyPost_ret (results_none rfl _ _ _) rfl ?_
        exact ⟨⟨_, rfl⟩, .inr ⟨_, by rw [← htake]; exact List.take_prefix _ _, hJx3⟩⟩
    · obtain rfl : k = tab.length := by omega
      rw [List.take_length] at hJs
      have hk25 : ¬ ((tab.length : Nat) : Int) < 25 := by rw [tab_len]; decide
      gi_wp2
      go_end0
      exact ⟨⟨_, rfl⟩, .inl hJs⟩

theorem units_stops (F : Fence) (n : Nat) (hf : F.fn 67) (hro : F.round = none) (hn : 1 ≤ n) (w : World) :
    SeqStopsK F n Try.prog 67 #[] (fun x : U => #[encU x]) (fun _ _ => True) (fun xs => xs = tab) (fun pre => pre <+: tab) 25 w := fun l J Jx W _ hJ _ hY h0 =>
  units_in F n hf hro hn l J Jx W hJ hY h0
end Go.Proofs.Ytllkkgcfhphgmaa
/-
  What unit.Find returns, called with any text: the row of that name, and whether there is one. No conditions.
-/
namespace Go.Proofs.Ytllkkgcfhphgmaa
open Go.RowKit Go.Shelf
set_option linter.unusedVariables false
attribute [local go_sem] Oper.semAt_some

/-- a unit that lies in a block of its own -/
def HasU (W : World) (b : Nat) (t : TypeId) (u : U) : Prop := W.heap[b]? = some (.cells #[.string u.nm, .int .i64 u.m, .int .i64 u.l, .int .i64 u.t, .int .i64 u.k, .int .i64 u.fn, .int .i64 u.fd, .int .i64 u.on, .int .i64 u.od, .int .i64 u.code] t (0, 0))
theorem hasU_new (W : World) (t : TypeId) (u : U) : HasU (W.alloc (.cells #[.string u.nm, .int .i64 u.m, .int .i64 u.l, .int .i64 u.t, .int .i64 u.k, .int .i64 u.fn, .int .i64 u.fd, .int .i64 u.on, .int .i64 u.od, .int .i64 u.code] t)) W.heap.size t u := World.alloc_heap_new W _
theorem HasU.lt {W : World} {b : Nat} {t : TypeId} {u : U} (h : HasU W b t u) : b < W.heap.size := (Array.getElem?_eq_some_iff.1 h).1
theorem HasU.kept {W W' : World} {row : Option Nat} {b : Nat} {t : TypeId} {u : U} (h : HasU W b t u) (hg : W.grownBy W' row) (hne : some b ≠ row) : HasU W' b t u := (hg.block b h.lt hne).trans h
theorem HasU.alloc {W : World} {b : Nat} {t : TypeId} {u : U} (h : HasU W b t u) (o : Obj) : HasU (W.alloc o) b t u := h.kept (World.grownBy_alloc W o none) (by simp)
theorem HasU.below {W W' : World} {b : Nat} {t : TypeId} {u : U} (h : HasU W b t u) (hb : Below W.heap.size W W') : HasU W' b t u := (hb.block b h.lt).trans h
theorem hasU_own {β : Type} (b : Nat) (t : TypeId) (f : β → U) : Own (fun s W => HasU W b t (f s)) := fun s X Y row hs hg hrow =>
  HasU.kept hs hg (fun e => by obtain ⟨o, ho, hc⟩ := hrow b e.symm; rw [show X.heap[b]? = _ from hs] at ho; cases ho; simp [Obj.isCells] at hc)
theorem HasU.cells {W : World} {b : Nat} {t : TypeId} {u : U} (h : HasU W b t u) : W.cell? ⟨b, 0, none⟩ = some (.string u.nm) ∧ W.cell? ⟨b, 1, none⟩ = some (.int .i64 u.m) ∧ W.cell? ⟨b, 2, none⟩ = some (.int .i64 u.l) ∧ W.cell? ⟨b, 3, none⟩ = some (.int .i64 u.t) ∧ W.cell? ⟨b, 4, none⟩ = some (.int .i64 u.k) ∧ W.cell? ⟨b, 5, none⟩ = some (.int .i64 u.fn) ∧ W.cell? ⟨b, 6, none⟩ = some (.int .i64 u.fd) ∧ W.cell? ⟨b, 7, none⟩ = some (.int .i64 u.on) ∧ W.cell? ⟨b, 8, none⟩ = some (.int .i64 u.od) ∧ W.cell? ⟨b, 9, none⟩ = some (.int .i64 u.code) := by
  simp [World.cell?, show W.heap[b]? = _ from h]
theorem HasU.frozen {W : World} {b : Nat} {t : TypeId} {u : U} (h : HasU W b t u) : W.frozen? ⟨b, 0, none⟩ = false ∧ W.frozen? ⟨b, 1, none⟩ = false ∧ W.frozen? ⟨b, 2, none⟩ = false ∧ W.frozen? ⟨b, 3, none⟩ = false ∧ W.frozen? ⟨b, 4, none⟩ = false ∧ W.frozen? ⟨b, 5, none⟩ = false ∧ W.frozen? ⟨b, 6, none⟩ = false ∧ W.frozen? ⟨b, 7, none⟩ = false ∧ W.frozen? ⟨b, 8, none⟩ = false ∧ W.frozen? ⟨b, 9, none⟩ = false := by
  simp [World.frozen?, show W.heap[b]? = _ from h]
/-- the ten stores of another unit into its block -/
def putU (W : World) (b : Nat) (u : U) : World := (((((((((W.setCell ⟨b, 0, none⟩ (.string u.nm)).setCell ⟨b, 1, none⟩ (.int .i64 u.m)).setCell ⟨b, 2, none⟩ (.int .i64 u.l)).setCell ⟨b, 3, none⟩ (.int .i64 u.t)).setCell ⟨b, 4, none⟩ (.int .i64 u.k)).setCell ⟨b, 5, none⟩ (.int .i64 u.fn)).setCell ⟨b, 6, none⟩ (.int .i64 u.fd)).setCell ⟨b, 7, none⟩ (.int .i64 u.on)).setCell ⟨b, 8, none⟩ (.int .i64 u.od)).setCell ⟨b, 9, none⟩ (.int .i64 u.code)
theorem row_set {W : World} {b i : Nat} {t : TypeId} {cs : Array Value} (v : Value) (h : W.heap[b]? = some (.cells cs t (0, 0))) : (W.setCell ⟨b, i, none⟩ v).heap[b]? = some (.cells (cs.setIfInBounds i v) t (0, 0)) := by
  rw [setCell_eq_setRow W b i cs t (0, 0) v h]; exact setRow_heap W b cs _ t (0, 0) h
theorem HasU.put {W : World} {b : Nat} {t : TypeId} {v : U} (h : HasU W b t v) (u : U) : HasU (putU W b u) b t u := by
  unfold HasU at h
  have h0 := row_set (i := 0) (.string u.nm) h
  simp only [List.setIfInBounds_toArray, List.set_cons_zero] at h0
  have h1 := row_set (i := 1) (.int .i64 u.m) h0
  simp only [List.setIfInBounds_toArray, List.set_cons_zero, List.set_cons_succ] at h1
  have h2 := row_set (i := 2) (.int .i64 u.l) h1
  simp only [List.setIfInBounds_toArray, List.set_cons_zero, List.set_cons_succ] at h2
  have h3 := row_set (i := 3) (.int .i64 u.t) h2
  simp only [List.setIfInBounds_toArray, List.set_cons_zero, List.set_cons_succ] at h3
  have h4 := row_set (i := 4) (.int .i64 u.k) h3
  simp only [List.setIfInBounds_toArray, List.set_cons_zero, List.set_cons_succ] at h4
  have h5 := row_set (i := 5) (.int .i64 u.fn) h4
  simp only [List.setIfInBounds_toArray, List.set_cons_zero, List.set_cons_succ] at h5
  have h6 := row_set (i := 6) (.int .i64 u.fd) h5
  simp only [List.setIfInBounds_toArray, List.set_cons_zero, List.set_cons_succ] at h6
  have h7 := row_set (i := 7) (.int .i64 u.on) h6
  simp only [List.setIfInBounds_toArray, List.set_cons_zero, List.set_cons_succ] at h7
  have h8 := row_set (i := 8) (.int .i64 u.od) h7
  simp only [List.setIfInBounds_toArray, List.set_cons_zero, List.set_cons_succ] at h8
  have h9 := row_set (i := 9) (.int .i64 u.code) h8
  simp only [List.setIfInBounds_toArray, List.set_cons_zero, List.set_cons_succ] at h9
  exact h9
theorem blk_past (w : World) (a : Addr) (u : Value) (k : Nat) (h : k ≠ a.block) : (w.setCell a u).heap[k]? = w.heap[k]? := by
  simp [World.setCell, Array.getElem?_modify, Ne.symm h]
theorem putU_past (W : World) (b : Nat) (u : U) (k : Nat) (h : k ≠ b) : (putU W b u).heap[k]? = W.heap[k]? := by
  unfold putU
  rw [blk_past _ _ _ k h, blk_past _ _ _ k h, blk_past _ _ _ k h, blk_past _ _ _ k h, blk_past _ _ _ k h, blk_past _ _ _ k h, blk_past _ _ _ k h, blk_past _ _ _ k h, blk_past _ _ _ k h, blk_past _ _ _ k h]
theorem putU_keeps (W : World) (b : Nat) (u : U) : KeepsOthers W (putU W b u) :=
  ((((((((((KeepsOthers.setCell W _ _)).trans (KeepsOthers.setCell _ _ _)).trans (KeepsOthers.setCell _ _ _)).trans (KeepsOthers.setCell _ _ _)).trans (KeepsOthers.setCell _ _ _)).trans (KeepsOthers.setCell _ _ _)).trans (KeepsOthers.setCell _ _ _)).trans (KeepsOthers.setCell _ _ _)).trans (KeepsOthers.setCell _ _ _)).trans (KeepsOthers.setCell _ _ _)
theorem putU_below {w W : World} {B b : Nat} (u : U) (h : Below B w W) (hb : B ≤ b) : Below B w (putU W b u) :=
  ((((((((((h.setCell (p := ⟨b, 0, none⟩) hb _)).setCell (p := ⟨b, 1, none⟩) hb _).setCell (p := ⟨b, 2, none⟩) hb _).setCell (p := ⟨b, 3, none⟩) hb _).setCell (p := ⟨b, 4, none⟩) hb _).setCell (p := ⟨b, 5, none⟩) hb _).setCell (p := ⟨b, 6, none⟩) hb _).setCell (p := ⟨b, 7, none⟩) hb _).setCell (p := ⟨b, 8, none⟩) hb _).setCell (p := ⟨b, 9, none⟩) hb _
theorem boxed_put {W : World} {b c : Nat} {t : TypeId} {v : Value} (u : U) (h : Boxed W c t v) (hne : c ≠ b) : Boxed (putU W b u) c t v := (putU_past W b u c hne).trans h

set_option maxRecDepth 100000 in
set_option maxHeartbeats 4000000 in
theorem find_in (F : Fence) (n : Nat) (h9 : F.fn 54) (h19 : F.fn 67) (hro : F.round = none) (hn : 3 ≤ n) (s : ByteArray) (w : World) :
    CallsIn F n Try.prog 54 #[.string s] w fun e w' => e = .returned (.tuple #[encU (atU s), .bool (isU s)]) ∧ Below w.heap.size w w' := by
  have h1 : 1 ≤ n := by omega
  refine callsIn_of_wp_marks Try.func54 rfl h9 ?_ hro
  simp only [Try.ntmps54, List.size_toArray, List.length_cons, List.length_nil, Nat.reduceAdd, Nat.reduceSub, Array.replicate_succ, Array.replicate_zero, List.push_toArray, List.append_toArray, List.nil_append, List.cons_append]
  gi_wp2
  have bS := ((Boxed.new w 9 (.string s)).alloc (.cells #[.string ⟨#[]⟩, .int .i64 0, .int .i64 0, .int .i64 0, .int .i64 0, .int .i64 0, .int .i64 0, .int .i64 0, .int .i64 0, .int .i64 0] 90)).alloc (.cells #[.bool false] 4)
  have bU := (hasU_new (w.alloc (.cells #[.string s] 9)) 90 noU).alloc (.cells #[.bool false] 4)
  have bB := Boxed.new ((w.alloc (.cells #[.string s] 9)).alloc (.cells #[.string ⟨#[]⟩, .int .i64 0, .int .i64 0, .int .i64 0, .int .i64 0, .int .i64 0, .int .i64 0, .int .i64 0, .int .i64 0, .int .i64 0] 90)) 4 (.bool false)
  simp only [World.size_alloc, noU] at bS bU bB
  have hB0 : Below w.heap.size w (((w.alloc (.cells #[.string s] 9)).alloc (.cells #[.string ⟨#[]⟩, .int .i64 0, .int .i64 0, .int .i64 0, .int .i64 0, .int .i64 0, .int .i64 0, .int .i64 0, .int .i64 0, .int .i64 0] 90)).alloc (.cells #[.bool false] 4)) := by go_grown
  have hsz : (((w.alloc (.cells #[.string s] 9)).alloc (.cells #[.string ⟨#[]⟩, .int .i64 0, .int .i64 0, .int .i64 0, .int .i64 0, .int .i64 0, .int .i64 0, .int .i64 0, .int .i64 0, .int .i64 0] 90)).alloc (.cells #[.bool false] 4)).heap.size = w.heap.size + 3 := by simp
  obtain ⟨W0, hW0⟩ : ∃ W0, (((w.alloc (.cells #[.string s] 9)).alloc (.cells #[.string ⟨#[]⟩, .int .i64 0, .int .i64 0, .int .i64 0, .int .i64 0, .int .i64 0, .int .i64 0, .int .i64 0, .int .i64 0, .int .i64 0] 90)).alloc (.cells #[.bool false] 4)) = W0 := ⟨_, rfl⟩
  rw [hW0] at bS bU bB hB0 hsz ⊢
  clear hW0
  refine wpIn_rangeFunc_ownH hro h1 (gf := 67) (lb := #[]) rfl h19 (enters_of Try.func67 (by kernel_rfl) rfl)
    (units_stops F (n - 1) h19 hro (by omega) W0) (fun _ _ => trivial) (fun _ _ _ _ _ _ _ _ => trivial) (Below.refl _ _) (fun _ => rfl)
    (fun pre W => ((∀ x ∈ pre, x.nm ≠ s) ∧ (Boxed W w.heap.size 9 (.string s) ∧ HasU W (w.heap.size + 1) 90 noU) ∧ Boxed W (w.heap.size + 1 + 1) 4 (.bool false)) ∧ Below w.heap.size w W)
    (fun c pre W => ((c = .ret ∧ ∃ u pre0, pre = pre0 ++ [u] ∧ (∀ x ∈ pre0, x.nm ≠ s) ∧ u.nm = s ∧ HasU W (w.heap.size + 1) 90 u) ∧ Boxed W (w.heap.size + 1 + 1) 4 (.bool true)) ∧ Below w.heap.size w W)
    (OwnFrom.and (OwnFrom.and (ownFrom_pure _ _) (OwnFrom.and (OwnFrom.and (Own.from (boxed_own _ _ _) _) (Own.from (hasU_own _ _ _) _)) (Own.from (boxed_own _ _ _) _))) (ownFrom_below (Nat.le_refl _) (by omega)))
    (fun c => OwnFrom.and (OwnFrom.and (fun pre X Y row hs hg hr => by
      obtain ⟨hc, u, pre0, e1, e2, e3, e4⟩ := hs
      exact ⟨hc, u, pre0, e1, e2, e3, hasU_own _ _ (fun _ => u) () X Y row e4 hg (fun r e => (hr r e).2)⟩) (Own.from (boxed_own _ _ _) _)) (ownFrom_below (Nat.le_refl _) (by omega)))
    ⟨⟨by simp, ⟨bS, bU⟩, bB⟩, hB0⟩
    (fun x a' W => ∃ Bx, w.heap.size + 1 + 1 < Bx ∧ HasU W Bx 90 x ∧ a' = { tmps := #[.string s, .pointer (some ⟨w.heap.size, 0, none⟩), .pointer (some ⟨w.heap.size + 1, 0, none⟩), .pointer (some ⟨w.heap.size + 1 + 1, 0, none⟩), .pointer (some ⟨Bx, 0, none⟩), encU x, undef, undef, undef, undef, undef, undef], defers := [] })
    (fun x a' _ X Y row hs hg hr => by obtain ⟨Bx, h1, h2, h3⟩ := hs; exact ⟨Bx, h1, hasU_own Bx _ (fun (_ : Unit) => x) () X Y row h2 hg (fun r e => (hr r e).2), h3⟩)
    ?assign ?body ?done ?stop
  case assign =>
    rintro l pre x W K ⟨⟨hp, ⟨bS1, bU1⟩, bB1⟩, hB1⟩ hK
    gi_wp2
    exact hK _ _ ((KeepsOthers.alloc _ _).from _) trivial ⟨⟨hp, ⟨bS1.alloc _, bU1.alloc _⟩, bB1.alloc _⟩, hB1.alloc hB1.size _⟩ ⟨W.heap.size, bB1.lt, hasU_new W _ x, rfl⟩
  case body =>
    rintro l pre x a' W hl ⟨r, hr⟩ ⟨⟨hp, ⟨bS1, bU1⟩, bB1⟩, hB1⟩ ⟨Bx, hBx, bX, rfl⟩ hlt
    have cS := bS1.cell
    have cB := bB1.cell
    have fB := bB1.frozen
    obtain ⟨x0, x1, x2, x3, x4, x5, x6, x7, x8, x9⟩ := bX.cells
    by_cases hs : x.nm = s
    · subst hs
      obtain ⟨z0, z1, z2, z3, z4, z5, z6, z7, z8, z9⟩ := bU1.cells
      obtain ⟨g0, g1, g2, g3, g4, g5, g6, g7, g8, g9⟩ := bU1.frozen
      gi_wp2
      exact ⟨((putU_keeps W _ x).trans (KeepsOthers.setCell _ _ _)).from _, ⟨⟨rfl, x, pre, rfl, hp, rfl, (blk_past _ _ _ _ (by simp)).trans (bU1.put x)⟩, (boxed_put x bB1 (by omega)).set _⟩, (putU_below x hB1 (by omega)).setCell (p := ⟨w.heap.size + 1 + 1, 0, none⟩) (by simp; omega) _⟩
    · have hq := nm_no hs
      gi_wp2
      exact ⟨KeepsFrom.refl _ _, trivial, ⟨fun y hy => (List.mem_append.1 hy).elim (hp y) (fun e => by simp at e; subst e; exact hs), ⟨bS1, bU1⟩, bB1⟩, hB1⟩
  case done =>
    rintro D ys W hD rfl ⟨⟨hp, ⟨bS1, bU1⟩, bB1⟩, hB1⟩ hK
    have hz : Hid (isU s = false ∧ atU s = noU) := isU_not hp
    have cB := bB1.cell
    have fB := bB1.frozen
    obtain ⟨z0, z1, z2, z3, z4, z5, z6, z7, z8, z9⟩ := bU1.cells
    obtain ⟨g0, g1, g2, g3, g4, g5, g6, g7, g8, g9⟩ := bU1.frozen
    simp only [noU] at z0 z1 z2 z3 z4 z5 z6 z7 z8 z9
    gi_wp2
    have hK' := ((putU_keeps W (w.heap.size + 1) noU).trans (KeepsOthers.setCell _ ⟨w.heap.size + 1 + 1, 0, none⟩ (.bool false))).same D _ hK rfl
    have U3 : HasU (((putU W (w.heap.size + 1) noU).setCell ⟨w.heap.size + 1 + 1, 0, none⟩ (.bool false)).putObj D (.deferred none)) (w.heap.size + 1) 90 noU := HasU.kept ((blk_past _ _ _ _ (by simp)).trans (bU1.put noU)) (grownBy_putObj' _ D _) (fun e => by injection e with e; omega)
    have B3 : Boxed (((putU W (w.heap.size + 1) noU).setCell ⟨w.heap.size + 1 + 1, 0, none⟩ (.bool false)).putObj D (.deferred none)) (w.heap.size + 1 + 1) 4 (.bool false) := ((boxed_put noU bB1 (by omega)).set _).kept (grownBy_putObj' _ D _) (fun e => by injection e with e; omega)
    have L : Below w.heap.size w (((putU W (w.heap.size + 1) noU).setCell ⟨w.heap.size + 1 + 1, 0, none⟩ (.bool false)).putObj D (.deferred none)) := ((putU_below noU hB1 (by omega)).setCell (p := ⟨w.heap.size + 1 + 1, 0, none⟩) (by simp; omega) _).trans (belowK_b (w := w) (Nat.le_refl _) _ D _ _ (by omega) hK' rfl rfl)
    refine ⟨by simp, .inl ⟨_, _, rfl, run_takeDeferred hK', ?_⟩⟩
    refine ⟨.tuple #[encU noU, .bool false], ?_, by rw [hz.out.1, hz.out.2], L⟩
    have c3 := B3.cell
    obtain ⟨y0, y1, y2, y3, y4, y5, y6, y7, y8, y9⟩ := U3.cells
    unfold putU at c3 y0 y1 y2 y3 y4 y5 y6 y7 y8 y9
    simp only [noU] at c3 y0 y1 y2 y3 y4 y5 y6 y7 y8 y9
    simp [results, Try.f54, go_sem, c3, y0, y1, y2, y3, y4, y5, y6, y7, y8, y9, encU, noU]
  case stop =>
    rintro D c pre W hD hpre ⟨⟨⟨rfl, u, pre0, e1, e2, e3, bU1⟩, bB1⟩, hB1⟩ hK
    obtain ⟨rest, hrest⟩ := hpre
    have hz : Hid (isU s = true ∧ atU s = u) := atU_first (pre := pre0) (rest := rest) (by rw [← hrest, e1]; simp) e2 e3
    gi_wp2
    have U3 : HasU (W.putObj D (.deferred none)) (w.heap.size + 1) 90 u := bU1.kept (grownBy_putObj' _ D _) (fun e => by injection e with e; omega)
    have B3 : Boxed (W.putObj D (.deferred none)) (w.heap.size + 1 + 1) 4 (.bool true) := bB1.kept (grownBy_putObj' _ D _) (fun e => by injection e with e; omega)
    refine ⟨by simp, .inl ⟨_, _, rfl, run_takeDeferred hK, ?_⟩⟩
    refine ⟨.tuple #[encU u, .bool true], ?_, by rw [hz.out.1, hz.out.2], hB1.trans (belowK_b (w := w) (Nat.le_refl _) W D _ _ (by omega) hK rfl rfl)⟩
    have c3 := B3.cell
    obtain ⟨y0, y1, y2, y3, y4, y5, y6, y7, y8, y9⟩ := U3.cells
    simp [results, Try.f54, go_sem, c3, y0, y1, y2, y3, y4, y5, y6, y7, y8, y9, encU]

theorem find_any (s : ByteArray) (w : World) :
    Calls Try.prog 54 #[.string s] w fun e w' => e = .returned (.tuple #[encU (atU s), .bool (isU s)]) ∧ Below w.heap.size w w' :=
  (callsIn_wide (n := 3)).1 (find_in _ 3 trivial trivial rfl (Nat.le_refl _) s w)
end Go.Proofs.Ytllkkgcfhphgmaa
