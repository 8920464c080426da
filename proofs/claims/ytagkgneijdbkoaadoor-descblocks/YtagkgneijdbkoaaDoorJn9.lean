/-
  Texts that belong together, one behind the other: RatAR, HasK. Conditions: as each says.
-/
import Derived.Handy
import Derived.Laws.NewDeep
import Derived.Laws.ResultCell
import Derived.Test.YtagkgneijdbkoaaDoorJn3
import Derived.Test.YtagkgneijdbkoaaDoorJn8
/-
  What ratio.Right returns, called with any fraction of numbers of 64 bits. Condition: the arguments are numbers of their kinds.
-/
namespace Go.Proofs.YtagkgneijdbkoaaDoor
open Go.RowKit
set_option linter.unusedVariables false

/-- a fraction's value -/
abbrev rv (n d : Int) : Value := .agg #[.int .i64 n, .int .i64 d]

theorem below_drewN {B : Nat} {a w : World} (h : Below B a w) (n : Nat) : Below B a (w.drewN n) := ⟨h.os, h.tape, h.output, h.size, h.block⟩

theorem below_set2 {B : Nat} {a w : World} (h : Below B a w) {p q : Addr} {u v : Value} (hp : B ≤ p.block) (hq : B ≤ q.block) : Below B a ((w.setCell p u).setCell q v) := (h.setCell hp u).setCell hq v

theorem ret_b {a b : Bool} (h : b = a) : Ending.returned (.bool a) = .returned (.bool b) := by rw [h]

set_option maxHeartbeats 400000 in
theorem right_any (n d : Int) (w : World) (hn : I64 n) (hd : I64 d) :
    Calls Tryd.prog 59 #[rv n d] w fun e w' => e = .returned (.bool (rightB n d)) ∧ Below w.heap.size w w' := by
  have fg : Hid (∀ w, Calls Tryd.prog 67 #[.int .i64 n, .int .i64 d] w fun e w' => e = .returned (.tuple #[.int .i64 (fitV (gcdN n d : Int)), .bool (fitB (gcdN n d : Int))]) ∧ ∃ k, w' = w.drewN k) := fun w => gcd_any n d w hn hd
  have fr : Hid ((rightB n d = (decide (0 < d) && decide (fitV (gcdN n d : Int) = 1)))) := by
    show _ = _
    unfold rightB
    congr 1
    by_cases h : I64 (gcdN n d : Int)
    · rw [(fit_yes h).2]; simp only [decide_eq_decide]; omega
    · rw [(fit_no h).2]
      have : ¬ gcdN n d = 1 := by intro e; apply h; rw [e]; exact ⟨by omega, by omega⟩
      simp [this]
  clear hn hd
  generalize rightB n d = r at *
  generalize fitV (gcdN n d : Int) = g at *
  generalize fitB (gcdN n d : Int) = gb at *
  go_enter Tryd.func59, Tryd.ntmps59
  go_wp2_with fail
  refine (fg.out _).mono ?_
  rintro e w' ⟨rfl, k, rfl⟩
  go_wp2
  all_goals
    go_ret
    refine ⟨ret_b ?_, below_drewN (by go_grown) k⟩
    rw [fr.out, Bool.eq_iff_iff]
    simp
    omega

end Go.Proofs.YtagkgneijdbkoaaDoor
/-
  A block of two cells, kept where only what is new is written. No conditions but those that each says.
-/
namespace Go.Proofs.YtagkgneijdbkoaaDoor
open Go.RowKit
set_option linter.unusedVariables false

theorem kept2 {w w' : World} {x y : Value} {b : Nat} (h : Below w.heap.size w w') (h0 : w.cell? ⟨b, 0, none⟩ = some x) (h1 : w.cell? ⟨b, 1, none⟩ = some y)
    (f0 : w.frozen? ⟨b, 0, none⟩ = false) (f1 : w.frozen? ⟨b, 1, none⟩ = false) :
    w'.cell? ⟨b, 0, none⟩ = some x ∧ w'.cell? ⟨b, 1, none⟩ = some y ∧ w'.frozen? ⟨b, 0, none⟩ = false ∧ w'.frozen? ⟨b, 1, none⟩ = false ∧ b < w'.heap.size := by
  have hb : b < w.heap.size := block_lt_of_cell h0
  exact ⟨(h.cell hb).trans h0, (h.cell hb).trans h1, (h.frozen hb).trans f0, (h.frozen hb).trans f1, Nat.lt_of_lt_of_le hb h.size⟩
/-- a block of two cells that may be written -/
def Has (w : World) (b : Nat) (x y : Value) : Prop :=
  w.cell? ⟨b, 0, none⟩ = some x ∧ w.cell? ⟨b, 1, none⟩ = some y ∧ w.frozen? ⟨b, 0, none⟩ = false ∧ w.frozen? ⟨b, 1, none⟩ = false ∧ b < w.heap.size
theorem Has.below {w w' : World} {b : Nat} {x y : Value} (h : Has w b x y) (hb : Below w.heap.size w w') : Has w' b x y := kept2 hb h.1 h.2.1 h.2.2.1 h.2.2.2.1
theorem has_new (w : World) (x y : Value) (t : TypeId) : Has (w.alloc (.cells #[x, y] t)) w.heap.size x y := by
  refine ⟨?_, ?_, ?_, ?_, ?_⟩ <;> simp
theorem Has.alloc {w : World} {b : Nat} {x y : Value} (h : Has w b x y) (o : Obj) : Has (w.alloc o) b x y :=
  h.below ((Below.refl _ _).alloc (Nat.le_refl _) _)
theorem below_trans {a b c : World} (h : Below a.heap.size a b) (k : Below b.heap.size b c) : Below a.heap.size a c := h.trans (k.mono h.size)

theorem ret_make {a b c n d e : Int} (h : n = a ∧ d = b ∧ e = c) : Ending.returned (.tuple #[rv a b, .int .i64 c]) = .returned (.tuple #[rv n d, .int .i64 e]) := by rw [h.1, h.2.1, h.2.2]

/-- a return of a fraction that lies in a block of its own, and of what is wrong -/
theorem res_pair {fn : Func} {p u : Tmp} (h : fn.results = #[.cell p 54, .tmp u]) {tmps : Array Value} {w : World} {b : Nat} {x y e : Value}
    (hp : tmps.getD p undef = .pointer (some ⟨b, 0, none⟩)) (hu : tmps.getD u undef = e) (h0 : w.cell? ⟨b, 0, none⟩ = some x) (h1 : w.cell? ⟨b, 1, none⟩ = some y) :
    (results fn tmps).run Tryd.prog w = .ok (.tuple #[.agg #[x, y], e]) w := by
  rw [results_cell_tmp h, hp, hu]
  simp only [asAddr]
  simp [go_sem, Result.andThen, h0, h1]

theorem wrote2 {w : World} {b : Nat} {x y u v : Value} (c0 : w.cell? ⟨b, 0, none⟩ = some u) (c1 : w.cell? ⟨b, 1, none⟩ = some v) :
    ((w.setCell ⟨b, 0, none⟩ x).setCell ⟨b, 1, none⟩ y).cell? ⟨b, 0, none⟩ = some x ∧ ((w.setCell ⟨b, 0, none⟩ x).setCell ⟨b, 1, none⟩ y).cell? ⟨b, 1, none⟩ = some y := by
  have n1 : (⟨b, 1, none⟩ : Addr) ≠ ⟨b, 0, none⟩ := by simp
  have n2 : (⟨b, 0, none⟩ : Addr) ≠ ⟨b, 1, none⟩ := by simp
  constructor
  · rw [World.cell?_setCell_other _ _ _ _ n1]; exact World.cell?_setCell_same _ _ _ c0
  · refine World.cell?_setCell_same _ _ _ (u := v) ?_
    rw [World.cell?_setCell_other _ _ _ _ n2]; exact c1
theorem wrote2_past {w : World} {b : Nat} {x y u v : Value} (o : Obj) (c0 : w.cell? ⟨b, 0, none⟩ = some u) (c1 : w.cell? ⟨b, 1, none⟩ = some v) :
    (((w.setCell ⟨b, 0, none⟩ x).setCell ⟨b, 1, none⟩ y).alloc o).cell? ⟨b, 0, none⟩ = some x ∧ (((w.setCell ⟨b, 0, none⟩ x).setCell ⟨b, 1, none⟩ y).alloc o).cell? ⟨b, 1, none⟩ = some y := by
  have hb : b < w.heap.size := block_lt_of_cell c0
  have h := wrote2 (x := x) (y := y) c0 c1
  exact ⟨(World.cell?_alloc_lt _ _ _ (by simpa using hb)).trans h.1, (World.cell?_alloc_lt _ _ _ (by simpa using hb)).trans h.2⟩

end Go.Proofs.YtagkgneijdbkoaaDoor
