/-
  Texts that belong together, one behind the other: DsKit. Conditions: as each says.
-/
import Derived.Deep.AppendLies
import Derived.Deep.RegionHeld3
import Derived.Lib.BufferOwn
import Derived.Maps.AppendAt
import Derived.Test.YtllkkgcfhphgmaaJs20
import Derived.Test.YtllkkgcfhphgmaaJs9
/-
  What is said of devices, fields, worlds by whoever writes them (layers 8 and 9); parted from layer 8's texts. No function of a program is named here. No conditions but those that each says.
-/
namespace Go.Proofs.Ytllkkgcfhphgmaa
open Go.RowKit
set_option linter.unusedVariables false

def fdCs (fs : List Fd) : List Value := fs.flatMap fdC
theorem fdCs_snoc (fs : List Fd) (f : Fd) : fdCs (fs ++ [f]) = fdCs fs ++ fdC f := by unfold fdCs; simp
/-- a cell of the reader's -/
theorem rd_cell {x : World} {B : Nat} {C : Array Value} {t : TypeId} (h : x.heap[B]? = some (.cells C t (0, 0))) (i : Nat) : x.cell? ⟨B, i, none⟩ = C[i]? ∧ x.frozen? ⟨B, i, none⟩ = false := by
  constructor
  · simp [World.cell?, h]
  · simp [World.frozen?, h]
theorem rd_set {x : World} {B : Nat} {C : Array Value} {t : TypeId} (h : x.heap[B]? = some (.cells C t (0, 0))) (i : Nat) (v : Value) : (x.setCell ⟨B, i, none⟩ v).heap[B]? = some (.cells (C.setIfInBounds i v) t (0, 0)) := by
  rw [setCell_eq_setRow _ _ i C _ (0, 0) _ h]; exact setRow_heap _ _ C _ _ (0, 0) h
abbrev dz : Array Value := #[.string ⟨#[]⟩, .int .i64 0, .int .i64 0, .int .i64 0, .int .i64 0, .string ⟨#[]⟩, .slice none 0 0, .slice none 0 0, .int .i64 0, .int .i64 0, .int .i64 0, .int .i64 0]
abbrev dvA (d : Dv) (fv qv : Value) : Array Value := #[.string (txt d.nm), .int .i64 d.st, .int .i64 d.es, .int .i64 d.mx, .int .i64 d.sz, .string (txt d.sm), fv, qv, .int .i64 d.po, .int .i64 d.ti, .int .i64 d.re, .int .i64 d.ag]
/-- twelve cells are written -/
def put12 (y : World) (R : Nat) (v0 v1 v2 v3 v4 v5 v6 v7 v8 v9 v10 v11 : Value) : World := (((((((((((y.setCell ⟨R, 0, none⟩ v0).setCell ⟨R, 1, none⟩ v1).setCell ⟨R, 2, none⟩ v2).setCell ⟨R, 3, none⟩ v3).setCell ⟨R, 4, none⟩ v4).setCell ⟨R, 5, none⟩ v5).setCell ⟨R, 6, none⟩ v6).setCell ⟨R, 7, none⟩ v7).setCell ⟨R, 8, none⟩ v8).setCell ⟨R, 9, none⟩ v9).setCell ⟨R, 10, none⟩ v10).setCell ⟨R, 11, none⟩ v11
theorem put12_at {y : World} {R : Nat} {a0 a1 a2 a3 a4 a5 a6 a7 a8 a9 a10 a11 : Value} {t : TypeId} (h : y.heap[R]? = some (.cells #[a0, a1, a2, a3, a4, a5, a6, a7, a8, a9, a10, a11] t (0, 0))) (v0 v1 v2 v3 v4 v5 v6 v7 v8 v9 v10 v11 : Value) :
    (put12 y R v0 v1 v2 v3 v4 v5 v6 v7 v8 v9 v10 v11).heap[R]? = some (.cells #[v0, v1, v2, v3, v4, v5, v6, v7, v8, v9, v10, v11] t (0, 0)) := by
  unfold put12
  refine (rd_set (rd_set (rd_set (rd_set (rd_set (rd_set (rd_set (rd_set (rd_set (rd_set (rd_set (rd_set h 0 v0) 1 v1) 2 v2) 3 v3) 4 v4) 5 v5) 6 v6) 7 v7) 8 v8) 9 v9) 10 v10) 11 v11).trans ?_
  simp only [List.setIfInBounds_toArray, List.set_cons_zero, List.set_cons_succ]
theorem put12_below {w y : World} {L R : Nat} (h : Below L w y) (hR : L ≤ R) (v0 v1 v2 v3 v4 v5 v6 v7 v8 v9 v10 v11 : Value) : Below L w (put12 y R v0 v1 v2 v3 v4 v5 v6 v7 v8 v9 v10 v11) := by
  unfold put12
  repeat (refine Below.setCell ?_ hR _)
  exact h
theorem put12_off {y : World} {R k : Nat} (hk : k ≠ R) (v0 v1 v2 v3 v4 v5 v6 v7 v8 v9 v10 v11 : Value) : (put12 y R v0 v1 v2 v3 v4 v5 v6 v7 v8 v9 v10 v11).heap[k]? = y.heap[k]? := by
  unfold put12
  simp only [Below.heap_setCell _ _ _ _ (show k ≠ (⟨R, _, none⟩ : Addr).block from hk)]
theorem fdCs_get : ∀ (fs : List Fd) (j k : Nat) (h : j < fs.length), k < 9 → (fdCs fs)[9 * j + k]? = (fdC fs[j])[k]?
  | [], j, k, h, _ => by cases h
  | f :: fs, 0, k, h, hk => by
    unfold fdCs
    rw [List.flatMap_cons, Nat.mul_zero, Nat.zero_add, List.getElem?_append_left (by rw [fdC_len]; exact hk)]
    rfl
  | f :: fs, j + 1, k, h, hk => by
    have ih := fdCs_get fs j k (by simpa using h) hk
    unfold fdCs at *
    rw [List.flatMap_cons, List.getElem?_append_right (by rw [fdC_len]; omega), fdC_len, show 9 * (j + 1) + k - 9 = 9 * j + k by omega, ih]
    rfl
theorem fdCs_len (fs : List Fd) : (fdCs fs).length = fs.length * 9 := by
  unfold fdCs
  induction fs with
  | nil => rfl
  | cons f fs ih => rw [List.flatMap_cons, List.length_append, ih, fdC_len, List.length_cons]; omega
theorem belowT2 {a b c : World} (h : Below a.heap.size a b) (k : Below b.heap.size b c) : Below a.heap.size a c := h.trans (k.mono h.size)
theorem kp {w x : World} {p : Addr} {v : Value} (h : Below w.heap.size w x) (hc : w.cell? p = some v) : x.cell? p = some v := (h.cell (block_lt_of_cell hc)).trans hc
theorem kpf {w x : World} {p : Addr} {v : Value} (h : Below w.heap.size w x) (hc : w.cell? p = some v) (hf : w.frozen? p = false) : x.frozen? p = false := (h.frozen (block_lt_of_cell hc)).trans hf
theorem ownsRow_below {w x : World} {base : Nat} {e : TypeId} {size : Nat} {v : Value} {n : Nat} {xs : List Value} (hb : Below w.heap.size w x) (h : w.ownsRow base e size v n xs) : x.ownsRow base e size v n xs := by
  refine ⟨h.1, ?_⟩
  rcases h.2 with h | ⟨g, cap, cur, h1, h2, h3, h4⟩
  · exact .inl h
  · exact .inr ⟨g, cap, cur, h1, h2, (hb.block g (Array.getElem?_eq_some_iff.1 h3).1).trans h3, h4⟩
theorem info_fd : (Try.prog.info? 45).map (fun i => (i.zero, i.size, i.bytes)) = some (some (.agg #[.string ⟨#[]⟩, .int .i64 0, .string ⟨#[]⟩, .int .i64 0, .int .i64 0, .int .i64 0, .int .i64 0, .int .i64 0, .string ⟨#[]⟩]), 9, 96) := by kernel_rfl

/-- the fields with one more -/
def ApY (w8 : World) (base m : Nat) (xs : List Value) (fv : Value) (fc : List Value) (y : World) (v : Value) : Prop :=
  ∃ gg cap', v = .slice (some ⟨gg, 0, none⟩) (m + 1) cap' ∧ y.ownsRow base 45 9 v (m + 1) (xs ++ fc) ∧ w8.grownBy y fv.ownBlock ∧ (fv.ownBlock = some gg ∨ w8.heap.size ≤ gg)
def ApR (w8 : World) (base B m : Nat) (xs : List Value) (fv : Value) (fc : List Value) (v : Value) (x : World) : Prop :=
  ApY w8 base m xs fv fc x v ∨ ∃ u, x.cell? ⟨B, 6, none⟩ = some u ∧ u ≠ fv
end Go.Proofs.Ytllkkgcfhphgmaa
