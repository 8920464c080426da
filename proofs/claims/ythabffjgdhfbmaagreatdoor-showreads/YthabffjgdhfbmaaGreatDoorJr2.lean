/-
  Texts that belong together, one behind the other: DsKit, Nums, Digs, TextFacts, ReadFacts, LexWordM, IntsW, Cuts, ReadsK, Reads, Reads2, SizeW, RsizeW. Conditions: as each says.
-/
import Derived.BigQuiet
import Derived.Deep.AppendLies
import Derived.Deep.QuietTactic
import Derived.Deep.RegionHeld3
import Derived.Handy
import Derived.IntWalk
import Derived.Laws.Bits64
import Derived.Laws.Strings3
import Derived.Lib.BufferOwn
import Derived.Lib.Bytealg
import Derived.Lib.IndexBytes
import Derived.Lib.IndexLaws
import Derived.Lib.QuietBelowIn
import Derived.Lib.Strings
import Derived.Maps.AppendAt
import Derived.OpenShut
import Derived.ProofKit
import Derived.RangeFuncCalls
import Derived.RowKit
import Derived.Sort.BigQuietIn
import Derived.Test.YthabffjgdhfbmaaGreatDoorProg
import Derived.WalkKit
import Derived.WalkLawsBesides
import Derived.WalkSpells
import Derived.Test.YthabffjgdhfbmaaGreatDoorJr1
set_option maxRecDepth 100000
set_option maxHeartbeats 32000000
set_option linter.unusedVariables false
namespace Go.Proofs.YthabffjgdhfbmaaGreatDoor
open Go.RowKit
def fdCs (fs : List Fd) : List Value := fs.flatMap fdC
theorem fdCs_snoc (fs : List Fd) (f : Fd) : fdCs (fs ++ [f]) = fdCs fs ++ fdC f := by unfold fdCs; simp
theorem rd_cell {x : World} {B : Nat} {C : Array Value} {t : TypeId} (h : x.heap[B]? = some (.cells C t (0, 0))) (i : Nat) : x.cell? ⟨B, i, none⟩ = C[i]? ∧ x.frozen? ⟨B, i, none⟩ = false := by
 constructor
 · simp [World.cell?, h]
 · simp [World.frozen?, h]
theorem rd_set {x : World} {B : Nat} {C : Array Value} {t : TypeId} (h : x.heap[B]? = some (.cells C t (0, 0))) (i : Nat) (v : Value) : (x.setCell ⟨B, i, none⟩ v).heap[B]? = some (.cells (C.setIfInBounds i v) t (0, 0)) := by
 rw [setCell_eq_setRow _ _ i C _ (0, 0) _ h]; exact setRow_heap _ _ C _ _ (0, 0) h
abbrev dz : Array Value := #[.string ⟨#[]⟩, .int .i64 0, .int .i64 0, .int .i64 0, .int .i64 0, .string ⟨#[]⟩, .slice none 0 0, .slice none 0 0, .int .i64 0, .int .i64 0, .int .i64 0, .int .i64 0]
abbrev dvA (d : Dv) (fv qv : Value) : Array Value := #[.string (txt d.nm), .int .i64 d.st, .int .i64 d.es, .int .i64 d.mx, .int .i64 d.sz, .string (txt d.sm), fv, qv, .int .i64 d.po, .int .i64 d.ti, .int .i64 d.re, .int .i64 d.ag]
def put12 (y : World) (R : Nat) (v0 v1 v2 v3 v4 v5 v6 v7 v8 v9 v10 v11 : Value) : World := (((((((((((y.setCell ⟨R, 0, none⟩ v0).setCell ⟨R, 1, none⟩ v1).setCell ⟨R, 2, none⟩ v2).setCell ⟨R, 3, none⟩ v3).setCell ⟨R, 4, none⟩ v4).setCell ⟨R, 5, none⟩ v5).setCell ⟨R, 6, none⟩ v6).setCell ⟨R, 7, none⟩ v7).setCell ⟨R, 8, none⟩ v8).setCell ⟨R, 9, none⟩ v9).setCell ⟨R, 10, none⟩ v10).setCell ⟨R, 11, none⟩ v11
theorem put12_at {y : World} {R : Nat} {a0 a1 a2 a3 a4 a5 a6 a7 a8 a9 a10 a11 : Value} {t : TypeId} (h : y.heap[R]? = some (.cells #[a0, a1, a2, a3, a4, a5, a6, a7, a8, a9, a10, a11] t (0, 0))) (v0 v1 v2 v3 v4 v5 v6 v7 v8 v9 v10 v11 : Value) :
 (put12 y R v0 v1 v2 v3 v4 v5 v6 v7 v8 v9 v10 v11).heap[R]? = some (.cells #[v0, v1, v2, v3, v4, v5, v6, v7, v8, v9, v10, v11] t (0, 0)) := by
 unfold put12
 refine (rd_set (rd_set (rd_set (rd_set (rd_set (rd_set (rd_set (rd_set (rd_set (rd_set (rd_set (rd_set h 0 v0) 1 v1) 2 v2) 3 v3) 4 v4) 5 v5) 6 v6) 7 v7) 8 v8) 9 v9) 10 v10) 11 v11).trans ?_
 simp only [List.setIfInBounds_toArray, List.set_cons_zero, List.set_cons_succ]
theorem put12_below {w y : World} {L R : Nat} (h : Below L w y) (hR : L ≤ R) (v0 v1 v2 v3 v4 v5 v6 v7 v8 v9 v10 v11 : Value) : Below L w (put12 y R v0 v1 v2 v3 v4 v5 v6 v7 v8 v9 v10 v11) := by
 unfold put12
 repeat (refine Below.setCell ?_ hR _)
 exact h
theorem put12_off {y : World} {R k : Nat} (hk : k ≠ R) (v0 v1 v2 v3 v4 v5 v6 v7 v8 v9 v10 v11 : Value) : (put12 y R v0 v1 v2 v3 v4 v5 v6 v7 v8 v9 v10 v11).heap[k]? = y.heap[k]? := by
 unfold put12
 simp only [Below.heap_setCell _ _ _ _ (show k ≠ (⟨R, _, none⟩ : Addr).block from hk)]
theorem fdCs_get : ∀ (fs : List Fd) (j k : Nat) (h : j < fs.length), k < 9 → (fdCs fs)[9 * j + k]? = (fdC fs[j])[k]?
 | [], j, k, h, _ => by cases h
 | f :: fs, 0, k, h, hk => by
  unfold fdCs
  rw [List.flatMap_cons, Nat.mul_zero, Nat.zero_add, List.getElem?_append_left (by rw [fdC_len]; exact hk)]
  rfl
 | f :: fs, j + 1, k, h, hk => by
  have ih := fdCs_get fs j k (by simpa using h) hk
  unfold fdCs at *
  rw [List.flatMap_cons, List.getElem?_append_right (by rw [fdC_len]; omega), fdC_len, show 9 * (j + 1) + k - 9 = 9 * j + k by omega, ih]
  rfl
theorem fdCs_len (fs : List Fd) : (fdCs fs).length = fs.length * 9 := by
 unfold fdCs
 induction fs with
 | nil => rfl
 | cons f fs ih => rw [List.flatMap_cons, List.length_append, ih, fdC_len, List.length_cons]; omega
theorem belowT2 {a b c : World} (h : Below a.heap.size a b) (k : Below b.heap.size b c) : Below a.heap.size a c := h.trans (k.mono h.size)
theorem kp {w x : World} {p : Addr} {v : Value} (h : Below w.heap.size w x) (hc : w.cell? p = some v) : x.cell? p = some v := (h.cell (block_lt_of_cell hc)).trans hc
theorem kpf {w x : World} {p : Addr} {v : Value} (h : Below w.heap.size w x) (hc : w.cell? p = some v) (hf : w.frozen? p = false) : x.frozen? p = false := (h.frozen (block_lt_of_cell hc)).trans hf
theorem ownsRow_below {w x : World} {base : Nat} {e : TypeId} {size : Nat} {v : Value} {n : Nat} {xs : List Value} (hb : Below w.heap.size w x) (h : w.ownsRow base e size v n xs) : x.ownsRow base e size v n xs := by
 refine ⟨h.1, ?_⟩
 rcases h.2 with h | ⟨g, cap, cur, h1, h2, h3, h4⟩
 · exact .inl h
 · exact .inr ⟨g, cap, cur, h1, h2, (hb.block g (Array.getElem?_eq_some_iff.1 h3).1).trans h3, h4⟩
theorem info_fd : (Tryz.prog.info? 70).map (fun i => (i.zero, i.size, i.bytes)) = some (some (.agg #[.string ⟨#[]⟩, .int .i64 0, .string ⟨#[]⟩, .int .i64 0, .int .i64 0, .int .i64 0, .int .i64 0, .int .i64 0, .string ⟨#[]⟩]), 9, 96) := by kernel_rfl
def ApY (w8 : World) (base m : Nat) (xs : List Value) (fv : Value) (fc : List Value) (y : World) (v : Value) : Prop :=
 ∃ gg cap', v = .slice (some ⟨gg, 0, none⟩) (m + 1) cap' ∧ y.ownsRow base 70 9 v (m + 1) (xs ++ fc) ∧ w8.grownBy y fv.ownBlock ∧ (fv.ownBlock = some gg ∨ w8.heap.size ≤ gg)
def ApR (w8 : World) (base B m : Nat) (xs : List Value) (fv : Value) (fc : List Value) (v : Value) (x : World) : Prop :=
 ApY w8 base m xs fv fc x v ∨ ∃ u, x.cell? ⟨B, 6, none⟩ = some u ∧ u ≠ fv
theorem rd12 {x : World} {B : Nat} {v0 v1 v2 v3 v4 v5 v6 v7 v8 v9 v10 v11 : Value} {t : TypeId} (h : x.heap[B]? = some (.cells #[v0, v1, v2, v3, v4, v5, v6, v7, v8, v9, v10, v11] t (0, 0))) :
 x.cell? ⟨B, 0, none⟩ = some v0 ∧ x.frozen? ⟨B, 0, none⟩ = false ∧ x.cell? ⟨B, 1, none⟩ = some v1 ∧ x.frozen? ⟨B, 1, none⟩ = false ∧ x.cell? ⟨B, 2, none⟩ = some v2 ∧ x.frozen? ⟨B, 2, none⟩ = false ∧ x.cell? ⟨B, 3, none⟩ = some v3 ∧ x.frozen? ⟨B, 3, none⟩ = false ∧ x.cell? ⟨B, 4, none⟩ = some v4 ∧ x.frozen? ⟨B, 4, none⟩ = false ∧ x.cell? ⟨B, 5, none⟩ = some v5 ∧ x.frozen? ⟨B, 5, none⟩ = false ∧ x.cell? ⟨B, 6, none⟩ = some v6 ∧ x.frozen? ⟨B, 6, none⟩ = false ∧ x.cell? ⟨B, 7, none⟩ = some v7 ∧ x.frozen? ⟨B, 7, none⟩ = false ∧ x.cell? ⟨B, 8, none⟩ = some v8 ∧ x.frozen? ⟨B, 8, none⟩ = false ∧ x.cell? ⟨B, 9, none⟩ = some v9 ∧ x.frozen? ⟨B, 9, none⟩ = false ∧ x.cell? ⟨B, 10, none⟩ = some v10 ∧ x.frozen? ⟨B, 10, none⟩ = false ∧ x.cell? ⟨B, 11, none⟩ = some v11 ∧ x.frozen? ⟨B, 11, none⟩ = false := by
 have c := rd_cell h
 exact ⟨(c 0).1, (c 0).2, (c 1).1, (c 1).2, (c 2).1, (c 2).2, (c 3).1, (c 3).2, (c 4).1, (c 4).2, (c 5).1, (c 5).2, (c 6).1, (c 6).2, (c 7).1, (c 7).2, (c 8).1, (c 8).2, (c 9).1, (c 9).2, (c 10).1, (c 10).2, (c 11).1, (c 11).2⟩
abbrev putD (y : World) (R : Nat) (d : Dv) (f q : Value) : World := put12 y R (.string (txt d.nm)) (.int .i64 d.st) (.int .i64 d.es) (.int .i64 d.mx) (.int .i64 d.sz) (.string (txt d.sm)) f q (.int .i64 d.po) (.int .i64 d.ti) (.int .i64 d.re) (.int .i64 d.ag)
theorem putD_at {y : World} {R : Nat} {a0 a1 a2 a3 a4 a5 a6 a7 a8 a9 a10 a11 : Value} {t : TypeId} (h : y.heap[R]? = some (.cells #[a0, a1, a2, a3, a4, a5, a6, a7, a8, a9, a10, a11] t (0, 0))) (d : Dv) (f q : Value) : (putD y R d f q).heap[R]? = some (.cells #[.string (txt d.nm), .int .i64 d.st, .int .i64 d.es, .int .i64 d.mx, .int .i64 d.sz, .string (txt d.sm), f, q, .int .i64 d.po, .int .i64 d.ti, .int .i64 d.re, .int .i64 d.ag] t (0, 0)) := put12_at h _ _ _ _ _ _ _ _ _ _ _ _
theorem putD_below {w y : World} {L R : Nat} (h : Below L w y) (hR : L ≤ R) (d : Dv) (f q : Value) : Below L w (putD y R d f q) := put12_below h hR _ _ _ _ _ _ _ _ _ _ _ _
end Go.Proofs.YthabffjgdhfbmaaGreatDoor
namespace Go.Proofs.YthabffjgdhfbmaaGreatDoor
open Go.RowKit (wrap64)
def fitB (n : Int) : Bool := decide (-9223372036854775808 ≤ n) && decide (n ≤ 9223372036854775807)
def fitV (n : Int) : Int := if fitB n = true then n else 0
theorem fitB_iff (n : Int) : fitB n = true ↔ -9223372036854775808 ≤ n ∧ n ≤ 9223372036854775807 := by
 unfold fitB; simp
theorem fit_yes {n : Int} (h : -9223372036854775808 ≤ n ∧ n ≤ 9223372036854775807) : fitB n = true ∧ fitV n = n := by
 have := (fitB_iff n).2 h
 exact ⟨this, by unfold fitV; simp [this]⟩
theorem fit_no {n : Int} (h : ¬(-9223372036854775808 ≤ n ∧ n ≤ 9223372036854775807)) : fitB n = false ∧ fitV n = 0 := by
 have h2 : fitB n = false := by
  cases e : fitB n
  · rfl
  · exact absurd ((fitB_iff n).1 e) h
 exact ⟨h2, by unfold fitV; simp [h2]⟩
theorem fitV_bd (n : Int) : -9223372036854775808 ≤ fitV n ∧ fitV n ≤ 9223372036854775807 := by
 by_cases h : -9223372036854775808 ≤ n ∧ n ≤ 9223372036854775807
 · rw [(fit_yes h).2]; exact h
 · rw [(fit_no h).2]; omega
theorem add_over {a b : Int} (ha : -9223372036854775808 ≤ a ∧ a ≤ 9223372036854775807) (hb : -9223372036854775808 ≤ b ∧ b ≤ 9223372036854775807)
 (h : (!decide (a < wrap64 (a + b)) == decide (0 < b)) = true) : fitV (a + b) = 0 ∧ fitB (a + b) = false := by
 have h3 : ¬(-9223372036854775808 ≤ a + b ∧ a + b ≤ 9223372036854775807) := by
  intro hc
  rw [Go.IntWalk.wrap64_in _ hc] at h
  simp at h
  omega
 exact ⟨(fit_no h3).2, (fit_no h3).1⟩
theorem add_fine {a b : Int} (ha : -9223372036854775808 ≤ a ∧ a ≤ 9223372036854775807) (hb : -9223372036854775808 ≤ b ∧ b ≤ 9223372036854775807)
 (h : (!decide (a < wrap64 (a + b)) == decide (0 < b)) = false) : fitV (a + b) = wrap64 (a + b) ∧ fitB (a + b) = true := by
 have h3 : (-9223372036854775808 ≤ a + b ∧ a + b ≤ 9223372036854775807) := by
  simp at h
  unfold wrap64 at h
  omega
 exact ⟨by rw [(fit_yes h3).2, Go.IntWalk.wrap64_in _ h3], (fit_yes h3).1⟩
theorem neg_over {a : Int} (h : (a == -9223372036854775808) = true) : fitV (-a) = 0 ∧ fitB (-a) = false := by
 simp at h
 exact ⟨(fit_no (by omega)).2, (fit_no (by omega)).1⟩
theorem neg_fine {a : Int} (ha : -9223372036854775808 ≤ a ∧ a ≤ 9223372036854775807) (h : (a == -9223372036854775808) = false) : fitV (-a) = -a ∧ fitB (-a) = true := by
 simp at h
 exact ⟨(fit_yes (by omega)).2, (fit_yes (by omega)).1⟩
theorem tdiv_bd (x a : Int) (h0 : a ≠ 0) (h1 : a ≠ -1) (hx : -9223372036854775808 ≤ x ∧ x ≤ 9223372036854775807) :
 -9223372036854775808 ≤ x.tdiv a ∧ x.tdiv a ≤ 9223372036854775807 := by
 have h := Int.natAbs_tdiv x a
 by_cases h2 : a = 1
 · subst h2; simpa using hx
 · have h3 : 2 ≤ a.natAbs := by omega
   have h4 : x.natAbs / a.natAbs ≤ x.natAbs / 2 := Nat.div_le_div_left h3 (by omega)
   have h5 : x.natAbs ≤ 9223372036854775808 := by omega
   have h6 : (x.tdiv a).natAbs ≤ 9223372036854775808 / 2 := by
    rw [h]; exact Nat.le_trans h4 (Nat.div_le_div_right h5)
   omega
theorem mul_back {a b : Int} (h0 : a ≠ 0) (h1 : a ≠ -1) (ha : -9223372036854775808 ≤ a ∧ a ≤ 9223372036854775807) :
 wrap64 ((wrap64 (a * b)).tdiv a) = b ↔ (-9223372036854775808 ≤ a * b ∧ a * b ≤ 9223372036854775807) ∧ (-9223372036854775808 ≤ b ∧ b ≤ 9223372036854775807) := by
 have hw : -9223372036854775808 ≤ wrap64 (a * b) ∧ wrap64 (a * b) ≤ 9223372036854775807 := by unfold wrap64; omega
 have ht := tdiv_bd (wrap64 (a * b)) a h0 h1 hw
 rw [Go.IntWalk.wrap64_in _ ht]
 constructor
 · intro h
   refine ⟨?_, by rw [← h]; exact ht⟩
   by_cases hc : -9223372036854775808 ≤ a * b ∧ a * b ≤ 9223372036854775807
   · exact hc
   · exfalso
     have e := Int.mul_tdiv_add_tmod (wrap64 (a * b)) a
     rw [h] at e
     have hl : ((wrap64 (a * b)).tmod a).natAbs < a.natAbs := by
      rw [Int.natAbs_tmod]; exact Nat.mod_lt _ (by omega)
     unfold wrap64 at e hl
     generalize a * b = p at *
     generalize ((p + 9223372036854775808) % 18446744073709551616 - 9223372036854775808).tmod a = r at *
     omega
 · intro h
   rw [Go.IntWalk.wrap64_in _ h.1]
   exact Int.mul_tdiv_cancel_left _ h0
theorem mul_over {a b : Int} (h0 : a ≠ 0) (h1 : a ≠ -1) (ha : -9223372036854775808 ≤ a ∧ a ≤ 9223372036854775807) (hb : -9223372036854775808 ≤ b ∧ b ≤ 9223372036854775807)
 (h : (wrap64 ((wrap64 (a * b)).tdiv a) != b) = true) : fitV (a * b) = 0 ∧ fitB (a * b) = false := by
 have h3 : ¬(-9223372036854775808 ≤ a * b ∧ a * b ≤ 9223372036854775807) := by
  intro hc
  have := (mul_back h0 h1 ha).2 ⟨hc, hb⟩
  simp [this] at h
 exact ⟨(fit_no h3).2, (fit_no h3).1⟩
theorem mul_fine {a b : Int} (h0 : a ≠ 0) (h1 : a ≠ -1) (ha : -9223372036854775808 ≤ a ∧ a ≤ 9223372036854775807) (hb : -9223372036854775808 ≤ b ∧ b ≤ 9223372036854775807)
 (h : (wrap64 ((wrap64 (a * b)).tdiv a) != b) = false) : fitV (a * b) = wrap64 (a * b) ∧ fitB (a * b) = true := by
 have h3 : (-9223372036854775808 ≤ a * b ∧ a * b ≤ 9223372036854775807) := by
  simp at h
  exact ((mul_back h0 h1 ha).1 h).1
 exact ⟨by rw [(fit_yes h3).2, Go.IntWalk.wrap64_in _ h3], (fit_yes h3).1⟩
theorem ret_nb {k : IntKind} {a c : Int} {b d : Bool} (h : c = a ∧ d = b) : Ending.returned (.tuple #[.int k a, .bool b]) = .returned (.tuple #[.int k c, .bool d]) := by rw [h.1, h.2]
theorem ret_n {k : IntKind} {a c : Int} (h : c = a) : Ending.returned (.int k a) = .returned (.int k c) := by rw [h]
theorem ret_nn {k l : IntKind} {a b c d : Int} (h : c = a ∧ d = b) : Ending.returned (.tuple #[.int k a, .int l b]) = .returned (.tuple #[.int k c, .int l d]) := by rw [h.1, h.2]
theorem neg_u64 {L : Int} (hL : 0 ≤ L ∧ L ≤ 9223372036854775808) : wrap64 (IntKind.u64.wrap (-L)) = -L := by
 rw [IntKind.wrap_u64]; unfold wrap64; omega
end Go.Proofs.YthabffjgdhfbmaaGreatDoor
namespace Go.Proofs.YthabffjgdhfbmaaGreatDoor
def dig (n : Nat) : UInt8 := UInt8.ofNat (48 + n % 10)
theorem dig_toNat (n : Nat) : (dig n).toNat = 48 + n % 10 := by
 unfold dig
 rw [UInt8.toNat_ofNat']
 have : n % 10 < 10 := Nat.mod_lt _ (by omega)
 omega
def low : Nat → Nat → List UInt8
 | 0, _ => []
 | k + 1, n => dig (n / 10 ^ k) :: low k n
theorem low_length (k n : Nat) : (low k n).length = k := by
 induction k with
 | zero => rfl
 | succ k ih => simp [low, ih]
theorem low_back (k n : Nat) : low (k + 1) n = low k (n / 10) ++ [dig n] := by
 induction k with
 | zero => simp [low]
 | succ k ih =>
  rw [low, ih, low, Nat.div_div_eq_div_mul, Nat.pow_succ, Nat.mul_comm]; rfl
def dec : Nat → Nat → List UInt8
 | 0, n => [dig n]
 | f + 1, n => if n < 10 then [dig n] else dec f (n / 10) ++ [dig n]
theorem low_dec (k n f : Nat) (h1 : n / 10 ^ (k + 1) = 0) (h2 : k = 0 ∨ n / 10 ^ k ≠ 0) (hf : k ≤ f) : low (k + 1) n = dec f n := by
 induction k generalizing n f with
 | zero =>
  have hn : n < 10 := by
   rw [Nat.div_eq_zero_iff] at h1
   omega
  cases f with
  | zero => simp [low, dec]
  | succ f => simp [low, dec, hn]
 | succ k ih =>
  cases f with
  | zero => omega
  | succ f =>
   have h3 : n / 10 ^ (k + 1) ≠ 0 := by
    cases h2 with
    | inl h => omega
    | inr h => exact h
   have hn : ¬ n < 10 := by
    intro h
    apply h3
    apply Nat.div_eq_of_lt
    have h1 : 10 ^ 1 ≤ 10 ^ (k + 1) := Nat.pow_le_pow_right (by omega) (by omega)
    omega
   have e : ∀ j, n / 10 ^ (j + 1) = n / 10 / 10 ^ j := fun j => by
    rw [Nat.div_div_eq_div_mul, Nat.pow_succ, Nat.mul_comm]
   rw [low_back, dec, if_neg hn, ih (n / 10) f (by rw [← e]; exact h1) (by
    cases k with
    | zero => exact .inl rfl
    | succ k => exact .inr (by rw [← e]; exact h3)) (by omega)]
def val (l : List UInt8) : Nat := l.foldl (fun v c => 10 * v + (c.toNat - 48)) 0
theorem val_snoc (l : List UInt8) (c : UInt8) : val (l ++ [c]) = 10 * val l + (c.toNat - 48) := by
 unfold val; simp
theorem val_dec (f n : Nat) (h : n < 10 ^ (f + 1)) : val (dec f n) = n := by
 induction f generalizing n with
 | zero =>
  simp at h
  simp [dec, val, dig_toNat]; omega
 | succ f ih =>
  rw [dec]
  by_cases hn : n < 10
  · rw [if_pos hn]; simp [val, dig_toNat]; omega
  · rw [if_neg hn, val_snoc, ih (n / 10) (by rw [Nat.pow_succ] at h; omega), dig_toNat]; omega
theorem dec_digits (f n : Nat) : ∀ c ∈ dec f n, 48 ≤ c.toNat ∧ c.toNat ≤ 57 := by
 have hd : ∀ n, 48 ≤ (dig n).toNat ∧ (dig n).toNat ≤ 57 := fun n => by rw [dig_toNat]; omega
 induction f generalizing n with
 | zero => intro c hc; simp [dec] at hc; rw [hc]; exact hd n
 | succ f ih =>
  intro c hc
  rw [dec] at hc
  by_cases hn : n < 10
  · rw [if_pos hn] at hc; simp at hc; rw [hc]; exact hd n
  · rw [if_neg hn] at hc
    rcases List.mem_append.1 hc with h | h
    · exact ih _ c h
    · simp at h; rw [h]; exact hd n
theorem dec_length (f n : Nat) : 1 ≤ (dec f n).length ∧ (dec f n).length ≤ f + 1 := by
 induction f generalizing n with
 | zero => simp [dec]
 | succ f ih =>
  rw [dec]
  by_cases hn : n < 10
  · rw [if_pos hn]; simp
  · rw [if_neg hn]
    have := ih (n / 10)
    simp; omega
theorem dec_head (f n : Nat) (h : n < 10 ^ (f + 1)) : (∃ c t, dec f n = c :: t ∧ (c.toNat = 48 → t = [] ∧ n = 0)) := by
 induction f generalizing n with
 | zero =>
  simp at h
  refine ⟨dig n, [], rfl, fun hc => ⟨rfl, ?_⟩⟩
  rw [dig_toNat] at hc; omega
 | succ f ih =>
  rw [dec]
  by_cases hn : n < 10
  · rw [if_pos hn]
    refine ⟨dig n, [], rfl, fun hc => ⟨rfl, ?_⟩⟩
    rw [dig_toNat] at hc; omega
  · rw [if_neg hn]
    obtain ⟨c, t, e, h2⟩ := ih (n / 10) (by rw [Nat.pow_succ] at h; omega)
    refine ⟨c, t ++ [dig n], by rw [e]; rfl, fun hc => ?_⟩
    have := (h2 hc).2
    omega
def textL (a : Int) : List UInt8 := if a < 0 then 45 :: dec 18 a.natAbs else dec 18 a.natAbs
theorem textL_neg {a : Int} (h : a < 0) : textL a = 45 :: dec 18 a.natAbs := by unfold textL; rw [if_pos h]
theorem textL_pos {a : Int} (h : 0 ≤ a) : textL a = dec 18 a.natAbs := by unfold textL; rw [if_neg (by omega)]
end Go.Proofs.YthabffjgdhfbmaaGreatDoor
namespace Go.Proofs.YthabffjgdhfbmaaGreatDoor
theorem natAbs_lt {a : Int} (ha : -9223372036854775808 ≤ a ∧ a ≤ 9223372036854775807) : a.natAbs < 10 ^ (18 + 1) := by
 have : (10 : Nat) ^ (18 + 1) = 10000000000000000000 := by decide
 rw [this]; omega
theorem dec_no_minus (f n : Nat) (h : n < 10 ^ (f + 1)) : ∃ c t, dec f n = c :: t ∧ c ≠ 45 := by
 obtain ⟨c, t, e, _⟩ := dec_head f n h
 refine ⟨c, t, e, fun hc => ?_⟩
 have := dec_digits f n c (by rw [e]; simp)
 rw [hc] at this
 exact absurd this.1 (by decide)
theorem textL_len (a : Int) : 1 ≤ (textL a).length ∧ (textL a).length ≤ 20 := by
 have := dec_length 18 a.natAbs
 by_cases h1 : a < 0
 · rw [textL_neg h1]; simp; omega
 · rw [textL_pos (by omega)]; omega
end Go.Proofs.YthabffjgdhfbmaaGreatDoor
namespace Go.Proofs.YthabffjgdhfbmaaGreatDoor
def isd (c : UInt8) : Bool := decide (48 ≤ c.toNat) && decide (c.toNat ≤ 57)
theorem isd_iff (c : UInt8) : isd c = true ↔ 48 ≤ c.toNat ∧ c.toNat ≤ 57 := by unfold isd; simp
theorem val_foldl (l : List UInt8) (v : Nat) : l.foldl (fun v c => 10 * v + (c.toNat - 48)) v = v * 10 ^ l.length + val l := by
 induction l generalizing v with
 | nil => simp [val]
 | cons c l ih =>
  show l.foldl (fun v c => 10 * v + (c.toNat - 48)) (10 * v + (c.toNat - 48)) = v * 10 ^ (l.length + 1) + l.foldl (fun v c => 10 * v + (c.toNat - 48)) (10 * 0 + (c.toNat - 48))
  rw [ih, ih (10 * 0 + (c.toNat - 48)), Nat.mul_zero, Nat.zero_add, Nat.add_mul, Nat.pow_succ]
  have : 10 * v * 10 ^ l.length = v * (10 ^ l.length * 10) := by
   rw [Nat.mul_comm 10 v, Nat.mul_assoc, Nat.mul_comm 10]
  omega
theorem val_append (l m : List UInt8) : val (l ++ m) = val l * 10 ^ m.length + val m := by
 have := val_foldl m (val l)
 unfold val at this ⊢
 rw [List.foldl_append]; exact this
theorem val_cons (c : UInt8) (l : List UInt8) : val (c :: l) = (c.toNat - 48) * 10 ^ l.length + val l := by
 have := val_append [c] l
 simpa [val] using this
theorem val_mono (l m : List UInt8) : val l ≤ val (l ++ m) := by
 rw [val_append]
 have : val l * 1 ≤ val l * 10 ^ m.length := Nat.mul_le_mul_left _ (Nat.one_le_pow _ _ (by omega))
 omega
theorem val_take_le (l : List UInt8) (k : Nat) : val (l.take k) ≤ val l := by
 have := val_mono (l.take k) (l.drop k)
 rwa [List.take_append_drop] at this
theorem val_lt (l : List UInt8) (h : l.all isd = true) : val l < 10 ^ l.length := by
 induction l with
 | nil => simp [val]
 | cons c l ih =>
  simp only [List.all_cons, Bool.and_eq_true] at h
  have hc := (isd_iff c).1 h.1
  have := ih h.2
  rw [val_cons, List.length_cons, Nat.pow_succ]
  have h2 : (c.toNat - 48) * 10 ^ l.length ≤ 9 * 10 ^ l.length := Nat.mul_le_mul_right _ (by omega)
  omega
theorem val_ge (c : UInt8) (l : List UInt8) (h : isd c = true) (h0 : c ≠ 48) : 10 ^ l.length ≤ val (c :: l) := by
 rw [val_cons]
 have hc := (isd_iff c).1 h
 have hn : c.toNat ≠ 48 := fun e => h0 (UInt8.toNat_inj.1 e)
 have h2 : 1 * 10 ^ l.length ≤ (c.toNat - 48) * 10 ^ l.length := Nat.mul_le_mul_right _ (by omega)
 omega
def plainB (l : List UInt8) : Bool := !l.isEmpty && !(l.headD 0 == 48 && decide (1 < l.length)) && l.all isd
def badB (t : List UInt8) (minus : Bool) : Bool := !plainB t || (minus && t == [48])
def sgn (minus : Bool) (v : Nat) : Int := if minus = true then -(v : Int) else (v : Int)
def coreV (t : List UInt8) (minus : Bool) : Int := if badB t minus = true then 0 else fitV (sgn minus (val t))
def coreE (t : List UInt8) (minus : Bool) : Int := if badB t minus = true then 6 else if fitB (sgn minus (val t)) = true then 0 else 2
def readV (l : List UInt8) : Int := if l.head? = some 45 then coreV (l.drop 1) true else coreV l false
def readE (l : List UInt8) : Int := if l.head? = some 45 then coreE (l.drop 1) true else coreE l false
theorem core_bad {t : List UInt8} {minus : Bool} (h : badB t minus = true) : coreV t minus = 0 ∧ coreE t minus = 6 := by
 unfold coreV coreE; simp [h]
theorem core_over {t : List UInt8} {minus : Bool} (h : badB t minus = false) (h2 : fitB (sgn minus (val t)) = false) : coreV t minus = 0 ∧ coreE t minus = 2 := by
 unfold coreV coreE fitV; simp [h, h2]
theorem core_fine {t : List UInt8} {minus : Bool} (h : badB t minus = false) (h2 : fitB (sgn minus (val t)) = true) : coreV t minus = sgn minus (val t) ∧ coreE t minus = 0 := by
 unfold coreV coreE fitV; simp [h, h2]
theorem dec_all (f n : Nat) : (dec f n).all isd = true := by
 rw [List.all_eq_true]
 intro c hc
 exact (isd_iff c).2 (dec_digits f n c hc)
theorem dec_plain (f n : Nat) (h : n < 10 ^ (f + 1)) : plainB (dec f n) = true := by
 unfold plainB
 rw [dec_all]
 obtain ⟨c, t, e, h2⟩ := dec_head f n h
 rw [e]
 by_cases hc : c.toNat = 48
 · have := (h2 hc).1; subst this; simp
 · have : ¬ c = 48 := fun x => hc (by rw [x]; rfl)
   simp [this]
theorem read_text {a : Int} (ha : -9223372036854775808 ≤ a ∧ a ≤ 9223372036854775807) : readV (textL a) = a ∧ readE (textL a) = 0 := by
 have hl := natAbs_lt ha
 have hp := dec_plain 18 a.natAbs hl
 have hv := val_dec 18 a.natAbs hl
 by_cases h : a < 0
 · have hb : badB (dec 18 a.natAbs) true = false := by
    unfold badB
    rw [hp]
    have : dec 18 a.natAbs ≠ [48] := by
     intro e
     rw [e] at hv
     have : val [48] = 0 := by decide
     omega
    simp [this]
   have hs : sgn true (val (dec 18 a.natAbs)) = a := by
    rw [hv]; unfold sgn; simp; omega
   have hf : fitB (sgn true (val (dec 18 a.natAbs))) = true := by rw [hs]; exact (fit_yes ha).1
   unfold readV readE
   rw [textL_neg h]
   have := core_fine hb hf
   rw [hs] at this
   simpa using this
 · have hb : badB (dec 18 a.natAbs) false = false := by
    unfold badB
    rw [hp]; simp
   have hs : sgn false (val (dec 18 a.natAbs)) = a := by
    rw [hv]; unfold sgn; simp; omega
   have hf : fitB (sgn false (val (dec 18 a.natAbs))) = true := by rw [hs]; exact (fit_yes ha).1
   obtain ⟨c, t, e, hc⟩ := dec_no_minus 18 a.natAbs hl
   unfold readV readE
   rw [textL_pos (by omega)]
   have := core_fine hb hf
   rw [hs] at this
   have hh : ¬ (dec 18 a.natAbs).head? = some 45 := by rw [e]; simp [hc]
   rw [if_neg hh, if_neg hh]
   exact this
end Go.Proofs.YthabffjgdhfbmaaGreatDoor
namespace Go.Proofs.YthabffjgdhfbmaaGreatDoor
open Go.RowKit
def halfC (c : Nat) : Int := if 48 ≤ c ∧ c ≤ 57 then (c : Int) - 48 else if 97 ≤ c ∧ c ≤ 102 then (c : Int) - 87 else -1
theorem half_bd (c : Nat) : -1 ≤ halfC c ∧ halfC c ≤ 15 := by unfold halfC; split <;> (try split) <;> omega
def hexO : List UInt8 → Option (List Nat)
 | [] => some []
 | [_] => none
 | a :: b :: r => if 0 ≤ halfC a.toNat ∧ 0 ≤ halfC b.toNat then (hexO r).map (fun t => (16 * halfC a.toNat + halfC b.toNat).toNat :: t) else none
def hexR (l : List UInt8) : Option (List Nat) := if l = [] then none else hexO l
theorem hex_odd : ∀ (l : List UInt8), l.length % 2 = 1 → hexO l = none
 | [], h => by simp at h
 | [_], _ => rfl
 | a :: b :: r, h => by
  have := hex_odd r (by simp at h; omega)
  rw [hexO]
  split
  · rw [this]; rfl
  · rfl
theorem hex_bytes : ∀ (l : List UInt8) {bs : List Nat}, hexO l = some bs → AllBytes bs ∧ bs.length ≤ l.length
 | [], bs, h => by
  have e : [] = bs := by simpa [hexO] using h
  subst e; exact ⟨(fun c hc => by cases hc), Nat.le_refl _⟩
 | [_], bs, h => by cases h
 | a :: b :: r, bs, h => by
  rw [hexO] at h
  split at h
  · rename_i hc
    cases hr : hexO r with
    | none => rw [hr] at h; cases h
    | some t =>
     rw [hr] at h
     have e : (16 * halfC a.toNat + halfC b.toNat).toNat :: t = bs := by simpa using h
     obtain ⟨i1, i2⟩ := hex_bytes r hr
     subst e
     have h1 := half_bd a.toNat
     have h2 := half_bd b.toNat
     refine ⟨fun c hc2 => ?_, by simp; omega⟩
     rcases List.mem_cons.1 hc2 with h3 | h3
     · omega
     · exact i1 c h3
  · cases h
def LeftH (out : List Nat) (r : List UInt8) (T : Option (List Nat)) : Prop := (hexO r).map (fun t => out ++ t) = T
theorem LeftH.first (l : List UInt8) : LeftH [] l (hexO l) := by unfold LeftH; cases hexO l <;> rfl
theorem LeftH.fin {out : List Nat} {T : Option (List Nat)} (h : LeftH out [] T) : T = some out := by
 unfold LeftH at h; rw [← h]; simp [hexO]
theorem LeftH.two {out : List Nat} {a b : UInt8} {r : List UInt8} {T : Option (List Nat)} (h : LeftH out (a :: b :: r) T) (h1 : 0 ≤ halfC a.toNat) (h2 : 0 ≤ halfC b.toNat) : LeftH (out ++ [(16 * halfC a.toNat + halfC b.toNat).toNat]) r T := by
 unfold LeftH at *
 rw [hexO, if_pos ⟨h1, h2⟩] at h
 rw [← h]
 cases hexO r with
 | none => rfl
 | some t => simp
theorem LeftH.bad {out : List Nat} {a b : UInt8} {r : List UInt8} {T : Option (List Nat)} (h : LeftH out (a :: b :: r) T) (h1 : ¬ (0 ≤ halfC a.toNat ∧ 0 ≤ halfC b.toNat)) : T = none := by
 unfold LeftH at h
 rw [hexO, if_neg h1] at h
 exact h.symm
def lowB (c : UInt8) : Bool := decide (97 ≤ c.toNat ∧ c.toNat ≤ 122)
def nameC (c : UInt8) : Bool := decide ((97 ≤ c.toNat ∧ c.toNat ≤ 122) ∨ (48 ≤ c.toNat ∧ c.toNat ≤ 57))
def allN (l : List UInt8) : Bool := l.all nameC
def nameB (l : List UInt8) : Bool := decide (l.length ≤ 12) && (match l with | [] => false | c :: _ => lowB c && allN l)
theorem allN_stop {l : List UInt8} {k : Nat} (h : k < l.length) (hc : nameC l[k] = false) : allN l = false := by
 unfold allN
 rw [List.all_eq_false]
 exact ⟨l[k], List.getElem_mem h, by rw [hc]; simp⟩
theorem allN_next {l : List UInt8} {k : Nat} (h : k < l.length) (ha : allN (l.take k) = true) (hc : nameC l[k] = true) : allN (l.take (k + 1)) = true := by
 unfold allN at *
 rw [← List.take_append_getElem h, List.all_append, ha]
 simp [hc]
def numB (l : List UInt8) (lo hi : Int) : Bool := decide (readE l = 0 ∧ lo ≤ readV l ∧ readV l ≤ hi)
def numV (l : List UInt8) (lo hi : Int) : Int := if numB l lo hi = true then readV l else 0
theorem readV_bd (l : List UInt8) : -9223372036854775808 ≤ readV l ∧ readV l ≤ 9223372036854775807 := by
 have hf : ∀ n : Int, -9223372036854775808 ≤ fitV n ∧ fitV n ≤ 9223372036854775807 := fun n => by
  unfold fitV
  split
  · rename_i h; exact (fitB_iff n).1 h
  · omega
 have hc : ∀ t m, -9223372036854775808 ≤ coreV t m ∧ coreV t m ≤ 9223372036854775807 := fun t m => by
  unfold coreV
  split
  · omega
  · exact hf _
 unfold readV
 split <;> exact hc _ _
theorem add_any (a b : Int) (w : World) (ha : -9223372036854775808 ≤ a ∧ a ≤ 9223372036854775807) (hb : -9223372036854775808 ≤ b ∧ b ≤ 9223372036854775807) :
 Calls Tryz.prog 164 #[.int .i64 a, .int .i64 b] w fun e w' => e = .returned (.tuple #[.int .i64 (fitV (a + b)), .bool (fitB (a + b))]) ∧ w' = w := by
 go_enter Tryz.func164, Tryz.ntmps164
 go_wp2
 · go_ret2
   exact ⟨ret_nb (add_over ha hb ‹_›), rfl⟩
 · go_ret2
   exact ⟨ret_nb (add_fine ha hb ‹_›), rfl⟩
theorem neg_any (a : Int) (w : World) (ha : -9223372036854775808 ≤ a ∧ a ≤ 9223372036854775807) :
 Calls Tryz.prog 157 #[.int .i64 a] w fun e w' => e = .returned (.tuple #[.int .i64 (fitV (-a)), .bool (fitB (-a))]) ∧ w' = w := by
 by_cases h : (a == -9223372036854775808) = true
 · have H := neg_over h
   go_enter Tryz.func157, Tryz.ntmps157
   go_wp2
   go_ret2
   exact ⟨ret_nb H, rfl⟩
 · replace h : (a == -9223372036854775808) = false := by simpa using h
   have H := neg_fine ha h
   have h2 : -9223372036854775807 ≤ a := by simp at h; omega
   go_enter Tryz.func157, Tryz.ntmps157
   go_wp2
   go_ret2
   exact ⟨ret_nb H, rfl⟩
theorem mul_any (a b : Int) (w : World) (ha : -9223372036854775808 ≤ a ∧ a ≤ 9223372036854775807) (hb : -9223372036854775808 ≤ b ∧ b ≤ 9223372036854775807) :
 Calls Tryz.prog 163 #[.int .i64 a, .int .i64 b] w fun e w' => e = .returned (.tuple #[.int .i64 (fitV (a * b)), .bool (fitB (a * b))]) ∧ w' = w := by
 by_cases h0 : (a == 0) = true
 · have H : fitV (a * b) = 0 ∧ fitB (a * b) = true := by
    simp at h0; subst h0; simp; exact ⟨(fit_yes (by omega)).2, (fit_yes (by omega)).1⟩
   go_enter Tryz.func163, Tryz.ntmps163
   go_wp2
   go_ret2
   exact ⟨ret_nb H, rfl⟩
 · replace h0 : (a == 0) = false := by simpa using h0
   have n0 : ¬ a = 0 := by simpa using h0
   by_cases h1 : (a == -1) = true
   · have H : Hid (fitV (a * b) = fitV (-b) ∧ fitB (a * b) = fitB (-b)) := by
      simp at h1; subst h1; rw [show (-1 : Int) * b = -b by omega]; exact ⟨rfl, rfl⟩
     go_enter Tryz.func163, Tryz.ntmps163
     go_wp2_with (go_at_call 157; refine (neg_any _ _ hb).mono ?_; rintro e w' ⟨rfl, rfl⟩)
     go_ret2
     exact ⟨ret_nb H.out, rfl⟩
   · replace h1 : (a == -1) = false := by simpa using h1
     have n1 : ¬ a = -1 := by simpa using h1
     go_enter Tryz.func163, Tryz.ntmps163
     go_wp2
     · go_ret2
       exact ⟨ret_nb (mul_over n0 n1 ha hb ‹_›), rfl⟩
     · go_ret2
       exact ⟨ret_nb (mul_fine n0 n1 ha hb ‹_›), rfl⟩
theorem ib_any (s : ByteArray) (w : World) :
 Calls Tryz.prog 151 #[.string s, .int .u8 47] w fun e w' => e = .returned (.int .i64 (Lib.indexByte s.data.toList 47)) ∧ w' = w := by
 go_enter Tryz.func151, Tryz.ntmps151
 go_wp2
 rw [run_callFunc_extern Tryz.func161 (by kernel_rfl) (by kernel_rfl) (by kernel_rfl) (e := Extern.BytealgIndexByte.indexByte) (by kernel_rfl), Lib.run_indexByteString]
 simp only [Result.andThen]
 rw [Oper.upon_value]
 go_wp2
 go_ret
 exact ⟨rfl, rfl⟩
theorem index_any (s : ByteArray) (w : World) :
 Calls Tryz.prog 141 #[.string s, .string ⟨#[47]⟩] w fun e w' => e = .returned (.int .i64 (Lib.indexByte s.data.toList 47)) ∧ w' = w := by
 go_enter Tryz.func141, Tryz.ntmps141
 go_wp2_with (go_at_call 151; refine (ib_any _ _).mono ?_; rintro e w' ⟨rfl, rfl⟩)
 · have h : ([47] == s.toList) = true := by assumption
   go_ret
   refine ⟨?_, rfl⟩
   have e : s.data.toList = [47] := by rw [← ByteArray.toList_eq]; exact (beq_iff_eq.1 h).symm
   rw [e]
   rfl
 · go_ret
   exact ⟨rfl, rfl⟩
theorem stroke_ways (s : ByteArray) : (Lib.indexByte s.data.toList 47 = -1 ∧ (47 : UInt8) ∉ s.data.toList) ∨ ∃ i : Nat, Lib.indexByte s.data.toList 47 = (i : Int) ∧ i + 1 ≤ s.size ∧ s.data.toList[i]? = some 47 ∧ ∀ k, k < i → s.data.toList[k]? ≠ some 47 := by
 have hg := Lib.indexByte_ge s.data.toList 47
 by_cases h : Lib.indexByte s.data.toList 47 = -1
 · left
   refine ⟨h, fun hm => ?_⟩
   obtain ⟨k, hk⟩ := List.mem_iff_getElem?.1 hm
   exact Lib.indexByte_none h k hk
 · right
   refine ⟨(Lib.indexByte s.data.toList 47).toNat, by omega, ?_⟩
   have := Lib.indexByte_some (l := s.data.toList) (c := 47) (o := (Lib.indexByte s.data.toList 47).toNat) (by omega)
   refine ⟨?_, this⟩
   have hl := (List.getElem?_eq_some_iff.1 this.1).1
   have : s.data.toList.length = s.size := by simp
   omega
def cutU (s : ByteArray) : ByteArray := if Lib.indexByte s.data.toList 47 = -1 then s else s.extract 0 (Lib.indexByte s.data.toList 47).toNat
def cutV (s : ByteArray) : ByteArray := if Lib.indexByte s.data.toList 47 = -1 then ByteArray.empty else s.extract ((Lib.indexByte s.data.toList 47).toNat + 1) s.size
def cutB (s : ByteArray) : Bool := !decide (Lib.indexByte s.data.toList 47 = -1)
theorem ret_ssb {a b c d : ByteArray} {x y : Bool} (h : c = a ∧ d = b ∧ y = x) : Ending.returned (.tuple #[.string a, .string b, .bool x]) = .returned (.tuple #[.string c, .string d, .bool y]) := by rw [h.1, h.2.1, h.2.2]
theorem lcut_any (s : ByteArray) (w : World) (hs : s.size ≤ maxLen) :
 Calls Tryz.prog 122 #[.string s, .string ⟨#[47]⟩] w fun e w' => e = .returned (.tuple #[.string (cutU s), .string (cutV s), .bool (cutB s)]) ∧ ∃ n, w' = w.drewN n := by
 have f : Hid (∀ w, Calls Tryz.prog 141 #[.string s, .string ⟨#[47]⟩] w fun e w' => e = .returned (.int .i64 (Lib.indexByte s.data.toList 47)) ∧ w' = w) := fun w => index_any s w
 unfold maxLen at hs
 rcases stroke_ways s with ⟨h, _⟩ | ⟨i, h, hi, _⟩
 · have H : Hid (cutU s = s ∧ cutV s = ByteArray.empty ∧ cutB s = false) := by
    unfold Hid cutU cutV cutB; simp [h]
   rw [h] at f
   clear h
   go_enter Tryz.func122, Tryz.ntmps122
   go_wp2_with fail
   refine (f.out _).mono ?_
   rintro e w' ⟨rfl, rfl⟩
   clear f
   go_wp2
   go_ret3
   exact ⟨ret_ssb H.out, 0, rfl⟩
 · have H : Hid (cutU s = s.extract 0 i ∧ cutV s = s.extract (i + 1) s.size ∧ cutB s = true) := by
    have h2 : ¬ ((i : Int) = -1) := by omega
    unfold Hid cutU cutV cutB; rw [h]; simp [h2]
   rw [h] at f
   clear h
   have c1 : (0 : Int) ≤ (i : Int) := by omega
   have c2 : (i : Int) ≤ (s.size : Int) := by omega
   have c3 : (0 : Int) ≤ (i : Int) + 1 := by omega
   have c4 : (i : Int) + 1 ≤ (s.size : Int) := by omega
   go_enter Tryz.func122, Tryz.ntmps122
   go_wp2_with fail
   refine (f.out _).mono ?_
   rintro e w' ⟨rfl, rfl⟩
   clear f
   go_wp2
   go_region
   go_wp2
   go_ret3
   exact ⟨ret_ssb H.out, 1, rfl⟩
theorem scut_any (s : ByteArray) (w : World) (hs : s.size ≤ maxLen) :
 Calls Tryz.prog 98 #[.string s, .string ⟨#[47]⟩] w fun e w' => e = .returned (.tuple #[.string (cutU s), .string (cutV s), .bool (cutB s)]) ∧ ∃ n, w' = w.drewN n := by
 have f : Hid (∀ w, Calls Tryz.prog 122 #[.string s, .string ⟨#[47]⟩] w fun e w' => e = .returned (.tuple #[.string (cutU s), .string (cutV s), .bool (cutB s)]) ∧ ∃ n, w' = w.drewN n) := fun w => lcut_any s w hs
 generalize cutU s = u at *
 generalize cutV s = v at *
 generalize cutB s = b at *
 clear hs
 go_enter Tryz.func98, Tryz.ntmps98
 go_wp2_with fail
 refine (f.out _).mono ?_
 rintro e w' ⟨rfl, n, rfl⟩
 clear f
 go_wp2
 go_ret3
 exact ⟨rfl, n, rfl⟩
theorem cut_sizes (s : ByteArray) : (cutU s).size ≤ s.size ∧ (cutV s).size ≤ s.size := by
 unfold cutU cutV
 split
 · exact ⟨Nat.le_refl _, by simp⟩
 · constructor
   · rw [ByteArray.size_extract]; omega
   · rw [ByteArray.size_extract]; omega
theorem ret_b' {x y : Bool} (h : y = x) : Ending.returned (.bool x) = .returned (.bool y) := by rw [h]
theorem byte_get (s : ByteArray) (k : Nat) (h : k < s.size) : s.data.toList[k]? = some s[k] := by
 rw [List.getElem?_eq_getElem (by simpa using h)]; rfl
theorem btake_snoc (s : ByteArray) (k : Nat) (h : k < s.size) : s.data.toList.take (k + 1) = s.data.toList.take k ++ [s[k]] := by
 rw [List.take_succ_eq_append_getElem (by simpa using h)]; rfl
theorem bytes_cons (s : ByteArray) (h : 0 < s.size) : s.data.toList = s[0] :: s.data.toList.drop 1 := by
 have := btake_snoc s 0 h
 have h2 := List.take_append_drop 1 s.data.toList
 rw [show (1 : Nat) = 0 + 1 from rfl, this] at h2
 simpa using h2.symm
theorem all_take (s : ByteArray) (k : Nat) (h : k < s.size) : (s.data.toList.take (k + 1)).all isd = ((s.data.toList.take k).all isd && isd s[k]) := by
 rw [btake_snoc s k h]; simp
theorem all_not (s : ByteArray) (k : Nat) (h : k < s.size) (hc : isd s[k] = false) : s.data.toList.all isd = false := by
 rw [List.all_eq_false]
 exact ⟨s[k], List.mem_of_getElem? (byte_get s k h), by simp [hc]⟩
theorem isd_low {c : UInt8} (h : (c.toNat : Int) < 48) : isd c = false := by unfold isd; simp; omega
theorem isd_high {c : UInt8} (h : (57 : Int) < (c.toNat : Int)) : isd c = false := by unfold isd; simp; omega
theorem isd_mid {c : UInt8} (h : (48 : Int) ≤ (c.toNat : Int)) (h2 : (c.toNat : Int) ≤ 57) : isd c = true := by unfold isd; simp; omega
theorem empty_yes {s : ByteArray} (h : s.size = 0) : s.toList = [] := by
 rw [ByteArray.toList_eq]; exact List.length_eq_zero_iff.1 (by simpa using h)
theorem empty_no {s : ByteArray} (h : 0 < s.size) : s.toList.isEmpty = false := by
 rw [ByteArray.toList_eq]
 cases e : s.data.toList with
 | nil => have : s.data.toList.length = s.size := by simp
          rw [e] at this; simp at this; omega
 | cons c t => rfl
def allB (l : List UInt8) : Bool := l.all isd
theorem plainB_loop {s : ByteArray} (h0 : 0 < s.size) (hd : ¬((s[0].toNat : Int) = 48 ∧ (1 : Int) < (s.size : Int))) : plainB s.data.toList = allB s.data.toList := by
 have hl : s.data.toList.length = s.size := by simp
 unfold plainB allB
 rw [hl]
 have e := bytes_cons s h0
 have h1 : s.data.toList.isEmpty = false := by rw [e]; rfl
 have h2 : s.data.toList.headD 0 = s[0] := by rw [e]; rfl
 rw [h1, h2]
 by_cases hc : s[0] = 48
 · have : (s[0].toNat : Int) = 48 := by rw [hc]; rfl
   have : ¬ 1 < s.size := by omega
   simp [this]
 · simp [hc]
theorem plainB_none {s : ByteArray} (h0 : s.size = 0) : plainB s.data.toList = false := by
 have : s.data.toList = [] := List.length_eq_zero_iff.1 (by simpa using h0)
 rw [this]; rfl
theorem plainB_zero {s : ByteArray} (h0 : 0 < s.size) (hc : (s[0].toNat : Int) = 48) (h1 : (1 : Int) < (s.size : Int)) : plainB s.data.toList = false := by
 have hl : s.data.toList.length = s.size := by simp
 unfold plainB
 rw [hl]
 have e := bytes_cons s h0
 have h2 : s.data.toList.headD 0 = s[0] := by rw [e]; rfl
 have h3 : s[0] = 48 := UInt8.toNat_inj.1 (by show s[0].toNat = 48; omega)
 rw [h2, h3]
 have : 1 < s.size := by omega
 simp [this]
theorem val_next (s : ByteArray) (k : Nat) (h : k < s.size) : val (s.data.toList.take (k + 1)) = 10 * val (s.data.toList.take k) + (s[k].toNat - 48) := by
 rw [btake_snoc s k h, val_snoc]
theorem all_get (s : ByteArray) (h : allB s.data.toList = true) (k : Nat) (hk : k < s.size) : 48 ≤ s[k].toNat ∧ s[k].toNat ≤ 57 := by
 unfold allB at h
 exact (isd_iff _).1 (List.all_eq_true.1 h _ (List.mem_of_getElem? (byte_get s k hk)))
theorem ltz_over {s : ByteArray} {k : Nat} (h : 9223372036854775808 < (val (s.data.toList.take k) : Int)) : fitV (-(val s.data.toList : Int)) = 0 ∧ fitB (-(val s.data.toList : Int)) = false := by
 have := val_take_le s.data.toList k
 exact ⟨(fit_no (by omega)).2, (fit_no (by omega)).1⟩
theorem plain_all {l : List UInt8} (h : plainB l = true) : allB l = true := by
 unfold plainB at h; unfold allB
 simp only [Bool.and_eq_true] at h
 exact h.2
theorem beq_list (t : ByteArray) : (t.toList == [48]) = (t.data.toList == [48]) := by rw [ByteArray.toList_eq]
theorem head_is (s : ByteArray) (h0 : 0 < s.size) : s.data.toList.head? = some s[0] := by rw [bytes_cons s h0]; rfl
theorem head_none (s : ByteArray) (h0 : ¬ 0 < s.size) : s.data.toList.head? = none := by
 have hl : s.data.toList.length = s.size := by simp
 have : s.data.toList = [] := List.length_eq_zero_iff.1 (by omega)
 rw [this]; rfl
theorem eq45 {c : UInt8} : ((c.toNat : Int) == 45) = true ↔ c = 45 := by
 constructor
 · intro h
   have : (c.toNat : Int) = 45 := by simpa using h
   exact UInt8.toNat_inj.1 (by show c.toNat = 45; omega)
 · intro h; subst h; rfl
theorem plain_loop (s : ByteArray) (w : World) (hs : s.size ≤ maxLen) (h0 : 0 < s.size) (hd : ¬((s[0].toNat : Int) = 48 ∧ (1 : Int) < (s.size : Int))) :
 Calls Tryz.prog 155 #[.string s] w fun e w' => e = .returned (.bool (allB s.data.toList)) ∧ w' = w := by
 unfold maxLen at hs
 have he := empty_no h0
 have hne : ¬ s.toList = [] := by
  intro e; rw [e] at he; simp at he
 rcases (by omega : ¬ ((s[0].toNat : Int) = 48) ∨ (s[0].toNat : Int) = 48 ∧ (s.size : Int) ≤ 1) with hc | ⟨hc, hc2⟩
 all_goals
  clear hd
  go_enter Tryz.func155, Tryz.ntmps155
  go_wp2
  go_loop [18] (fun i => ∃ k : Nat, k ≤ s.size ∧ i = .int .i64 (k : Int) ∧ Hid (allB (s.data.toList.take k) = true)) (fun i => s.size - (intOf i).toNat)
  case atStart => exact ⟨0, Nat.zero_le _, rfl, rfl⟩
  case round =>
   obtain ⟨k, hk, rfl, hall⟩ := hrel
   by_cases hlt : k < s.size
   · have hn : Hid (isd s[k] = false → allB s.data.toList = false) := all_not s k hlt
     have hy : Hid (isd s[k] = true → allB (s.data.toList.take (k + 1)) = true) := fun h => by
      have h2 := hall.out
      unfold allB at h2 ⊢
      rw [all_take s k hlt, h2, h]; rfl
     go_wp2
     all_goals
      first
       | (go_ret; first | exact ⟨ret_b' (hn.out (isd_low (by omega))), rfl⟩ | exact ⟨ret_b' (hn.out (isd_high (by omega))), rfl⟩)
       | (go_round
          case rel => exact ⟨k + 1, by omega, by go_num, hy.out (isd_mid (by omega) (by omega))⟩
          case measure => simp [intOf]; omega)
   · have hf : Hid (allB s.data.toList = true) := by
      have := hall.out
      rw [List.take_of_length_le (by simp; omega)] at this
      exact this
     go_wp2
     go_ret
     exact ⟨ret_b' hf.out, rfl⟩
theorem wplain_any (s : ByteArray) (w : World) (hs : s.size ≤ maxLen) :
 Calls Tryz.prog 155 #[.string s] w fun e w' => e = .returned (.bool (plainB s.data.toList)) ∧ w' = w := by
 by_cases h0 : 0 < s.size
 · by_cases hd : (s[0].toNat : Int) = 48 ∧ (1 : Int) < (s.size : Int)
   · rw [plainB_zero h0 hd.1 hd.2]
     unfold maxLen at hs
     have he := empty_no h0
     have hne : ¬ s.toList = [] := by
      intro e; rw [e] at he; simp at he
     obtain ⟨hd1, hd2⟩ := hd
     go_enter Tryz.func155, Tryz.ntmps155
     go_wp2
     go_ret
     exact ⟨rfl, rfl⟩
   · rw [plainB_loop h0 hd]
     exact plain_loop s w hs h0 hd
 · rw [plainB_none (by omega)]
   have he := empty_yes (s := s) (by omega)
   unfold maxLen at hs
   go_enter Tryz.func155, Tryz.ntmps155
   go_wp2
   go_ret
   exact ⟨rfl, rfl⟩
theorem ltz_any (s : ByteArray) (w : World) (hs : s.size ≤ maxLen) (hall : allB s.data.toList = true) :
 Calls Tryz.prog 156 #[.string s] w fun e w' => e = .returned (.tuple #[.int .i64 (fitV (-(val s.data.toList : Int))), .bool (fitB (-(val s.data.toList : Int)))]) ∧ w' = w := by
 unfold maxLen at hs
 have HA : Hid _ := hall
 clear hall
 go_enter Tryz.func156, Tryz.ntmps156
 go_wp2
 go_loop [4, 10] (fun n i => ∃ k v : Nat, k ≤ s.size ∧ i = .int .i64 (k : Int) ∧ n = .int .i64 (-(v : Int)) ∧ (v : Int) ≤ 9223372036854775808 ∧ Hid (v = val (s.data.toList.take k))) (fun _ i => s.size - (intOf i).toNat)
 case atStart => exact ⟨0, 0, Nat.zero_le _, rfl, rfl, by omega, rfl⟩
 case round =>
  obtain ⟨k, v, hk, rfl, rfl, hv, hve⟩ := hrel
  by_cases hlt : k < s.size
  · obtain ⟨hd1, hd2⟩ := all_get s HA.out k hlt
    have hnx : Hid (val (s.data.toList.take (k + 1)) = 10 * v + (s[k].toNat - 48)) := by
     show _ = _
     rw [val_next s k hlt, ← hve.out]
    by_cases c1 : 9223372036854775808 < 10 * (v : Int)
    · have f1 : ∀ w, Calls Tryz.prog 163 #[.int .i64 (-(v : Int)), .int .i64 10] w fun e w' => e = .returned (.tuple #[.int .i64 0, .bool false]) ∧ w' = w := fun w => by
       have := mul_any (-(v : Int)) 10 w (by omega) (by omega)
       rw [(fit_no (by omega)).1, (fit_no (by omega)).2] at this
       exact this
      have F1 : Hid _ := f1
      clear f1
      go_wp2_with fail
      refine (F1.out _).mono ?_
      rintro e w' ⟨rfl, rfl⟩
      go_wp2
      go_ret2
      exact ⟨ret_nb (ltz_over (k := k + 1) (by rw [hnx.out]; omega)), rfl⟩
    · have f1 : ∀ w, Calls Tryz.prog 163 #[.int .i64 (-(v : Int)), .int .i64 10] w fun e w' => e = .returned (.tuple #[.int .i64 (-(v : Int) * 10), .bool true]) ∧ w' = w := fun w => by
       have := mul_any (-(v : Int)) 10 w (by omega) (by omega)
       rw [(fit_yes (by omega)).1, (fit_yes (by omega)).2] at this
       exact this
      have F1 : Hid _ := f1
      clear f1
      by_cases c2 : 9223372036854775808 < 10 * (v : Int) + ((s[k].toNat : Int) - 48)
      · have f2 : ∀ w, Calls Tryz.prog 164 #[.int .i64 (-(v : Int) * 10), .int .i64 (-((s[k].toNat : Int) - 48))] w fun e w' => e = .returned (.tuple #[.int .i64 0, .bool false]) ∧ w' = w := fun w => by
         have := add_any (-(v : Int) * 10) (-((s[k].toNat : Int) - 48)) w (by omega) (by omega)
         rw [(fit_no (by omega)).1, (fit_no (by omega)).2] at this
         exact this
        have F2 : Hid _ := f2
        clear f2
        go_wp2_with fail
        refine (F1.out _).mono ?_
        rintro e w' ⟨rfl, rfl⟩
        go_wp2_with fail
        refine (F2.out _).mono ?_
        rintro e w' ⟨rfl, rfl⟩
        go_wp2
        go_ret2
        exact ⟨ret_nb (ltz_over (k := k + 1) (by rw [hnx.out]; omega)), rfl⟩
      · have f2 : ∀ w, Calls Tryz.prog 164 #[.int .i64 (-(v : Int) * 10), .int .i64 (-((s[k].toNat : Int) - 48))] w fun e w' => e = .returned (.tuple #[.int .i64 (-(v : Int) * 10 + -((s[k].toNat : Int) - 48)), .bool true]) ∧ w' = w := fun w => by
         have := add_any (-(v : Int) * 10) (-((s[k].toNat : Int) - 48)) w (by omega) (by omega)
         rw [(fit_yes (by omega)).1, (fit_yes (by omega)).2] at this
         exact this
        have F2 : Hid _ := f2
        clear f2
        go_wp2_with fail
        refine (F1.out _).mono ?_
        rintro e w' ⟨rfl, rfl⟩
        go_wp2_with fail
        refine (F2.out _).mono ?_
        rintro e w' ⟨rfl, rfl⟩
        go_wp2
        go_round
        case rel => exact ⟨k + 1, val (s.data.toList.take (k + 1)), by omega, by go_num, by rw [hnx.out]; congr 1; omega, by rw [hnx.out]; omega, rfl⟩
        case measure => simp [intOf]; omega
  · have hf : Hid (v = val s.data.toList) := by
     have := hve.out
     rw [List.take_of_length_le (by simp; omega)] at this
     exact this
    go_wp2
    go_ret2
    exact ⟨ret_nb (by rw [← hf.out]; exact ⟨(fit_yes (by omega)).2, (fit_yes (by omega)).1⟩), rfl⟩
theorem read_minus (s : ByteArray) (w : World) (hs : s.size ≤ maxLen) (h0 : 0 < s.size) (hm : ((s[0].toNat : Int) == 45) = true) :
 Calls Tryz.prog 144 #[.string s] w fun e w' => e = .returned (.tuple #[.int .i64 (coreV (s.data.toList.drop 1) true), .int .i64 (coreE (s.data.toList.drop 1) true)]) ∧ w' = w := by
 have ht : (s.extract 1 s.size).data.toList = s.data.toList.drop 1 := Lib.extract_to_end s 1
 have hts : (s.extract 1 s.size).size ≤ maxLen := by simp [maxLen] at hs ⊢; omega
 have hbe := beq_list (s.extract 1 s.size)
 have hlz : Hid (allB (s.extract 1 s.size).data.toList = true → ∀ w, Calls Tryz.prog 156 #[.string (s.extract 1 s.size)] w fun e w' => e = .returned (.tuple #[.int .i64 (fitV (-(val (s.extract 1 s.size).data.toList : Int))), .bool (fitB (-(val (s.extract 1 s.size).data.toList : Int)))]) ∧ w' = w) := fun h w => ltz_any _ w hts h
 have hpl : Hid (∀ w, Calls Tryz.prog 155 #[.string (s.extract 1 s.size)] w fun e w' => e = .returned (.bool (plainB (s.extract 1 s.size).data.toList)) ∧ w' = w) := fun w => wplain_any _ w hts
 unfold maxLen at hs
 rw [ht] at hbe hlz hpl
 clear ht hts
 generalize s.data.toList.drop 1 = l at *
 by_cases hp : plainB l = true
 · rw [hp] at hpl
   by_cases hz : (l == [48]) = true
   · rw [hz] at hbe
     have H : Hid (coreV l true = 0 ∧ coreE l true = 6) := core_bad (by unfold badB; rw [hp, hz]; rfl)
     clear hlz
     go_enter Tryz.func144, Tryz.ntmps144
     go_wp2_with fail
     refine (hpl.out _).mono ?_
     rintro e w' ⟨rfl, rfl⟩
     clear hpl
     go_wp2
     go_ret2
     exact ⟨ret_nn H.out, rfl⟩
   · replace hz : (l == [48]) = false := by simpa using hz
     rw [hz] at hbe
     have hb : badB l true = false := by unfold badB; rw [hp, hz]; rfl
     have F := hlz.out (plain_all hp)
     by_cases hf : fitB (-(val l : Int)) = true
     · have H : Hid (coreV l true = -(val l : Int) ∧ coreE l true = 0) := core_fine hb hf
       have e1 : fitV (-(val l : Int)) = -(val l : Int) := by unfold fitV; rw [if_pos hf]
       rw [hf, e1] at F
       have F1 : Hid _ := F
       clear F hlz hf e1 hp hz hb
       generalize (val l : Int) = v at *
       go_enter Tryz.func144, Tryz.ntmps144
       go_wp2_with fail
       refine (hpl.out _).mono ?_
       rintro e w' ⟨rfl, rfl⟩
       go_wp2_with fail
       refine (F1.out _).mono ?_
       rintro e w' ⟨rfl, rfl⟩
       clear hpl F1
       go_wp2
       go_ret2
       exact ⟨ret_nn H.out, rfl⟩
     · replace hf : fitB (-(val l : Int)) = false := by simpa using hf
       have H : Hid (coreV l true = 0 ∧ coreE l true = 2) := core_over hb hf
       have e1 : fitV (-(val l : Int)) = 0 := by unfold fitV; rw [hf]; rfl
       rw [hf, e1] at F
       have F1 : Hid _ := F
       clear F hlz hf e1 hp hz hb
       go_enter Tryz.func144, Tryz.ntmps144
       go_wp2_with fail
       refine (hpl.out _).mono ?_
       rintro e w' ⟨rfl, rfl⟩
       go_wp2_with fail
       refine (F1.out _).mono ?_
       rintro e w' ⟨rfl, rfl⟩
       clear hpl F1
       go_wp2
       go_ret2
       exact ⟨ret_nn H.out, rfl⟩
 · replace hp : plainB l = false := by simpa using hp
   rw [hp] at hpl
   have H : Hid (coreV l true = 0 ∧ coreE l true = 6) := core_bad (by unfold badB; rw [hp]; rfl)
   clear hlz
   go_enter Tryz.func144, Tryz.ntmps144
   go_wp2_with fail
   refine (hpl.out _).mono ?_
   rintro e w' ⟨rfl, rfl⟩
   clear hpl
   go_wp2
   go_ret2
   exact ⟨ret_nn H.out, rfl⟩
theorem read_plus (s : ByteArray) (w : World) (hs : s.size ≤ maxLen) (hm : (∃ h0 : 0 < s.size, ((s[0].toNat : Int) == 45) = false) ∨ ¬ 0 < s.size) :
 Calls Tryz.prog 144 #[.string s] w fun e w' => e = .returned (.tuple #[.int .i64 (coreV s.data.toList false), .int .i64 (coreE s.data.toList false)]) ∧ w' = w := by
 have hlz : Hid (allB s.data.toList = true → ∀ w, Calls Tryz.prog 156 #[.string s] w fun e w' => e = .returned (.tuple #[.int .i64 (fitV (-(val s.data.toList : Int))), .bool (fitB (-(val s.data.toList : Int)))]) ∧ w' = w) := fun h w => ltz_any _ w hs h
 have hpl : Hid (∀ w, Calls Tryz.prog 155 #[.string s] w fun e w' => e = .returned (.bool (plainB s.data.toList)) ∧ w' = w) := fun w => wplain_any _ w hs
 unfold maxLen at hs
 generalize s.data.toList = l at *
 by_cases hp : plainB l = true
 · rw [hp] at hpl
   have hb : badB l false = false := by unfold badB; rw [hp]; rfl
   have F := hlz.out (plain_all hp)
   by_cases hf : fitB (-(val l : Int)) = true
   · have e1 : fitV (-(val l : Int)) = -(val l : Int) := by unfold fitV; rw [if_pos hf]
     rw [hf, e1] at F
     have F1 : Hid _ := F
     have hbd := (fitB_iff _).1 hf
     by_cases hg : fitB (val l : Int) = true
     · have H : Hid (coreV l false = (val l : Int) ∧ coreE l false = 0) := core_fine hb hg
       have G : Hid (∀ w, Calls Tryz.prog 157 #[.int .i64 (-(val l : Int))] w fun e w' => e = .returned (.tuple #[.int .i64 (val l : Int), .bool true]) ∧ w' = w) := fun w => by
        have := neg_any (-(val l : Int)) w hbd
        rw [Int.neg_neg, hg, show fitV (val l : Int) = (val l : Int) by unfold fitV; rw [if_pos hg]] at this
        exact this
       clear F hlz hf e1 hp hb hg hbd
       generalize (val l : Int) = v at *
       rcases hm with ⟨h0, hm⟩ | hm
       all_goals
        go_enter Tryz.func144, Tryz.ntmps144
        go_wp2_with fail
        refine (hpl.out _).mono ?_
        rintro e w' ⟨rfl, rfl⟩
        go_wp2_with fail
        refine (F1.out _).mono ?_
        rintro e w' ⟨rfl, rfl⟩
        go_wp2_with fail
        refine (G.out _).mono ?_
        rintro e w' ⟨rfl, rfl⟩
        clear hpl F1 G
        go_wp2
        go_ret2
        exact ⟨ret_nn H.out, rfl⟩
     · replace hg : fitB (val l : Int) = false := by simpa using hg
       have H : Hid (coreV l false = 0 ∧ coreE l false = 2) := core_over hb hg
       have G : Hid (∀ w, Calls Tryz.prog 157 #[.int .i64 (-(val l : Int))] w fun e w' => e = .returned (.tuple #[.int .i64 0, .bool false]) ∧ w' = w) := fun w => by
        have := neg_any (-(val l : Int)) w hbd
        rw [Int.neg_neg, hg, show fitV (val l : Int) = 0 by unfold fitV; rw [hg]; rfl] at this
        exact this
       clear F hlz hf e1 hp hb hg hbd
       generalize (val l : Int) = v at *
       rcases hm with ⟨h0, hm⟩ | hm
       all_goals
        go_enter Tryz.func144, Tryz.ntmps144
        go_wp2_with fail
        refine (hpl.out _).mono ?_
        rintro e w' ⟨rfl, rfl⟩
        go_wp2_with fail
        refine (F1.out _).mono ?_
        rintro e w' ⟨rfl, rfl⟩
        go_wp2_with fail
        refine (G.out _).mono ?_
        rintro e w' ⟨rfl, rfl⟩
        clear hpl F1 G
        go_wp2
        go_ret2
        exact ⟨ret_nn H.out, rfl⟩
   · replace hf : fitB (-(val l : Int)) = false := by simpa using hf
     have hg : fitB (val l : Int) = false := by
      cases e : fitB (val l : Int)
      · rfl
      · have h1 := (fitB_iff _).1 e
        rw [(fit_yes (by omega)).1] at hf
        cases hf
     have H : Hid (coreV l false = 0 ∧ coreE l false = 2) := core_over hb hg
     have e1 : fitV (-(val l : Int)) = 0 := by unfold fitV; rw [hf]; rfl
     rw [hf, e1] at F
     have F1 : Hid _ := F
     clear F hlz hf e1 hp hb hg
     rcases hm with ⟨h0, hm⟩ | hm
     all_goals
      go_enter Tryz.func144, Tryz.ntmps144
      go_wp2_with fail
      refine (hpl.out _).mono ?_
      rintro e w' ⟨rfl, rfl⟩
      go_wp2_with fail
      refine (F1.out _).mono ?_
      rintro e w' ⟨rfl, rfl⟩
      clear hpl F1
      go_wp2
      go_ret2
      exact ⟨ret_nn H.out, rfl⟩
 · replace hp : plainB l = false := by simpa using hp
   rw [hp] at hpl
   have H : Hid (coreV l false = 0 ∧ coreE l false = 6) := core_bad (by unfold badB; rw [hp]; rfl)
   clear hlz
   rcases hm with ⟨h0, hm⟩ | hm
   all_goals
    go_enter Tryz.func144, Tryz.ntmps144
    go_wp2_with fail
    refine (hpl.out _).mono ?_
    rintro e w' ⟨rfl, rfl⟩
    clear hpl
    go_wp2
    go_ret2
    exact ⟨ret_nn H.out, rfl⟩
theorem read_any (s : ByteArray) (w : World) (hs : s.size ≤ maxLen) :
 Calls Tryz.prog 144 #[.string s] w fun e w' => e = .returned (.tuple #[.int .i64 (readV s.data.toList), .int .i64 (readE s.data.toList)]) ∧ w' = w := by
 unfold readV readE
 by_cases h0 : 0 < s.size
 · rw [head_is s h0]
   by_cases hc : s[0] = 45
   · rw [if_pos (by rw [hc]), if_pos (by rw [hc])]
     exact read_minus s w hs h0 (eq45.2 hc)
   · have hn : ¬ some s[0] = some 45 := fun e => hc (Option.some.inj e)
     rw [if_neg hn, if_neg hn]
     refine read_plus s w hs (.inl ⟨h0, ?_⟩)
     cases e : ((s[0].toNat : Int) == 45)
     · rfl
     · exact absurd (eq45.1 e) hc
 · rw [head_none s h0]
   rw [if_neg (by intro h; cases h), if_neg (by intro h; cases h)]
   exact read_plus s w hs (.inr h0)
theorem size_any (a : Int) (w : World) (ha : -9223372036854775808 ≤ a ∧ a ≤ 9223372036854775807) :
 Calls Tryz.prog 121 #[.int .i64 a] w fun e w' => e = .returned (.int .u64 (a.natAbs : Int)) ∧ w' = w := by
 go_enter Tryz.func121, Tryz.ntmps121
 go_wp2
 all_goals
  go_ret
  refine ⟨ret_n ?_, rfl⟩
  try simp only [IntKind.wrap_u64]
  omega
theorem rsize_any (a : Int) (w : World) (ha : -9223372036854775808 ≤ a ∧ a ≤ 9223372036854775807) :
 Calls Tryz.prog 64 #[.int .i64 a] w fun e w' => e = .returned (.int .u64 (a.natAbs : Int)) ∧ w' = w := by
 go_enter Tryz.func64, Tryz.ntmps64
 go_wp2
 all_goals
  go_ret
  refine ⟨ret_n ?_, rfl⟩
  try simp only [IntKind.wrap_u64]
  omega
end Go.Proofs.YthabffjgdhfbmaaGreatDoor
