/-
  What unit.Convert answers, plainly; that the table's numbers are small and its fractions right; what stays while steps are made. No conditions.
-/
import Derived.Test.YtbojdlagacanoaaUnFind
import Derived.Test.YtbojdlagacanoaaUnDim
import Derived.Test.YtbojdlagacanoaaUnWalk
import Derived.Deep.RegionHeld3
import Derived.Deep.CutRange
namespace Go.Proofs.Ytbojdlagacanoaa
open Go.RowKit
set_option linter.unusedVariables false

/-- the four steps from one unit to another -/
def chainT (n d : Int) (u v : U) : Int × Int × Int := restT u.fn u.fd u.on u.od (-v.on) v.od v.fd v.fn 0 (n, d, 0)
/-- what is answered: numerator, denominator, what is wrong -/
def cvT (n d : Int) (a b : ByteArray) : Int × Int × Int :=
  if (isU a && isU b) = false then (0, 0, 4) else if dimB (atU a) (atU b) = false then (0, 0, 5) else if rightB n d = false then (0, 0, 1) else if a = b then (n, d, 0) else chainT n d (atU a) (atU b)

/-- the table's numbers are small, and its fractions right, either way round -/
def okU (u : U) : Bool := decide (0 < u.fn) && decide (u.fn ≤ 4000000000) && decide (0 < u.fd) && decide (u.fd ≤ 4000000000) && decide (0 ≤ u.on) && decide (u.on ≤ 4000000000) && decide (0 < u.od) && decide (u.od ≤ 4000000000)
  && rightB u.fn u.fd && rightB u.on u.od && rightB (-u.on) u.od && rightB u.fd u.fn
theorem tab_ok : ∀ u ∈ tab, okU u = true := by
  have h : tab.all okU = true := by decide +kernel
  exact List.all_eq_true.1 h
theorem atU_in {s : ByteArray} (h : isU s = true) : atU s ∈ tab ∧ (atU s).nm = s := by
  unfold isU at h
  rw [List.any_eq_true] at h
  obtain ⟨u, hu, e⟩ := h
  obtain ⟨x, hx⟩ : ∃ x, tab.find? (fun u => decide (u.nm = s)) = some x := by
    cases hf : tab.find? (fun u => decide (u.nm = s)) with
    | some x => exact ⟨x, rfl⟩
    | none => exact absurd e (List.find?_eq_none.1 hf u hu)
  have e1 : atU s = x := by unfold atU; rw [hx]; rfl
  rw [e1]
  exact ⟨List.mem_of_find?_eq_some hx, by simpa using List.find?_some hx⟩
theorem okU_at {s : ByteArray} (h : isU s = true) : okU (atU s) = true := tab_ok _ (atU_in h).1
structure OkU (u : U) : Prop where
  fn0 : 0 < u.fn
  fn1 : u.fn ≤ 4000000000
  fd0 : 0 < u.fd
  fd1 : u.fd ≤ 4000000000
  on0 : 0 ≤ u.on
  on1 : u.on ≤ 4000000000
  od0 : 0 < u.od
  od1 : u.od ≤ 4000000000
  rf : rightB u.fn u.fd = true
  ro : rightB u.on u.od = true
  rn : rightB (-u.on) u.od = true
  rb : rightB u.fd u.fn = true
theorem OkU.of {u : U} (h : okU u = true) : OkU u := by
  unfold okU at h
  simp only [Bool.and_eq_true, decide_eq_true_eq] at h
  obtain ⟨⟨⟨⟨⟨⟨⟨⟨⟨⟨⟨h1, h2⟩, h3⟩, h4⟩, h5⟩, h6⟩, h7⟩, h8⟩, h9⟩, h10⟩, h11⟩, h12⟩ := h
  exact ⟨h1, h2, h3, h4, h5, h6, h7, h8, h9, h10, h11, h12⟩

/-- what stays while new blocks are laid: v, the two units' factors and offsets -/
def StayC (w : World) (n d : Int) (u v : U) (b1 b2 : Nat) (x : World) : Prop :=
  (x.cell? ⟨w.heap.size, 0, none⟩ = some (.int .i64 n) ∧ x.cell? ⟨w.heap.size, 1, none⟩ = some (.int .i64 d)) ∧
  (x.cell? ⟨b1, 5, none⟩ = some (.int .i64 u.fn) ∧ x.cell? ⟨b1, 6, none⟩ = some (.int .i64 u.fd) ∧ x.cell? ⟨b1, 7, none⟩ = some (.int .i64 u.on) ∧ x.cell? ⟨b1, 8, none⟩ = some (.int .i64 u.od)) ∧
  (x.cell? ⟨b2, 5, none⟩ = some (.int .i64 v.fn) ∧ x.cell? ⟨b2, 6, none⟩ = some (.int .i64 v.fd) ∧ x.cell? ⟨b2, 7, none⟩ = some (.int .i64 v.on) ∧ x.cell? ⟨b2, 8, none⟩ = some (.int .i64 v.od)) ∧
  Below w.heap.size w x
theorem StayC.below {w y x : World} {n d : Int} {u v : U} {b1 b2 : Nat} (h : StayC w n d u v b1 b2 y) (hb : Below y.heap.size y x) : StayC w n d u v b1 b2 x := by
  obtain ⟨⟨h1, h2⟩, ⟨h3, h4, h5, h6⟩, ⟨h7, h8, h9, h10⟩, h11⟩ := h
  have t : ∀ {p : Addr} {z : Value}, y.cell? p = some z → x.cell? p = some z := fun h => (hb.cell (block_lt_of_cell h)).trans h
  exact ⟨⟨t h1, t h2⟩, ⟨t h3, t h4, t h5, t h6⟩, ⟨t h7, t h8, t h9, t h10⟩, below_trans h11 hb⟩
theorem StayC.drew {w y : World} {n d : Int} {u v : U} {b1 b2 : Nat} (h : StayC w n d u v b1 b2 y) : StayC w n d u v b1 b2 y.drew := h.below (Below.refl _ _).drew
theorem StayC.alloc {w y : World} {n d : Int} {u v : U} {b1 b2 : Nat} (h : StayC w n d u v b1 b2 y) (o : Obj) : StayC w n d u v b1 b2 (y.alloc o) := h.below ((Below.refl _ _).alloc (Nat.le_refl _) _)
theorem StayC.set2 {w y : World} {n d : Int} {u v : U} {b1 b2 : Nat} (h : StayC w n d u v b1 b2 y) (h1 : w.heap.size + 1 < b1) (h2 : w.heap.size + 1 < b2) (p q : Value) :
    StayC w n d u v b1 b2 ((y.setCell ⟨w.heap.size + 1, 0, none⟩ p).setCell ⟨w.heap.size + 1, 1, none⟩ q) := by
  obtain ⟨⟨k1, k2⟩, ⟨k3, k4, k5, k6⟩, ⟨k7, k8, k9, k10⟩, k11⟩ := h
  have t : ∀ {b i : Nat} {z : Value}, b ≠ w.heap.size + 1 → y.cell? ⟨b, i, none⟩ = some z → ((y.setCell ⟨w.heap.size + 1, 0, none⟩ p).setCell ⟨w.heap.size + 1, 1, none⟩ q).cell? ⟨b, i, none⟩ = some z := fun hb h => by
    rw [World.cell?_setCell_other _ _ _ _ (fun e => hb (congrArg Addr.block e).symm), World.cell?_setCell_other _ _ _ _ (fun e => hb (congrArg Addr.block e).symm)]; exact h
  exact ⟨⟨t (by omega) k1, t (by omega) k2⟩, ⟨t (by omega) k3, t (by omega) k4, t (by omega) k5, t (by omega) k6⟩, ⟨t (by omega) k7, t (by omega) k8, t (by omega) k9, t (by omega) k10⟩, below_set2 k11 (by simp) (by simp)⟩

end Go.Proofs.Ytbojdlagacanoaa
