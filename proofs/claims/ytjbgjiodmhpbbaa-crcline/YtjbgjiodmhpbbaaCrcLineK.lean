/-
  Three texts made one, byte by byte, and what the law on them keeps from byte to byte (layer 4). No conditions but those that each says.
-/
import Derived.BigRegion
import Derived.Deep.OwnRows
import Derived.Test.YtjbgjiodmhpbbaaCrcOneA
namespace Go.Proofs.Ytjbgjiodmhpbbaa
open Go.RowKit
set_option linter.unusedVariables false

/-- three texts, made one -/
def x3 (ss ts us : List Nat) : List Nat := List.zipWith (fun x y => x ^^^ y) (List.zipWith (fun x y => x ^^^ y) ss ts) us
theorem x3_len {ss ts us : List Nat} {n : Nat} (h1 : ss.length = n) (h2 : ts.length = n) (h3 : us.length = n) : (x3 ss ts us).length = n := by
  unfold x3; rw [List.length_zipWith, List.length_zipWith]; omega
theorem x3_get {ss ts us : List Nat} {k : Nat} (h1 : k < ss.length) (h2 : k < ts.length) (h3 : k < us.length) (h : k < (x3 ss ts us).length) : (x3 ss ts us)[k] = ss[k] ^^^ ts[k] ^^^ us[k] := by
  have g : (x3 ss ts us)[k]? = some (ss[k] ^^^ ts[k] ^^^ us[k]) := by
    unfold x3; rw [List.getElem?_zipWith, List.getElem?_zipWith, List.getElem?_eq_getElem h1, List.getElem?_eq_getElem h2, List.getElem?_eq_getElem h3]
  rw [List.getElem?_eq_getElem h] at g
  exact Option.some.inj g
theorem x3_bytes {ss ts us : List Nat} (h1 : AllBytes ss) (h2 : AllBytes ts) (h3 : AllBytes us) : AllBytes (x3 ss ts us) := by
  intro c hc
  obtain ⟨k, hk, rfl⟩ := List.getElem_of_mem hc
  have hl : k < ss.length ∧ k < ts.length ∧ k < us.length := by
    unfold x3 at hk; rw [List.length_zipWith, List.length_zipWith] at hk; omega
  rw [x3_get hl.1 hl.2.1 hl.2.2]
  exact Nat.xor_lt_two_pow (n := 8) (Nat.xor_lt_two_pow (n := 8) (h1 _ (List.getElem_mem _)) (h2 _ (List.getElem_mem _))) (h3 _ (List.getElem_mem _))
/-- the first k of them written -/
def fillL (zs : List Nat) (k : Nat) : List Nat := zs.take k ++ List.replicate (zs.length - k) 0
theorem fill_zero (zs : List Nat) : fillL zs 0 = List.replicate zs.length 0 := by unfold fillL; simp
theorem fill_len {zs : List Nat} {k : Nat} (h : k ≤ zs.length) : (fillL zs k).length = zs.length := by unfold fillL; simp; omega
theorem fill_all (zs : List Nat) : fillL zs zs.length = zs := by unfold fillL; simp
theorem fill_next {zs : List Nat} {k : Nat} (h : k < zs.length) : (fillL zs k).set k zs[k] = fillL zs (k + 1) := by
  have e : (zs.take k).length = k := by rw [List.length_take]; omega
  unfold fillL
  rw [List.set_append_right _ _ (by omega), e, Nat.sub_self]
  obtain ⟨m, hm⟩ : ∃ m, zs.length - k = m + 1 := ⟨zs.length - k - 1, by omega⟩
  rw [hm, List.replicate_succ, List.set_cons_zero, show zs.length - (k + 1) = m by omega, ← List.take_append_getElem h, List.append_assoc]
  rfl
/-- what is kept: the kind in the first new block, what is made in block gb -/
structure LineSt (w x : World) (W : Int) (p f : Nat) (t : Bool) (z : Nat) (gb : Nat) (zs : List Nat) (k : Nat) : Prop where
  row : RowU x gb zs.length (fillL zs k)
  k : KBx x w.heap.size 24 W p f t z
  gl : w.heap.size < gb
  b : Below w.heap.size w x
theorem LineSt.below {w x y : World} {W : Int} {p f : Nat} {t : Bool} {z gb : Nat} {zs : List Nat} {k : Nat} (h : LineSt w x W p f t z gb zs k) (hb : Below x.heap.size x y) : LineSt w y W p f t z gb zs k :=
  ⟨h.row.below hb, h.k.below hb, h.gl, belowT h.b hb⟩
theorem LineSt.drew {w x : World} {W : Int} {p f : Nat} {t : Bool} {z gb : Nat} {zs : List Nat} {k : Nat} (h : LineSt w x W p f t z gb zs k) : LineSt w x.drew W p f t z gb zs k := h.below (Below.refl _ _).drew
theorem LineSt.set {w x : World} {W : Int} {p f : Nat} {t : Bool} {z gb : Nat} {zs : List Nat} {k : Nat} (h : LineSt w x W p f t z gb zs k) (hk : k < zs.length) : LineSt w (x.setCell ⟨gb, k, none⟩ (.int .u8 ((zs[k] : Nat) : Int))) W p f t z gb zs (k + 1) :=
  ⟨by rw [← fill_next hk]; exact h.row.set k _, (blk_far _ _ _ _ (by have := h.gl; simp; omega)).trans h.k, h.gl, h.b.setCell (p := ⟨gb, k, none⟩) (Nat.le_of_lt h.gl) _⟩
theorem line_start {w x : World} {W : Int} {p f : Nat} {t : Bool} {z : Nat} {zs : List Nat} (hk : KBx x w.heap.size 24 W p f t z) (hb : Below w.heap.size w x) (hl : zs.length ≤ maxLen) : LineSt w (x.alloc (.cells (madeCells #[.int .u8 0] zs.length) 5)) W p f t z x.heap.size zs 0 := by
  refine ⟨⟨by rw [fill_len (Nat.zero_le _)]; exact Nat.le_refl _, hl, _, World.alloc_heap_new x _, size_madeCells _ _, ?_⟩, hk.below ((Below.refl _ _).alloc (Nat.le_refl _) _), hk.lt, hb.alloc hb.size _⟩
  rw [fill_len (Nat.zero_le _), toList_madeCells_one, fill_zero, List.take_of_length_le (by simp)]
  simp
theorem take_in {w : World} {g o : Nat} {bs : List Nat} (h : BytesIn w g o bs) (n : Nat) : BytesIn w g o (bs.take n) := by
  intro j hj
  have hj2 : j < bs.length := by rw [List.length_take] at hj; omega
  rw [h j hj2, List.getElem_take]
theorem take_all {bs : List Nat} (h : AllBytes bs) (n : Nat) : AllBytes (bs.take n) := fun c hc => h c (List.mem_of_mem_take hc)
theorem sumV_lt {W : Int} {p f : Nat} {t : Bool} {z : Nat} {bs : List Nat} (hk : kindB W p f z = true) : sumV W p f t z bs < 4294967296 := by
  have hw := kind_width hk
  have hz : z < 2 ^ W.toNat := by
    unfold kindB at hk
    simp only [Bool.and_eq_true, decide_eq_true_eq] at hk
    exact hk.2.2.2
  rw [sumV_yes hk]
  have h1 := sumL_lt (w := W.toNat) (p := p) (f := f) (t := t) (cs := bs) (by omega) hz
  have h2 : 2 ^ W.toNat ≤ 2 ^ 32 := Nat.pow_le_pow_right (by omega) (by omega)
  omega
/-- the four sums -/
theorem line_fact {W : Int} {p f : Nat} {t : Bool} {z n : Nat} {ss ts us : List Nat} (hk : kindB W p f z = true) (h1 : ss.length = n) (h2 : ts.length = n) (h3 : us.length = n) :
    ∃ q : Nat, bits .xor .u32 ((sumV W p f t z ss : Nat) : Int) ((sumV W p f t z ts : Nat) : Int) = (q : Int) ∧ bits .xor .u32 (q : Int) ((sumV W p f t z us : Nat) : Int) = ((sumV W p f t z (x3 ss ts us) : Nat) : Int) := by
  have hw := kind_width hk
  have l1 := sumV_lt (t := t) (bs := ss) hk
  have l2 := sumV_lt (t := t) (bs := ts) hk
  have l3 := sumV_lt (t := t) (bs := us) hk
  have l4 : sumV W p f t z ss ^^^ sumV W p f t z ts < 4294967296 := Nat.xor_lt_two_pow (n := 32) l1 l2
  refine ⟨_, u32_xor_nat _ _ l1 l2, ?_⟩
  rw [u32_xor_nat _ _ l4 l3, sumV_yes hk, sumV_yes hk, sumV_yes hk, sumV_yes hk, sum_line (by omega) (by omega) (by omega)]
  rfl
end Go.Proofs.Ytjbgjiodmhpbbaa
