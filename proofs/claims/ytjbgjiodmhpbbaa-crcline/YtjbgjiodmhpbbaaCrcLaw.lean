/-
  What the laws of layer 4 are handed: a kind, a slice of bytes; their own Of and awake. No conditions but those that each says.
-/
import Derived.Test.YtjbgjiodmhpbbaaCrcPE
import Derived.ProofKit
import Derived.OpenShut
import Derived.ShutString
import Derived.ChangeOld
import Derived.Lib.SmallJoins
namespace Go.Proofs.Ytjbgjiodmhpbbaa
open Go.ChangeShapes Go.WideShapes Go.ChangeAt Go.RowKit Go.Joins
open Go.Deep (oneCellFields hone_of)
set_option linter.unusedVariables false

/-! a struct of five fields -/
section
variable {H : Type} {enc : TypeId × Value → H} {P : Program} {w : World} {base : Nat} {spare : Nat → Bool} {held : Bool}
theorem array5 {α : Type} {cs : Array α} (h : cs.size = 5) : ∃ c0 c1 c2 c3 c4, cs = #[c0, c1, c2, c3, c4] := by
  obtain ⟨l⟩ := cs
  match l, h with
  | [c0, c1, c2, c3, c4], _ => exact ⟨c0, c1, c2, c3, c4, rfl⟩
theorem trod_struct5 {t : TypeId} {f0 f1 f2 f3 f4 : Field} {fuel : Nat} {cs : List Value} {x : DataW H × List MemPlace} (ht : P.underlying t = some (.struct #[f0, f1, f2, f3, f4])) (h : DataW.trod enc P w base spare held fuel t cs = some x) :
    ∃ y0 y1 y2 y3 y4 n, cs.length = P.cellsOf t ∧ DataW.trod enc P w base spare held n f0.type ((cs.drop f0.offset).take (P.cellsOf f0.type)) = some y0 ∧
      DataW.trod enc P w base spare held n f1.type ((cs.drop f1.offset).take (P.cellsOf f1.type)) = some y1 ∧ DataW.trod enc P w base spare held n f2.type ((cs.drop f2.offset).take (P.cellsOf f2.type)) = some y2 ∧
      DataW.trod enc P w base spare held n f3.type ((cs.drop f3.offset).take (P.cellsOf f3.type)) = some y3 ∧ DataW.trod enc P w base spare held n f4.type ((cs.drop f4.offset).take (P.cellsOf f4.type)) = some y4 := by
  obtain ⟨xs, n, _, rfl, hl, hlen, hf⟩ := DataW.trod_struct ht h
  match xs, hlen with
  | [y0, y1, y2, y3, y4], _ => exact ⟨y0, y1, y2, y3, y4, n, hl, by simpa using hf 0 f0 rfl, by simpa using hf 1 f1 rfl, by simpa using hf 2 f2 rfl, by simpa using hf 3 f3 rfl, by simpa using hf 4 f4 rfl⟩
theorem open_agg5 {r : Reach} {b0 : Nat} {t : TypeId} {f0 f1 f2 f3 f4 : Field} {v : Value} {d : DataW H} {p : List MemPlace} (hs : P.underlying t = some (.struct #[f0, f1, f2, f3, f4])) (hone : oneCellFields P #[f0, f1, f2, f3, f4] = true) (hC : P.cellsOf t = 5)
    (hv : Value.okWide P w r b0 t v) (h : DataW.Trod enc P w base spare held t v d p) :
    ∃ (v0 v1 v2 v3 v4 : Value) (y0 y1 y2 y3 y4 : DataW H × List MemPlace) (n : Nat), v = .agg #[v0, v1, v2, v3, v4] ∧
      DataW.trod enc P w base spare held n f0.type [v0] = some y0 ∧ DataW.trod enc P w base spare held n f1.type [v1] = some y1 ∧ DataW.trod enc P w base spare held n f2.type [v2] = some y2 ∧ DataW.trod enc P w base spare held n f3.type [v3] = some y3 ∧ DataW.trod enc P w base spare held n f4.type [v4] = some y4 := by
  obtain ⟨cs, rfl, hsz⟩ := okWide_struct hs hv
  obtain ⟨c0, c1, c2, c3, c4, rfl⟩ := array5 (hsz.trans hC)
  obtain ⟨fuel, hf⟩ := h
  obtain ⟨y0, y1, y2, y3, y4, n, _, h0, h1, h2, h3, h4⟩ := trod_struct5 hs hf
  obtain ⟨o0, k0⟩ := hone_of hone 0 f0 rfl
  obtain ⟨o1, k1⟩ := hone_of hone 1 f1 rfl
  obtain ⟨o2, k2⟩ := hone_of hone 2 f2 rfl
  obtain ⟨o3, k3⟩ := hone_of hone 3 f3 rfl
  obtain ⟨o4, k4⟩ := hone_of hone 4 f4 rfl
  exact ⟨c0, c1, c2, c3, c4, y0, y1, y2, y3, y4, n, rfl, by simpa [Value.cells, o0, k0] using h0, by simpa [Value.cells, o1, k1] using h1, by simpa [Value.cells, o2, k2] using h2, by simpa [Value.cells, o3, k3] using h3, by simpa [Value.cells, o4, k4] using h4⟩
end

theorem bd_u8 {n : Int} (h : (Lit.int .u8 n).wf = true) : 0 ≤ n ∧ n < 256 := by
  simp [Lit.wf, IntKind.min, IntKind.max, IntKind.bits, IntKind.signed] at h; omega
theorem bd_u16 {n : Int} (h : (Lit.int .u16 n).wf = true) : 0 ≤ n ∧ n < 65536 := by
  simp [Lit.wf, IntKind.min, IntKind.max, IntKind.bits, IntKind.signed] at h; omega
theorem bd_u32 {n : Int} (h : (Lit.int .u32 n).wf = true) : 0 ≤ n ∧ n < 4294967296 := by
  simp [Lit.wf, IntKind.min, IntKind.max, IntKind.bits, IntKind.signed] at h; omega
theorem bd_i64 {n : Int} (h : (Lit.int .i64 n).wf = true) : -9223372036854775808 ≤ n ∧ n ≤ 9223372036854775807 := by
  simp [Lit.wf, IntKind.min, IntKind.max, IntKind.bits, IntKind.signed] at h; omega
theorem cellsKind : Try.prog.cellsOf 24 = 5 := by kernel_rfl
theorem cellsU8 : Try.prog.cellsOf 5 = 1 := by kernel_rfl

/-- a kind that was handed over -/
structure KindV (v : Value) (W : Int) (p f : Nat) (t : Bool) (z : Nat) : Prop where
  v : v = kv W p f t z
  W : -9223372036854775808 ≤ W ∧ W ≤ 9223372036854775807
  p : p < 4294967296
  f : f < 4294967296
  z : z < 4294967296
theorem open_kind {H : Type} {enc : TypeId × Value → H} {w : World} {b0 base : Nat} {spare : Nat → Bool} {held : Bool} {v : Value} {d : DataW H} {ps : List MemPlace} (hv : Value.okWide Try.prog w .any b0 24 v) (h : DataW.Trod enc Try.prog w base spare held 24 v d ps) :
    ∃ W p f t z, KindV v W p f t z := by
  obtain ⟨v0, v1, v2, v3, v4, y0, y1, y2, y3, y4, n, rfl, h0, h1, h2, h3, h4⟩ := open_agg5 Try.underlying24 (by kernel_rfl) cellsKind hv h
  obtain ⟨W, k0, _, b0⟩ := DataW.trod_int Try.underlying3 h0
  obtain ⟨p, k1, _, b1⟩ := DataW.trod_int Try.underlying22 h1
  obtain ⟨f, k2, _, b2⟩ := DataW.trod_int Try.underlying22 h2
  obtain ⟨t, k3, _⟩ := DataW.trod_bool Try.underlying4 h3
  obtain ⟨z, k4, _, b4⟩ := DataW.trod_int Try.underlying22 h4
  simp only [List.cons.injEq, and_true] at k0 k1 k2 k3 k4
  subst k0 k1 k2 k3 k4
  have c1 := bd_u32 b1
  have c2 := bd_u32 b2
  have c4 := bd_u32 b4
  refine ⟨W, p.toNat, f.toNat, t, z.toNat, ?_, bd_i64 b0, by omega, by omega, by omega⟩
  unfold kv
  rw [Int.toNat_of_nonneg c1.1, Int.toNat_of_nonneg c2.1, Int.toNat_of_nonneg c4.1]

/-- a slice of bytes that was handed over -/
def BytesV (w : World) (v : Value) (bs : List Nat) : Prop :=
  (v = .slice none 0 0 ∧ bs = []) ∨ ∃ g o cap, v = .slice (some ⟨g, o, none⟩) bs.length cap ∧ bs.length ≤ cap ∧ cap ≤ maxLen ∧ BytesIn w g o bs ∧ g < w.heap.size
theorem BytesV.at {w : World} {v : Value} {bs : List Nat} (h : BytesV w v bs) : BytesAt w v bs := by
  rcases h with h | ⟨g, o, cap, h1, _, _, h2, h3⟩
  · exact .inl h
  · exact .inr ⟨g, o, cap, h1, h2, h3⟩
theorem BytesV.len {w : World} {v : Value} {bs : List Nat} (h : BytesV w v bs) : (bs.length : Int) ≤ 9223372036854775807 := by
  rcases h with ⟨_, rfl⟩ | ⟨g, o, cap, _, h1, h2, _⟩
  · simp
  · unfold maxLen at h2; omega
theorem BytesV.below {w x : World} {v : Value} {bs : List Nat} (h : BytesV w v bs) (k : Below w.heap.size w x) : BytesV x v bs := by
  rcases h with h | ⟨g, o, cap, h1, ha, hb, h2, h3⟩
  · exact .inl h
  · exact .inr ⟨g, o, cap, h1, ha, hb, fun j hj => h2.at h3 k j hj, Nat.lt_of_lt_of_le h3 k.size⟩
theorem addr_add (g o j : Nat) : (⟨g, o, none⟩ : Addr).add j = ⟨g, o + j, none⟩ := by
  unfold Addr.add
  by_cases h : j = 0
  · subst h; simp
  · simp [h]
theorem open_bytes {H : Type} {enc : TypeId × Value → H} {w : World} {b0 : Nat} {v : Value} {d : DataW H} {ps : List MemPlace} (hv : Value.okWide Try.prog w .any b0 25 v) (h : DataW.Trod enc Try.prog w 0 (fun _ => true) true 25 v d ps) :
    ∃ bs, BytesV w v bs ∧ AllBytes bs := by
  obtain ⟨a, len, cap, rfl⟩ := okWide_slice Try.underlying25 hv
  obtain ⟨fuel, hf⟩ := h
  rcases open_ints Try.underlying25 Try.underlying5 cellsU8 hf with ⟨hcs, _⟩ | ⟨x, l, c, zs, hcs, _, hl, hm, hz, _, hcell, hwz⟩
  · simp [Value.cells] at hcs
    obtain ⟨rfl, rfl, rfl⟩ := hcs
    exact ⟨[], .inl ⟨rfl, rfl⟩, fun c hc => by cases hc⟩
  · simp [Value.cells] at hcs
    obtain ⟨rfl, rfl, rfl⟩ := hcs
    simp only [Value.okWide, Try.underlying25, Cell.okWide, Cell.ok] at hv
    obtain ⟨_, _, _, hsp, row, cells, hsh, _⟩ := hv
    obtain ⟨g, o, sp⟩ := x
    simp only at hsp hsh
    subst hsp
    have hg : g < w.heap.size := by
      unfold World.shape? at hsh
      rcases Nat.lt_or_ge g w.heap.size with h | h
      · exact h
      · rw [Array.getElem?_eq_none h] at hsh; cases hsh
    simp only [if_true] at hz
    have hlen : ((zs.take len).map Int.toNat).length = len := by simp; omega
    refine ⟨(zs.take len).map Int.toNat, .inr ⟨g, o, cap, by rw [hlen], by rw [hlen]; exact hl, hm, ?_, hg⟩, ?_⟩
    · intro j hj
      rw [hlen] at hj
      have hj2 : j < zs.length := by omega
      have e1 := hcell j hj2
      have e2 : zs.getD j 0 = zs[j] := by rw [List.getD_eq_getElem?_getD, List.getElem?_eq_getElem hj2]; rfl
      have e3 := (bd_u8 (hwz zs[j] (List.getElem_mem hj2))).1
      rw [addr_add] at e1
      rw [e1, e2]
      simp only [List.getElem_map, List.getElem_take]
      rw [Int.toNat_of_nonneg e3]
    · intro c hc
      obtain ⟨n, hn, rfl⟩ := List.mem_map.1 hc
      have := bd_u8 (hwz n (List.mem_of_mem_take hn))
      omega

/-! Of -/
set_option maxRecDepth 100000 in
theorem of_any (W : Int) (p f : Nat) (t : Bool) (z : Nat) (w : World) :
    Calls Try.prog 10 #[kv W p f t z] w fun e w' => e = .returned (kv W p f t z) ∧ Below w.heap.size w w' := by
  have B : Hid (Below w.heap.size w ((w.alloc (.cells #[.int .i64 W, .int .u32 (p : Int), .int .u32 (f : Int), .bool t, .int .u32 (z : Int)] 24)).alloc (.cells #[.int .i64 W, .int .u32 (p : Int), .int .u32 (f : Int), .bool t, .int .u32 (z : Int)] 30))) := ((Below.refl _ _).alloc (Nat.le_refl _) _).alloc (by simp) _
  go_enter Try.func10, Try.ntmps10
  go_wp2
  exact bodyPost_ret (v := kv W p f t z) (by simp [results, Try.results10, go_sem]) rfl ⟨rfl, B.out⟩

/-! awake -/
def digs : List Nat := [49, 50, 51, 52, 53, 54, 55, 56, 57]
theorem dig_sum : sumV 16 32773 0 true 0 digs = 47933 := by kernel_rfl
theorem dig_err : sumE 16 32773 0 0 = 0 := by kernel_rfl
theorem dig_bytes : AllBytes digs := by unfold AllBytes digs; decide
end Go.Proofs.Ytjbgjiodmhpbbaa
