/-
  What laws are handed: numbers of their kinds, a slice of bytes. No conditions but those that each says.
-/
import Derived.Test.YtoocppfdcalmfaaCrcRefD
import Derived.ProofKit
import Derived.OpenShut
import Derived.ShutString
import Derived.ChangeOld
namespace Go.Proofs.Ytoocppfdcalmfaa
open Go.ChangeShapes Go.WideShapes Go.ChangeAt Go.RowKit
set_option linter.unusedVariables false

theorem BytesAt.below {w x : World} {b : Value} {bs : List Nat} (h : BytesAt w b bs) (k : Below w.heap.size w x) : BytesAt x b bs := by
  rcases h with h | ⟨g, o, cap, h1, h2, h3⟩
  · exact .inl h
  · exact .inr ⟨g, o, cap, h1, fun j hj => h2.at h3 k j hj, Nat.lt_of_lt_of_le h3 k.size⟩
theorem bd_u8 {n : Int} (h : (Lit.int .u8 n).wf = true) : 0 ≤ n ∧ n < 256 := by
  simp [Lit.wf, IntKind.min, IntKind.max, IntKind.bits, IntKind.signed] at h; omega
theorem bd_u16 {n : Int} (h : (Lit.int .u16 n).wf = true) : 0 ≤ n ∧ n < 65536 := by
  simp [Lit.wf, IntKind.min, IntKind.max, IntKind.bits, IntKind.signed] at h; omega
theorem bd_u32 {n : Int} (h : (Lit.int .u32 n).wf = true) : 0 ≤ n ∧ n < 4294967296 := by
  simp [Lit.wf, IntKind.min, IntKind.max, IntKind.bits, IntKind.signed] at h; omega
theorem bd_i64 {n : Int} (h : (Lit.int .i64 n).wf = true) : -9223372036854775808 ≤ n ∧ n ≤ 9223372036854775807 := by
  simp [Lit.wf, IntKind.min, IntKind.max, IntKind.bits, IntKind.signed] at h; omega
theorem cellsU8 : Try.prog.cellsOf 5 = 1 := by kernel_rfl
/-- a slice of bytes that was handed over -/
def BytesV (w : World) (v : Value) (bs : List Nat) : Prop :=
  (v = .slice none 0 0 ∧ bs = []) ∨ ∃ g o cap, v = .slice (some ⟨g, o, none⟩) bs.length cap ∧ bs.length ≤ cap ∧ cap ≤ maxLen ∧ BytesIn w g o bs ∧ g < w.heap.size
theorem BytesV.at {w : World} {v : Value} {bs : List Nat} (h : BytesV w v bs) : BytesAt w v bs := by
  rcases h with h | ⟨g, o, cap, h1, _, _, h2, h3⟩
  · exact .inl h
  · exact .inr ⟨g, o, cap, h1, h2, h3⟩
theorem BytesV.len {w : World} {v : Value} {bs : List Nat} (h : BytesV w v bs) : (bs.length : Int) ≤ 9223372036854775807 := by
  rcases h with ⟨_, rfl⟩ | ⟨g, o, cap, _, h1, h2, _⟩
  · simp
  · unfold maxLen at h2; omega
theorem BytesV.below {w x : World} {v : Value} {bs : List Nat} (h : BytesV w v bs) (k : Below w.heap.size w x) : BytesV x v bs := by
  rcases h with h | ⟨g, o, cap, h1, ha, hb, h2, h3⟩
  · exact .inl h
  · exact .inr ⟨g, o, cap, h1, ha, hb, fun j hj => h2.at h3 k j hj, Nat.lt_of_lt_of_le h3 k.size⟩
theorem addr_add (g o j : Nat) : (⟨g, o, none⟩ : Addr).add j = ⟨g, o + j, none⟩ := by
  unfold Addr.add
  by_cases h : j = 0
  · subst h; simp
  · simp [h]
theorem open_bytes {H : Type} {enc : TypeId × Value → H} {w : World} {b0 : Nat} {v : Value} {d : DataW H} {ps : List MemPlace} (hv : Value.okWide Try.prog w .any b0 22 v) (h : DataW.Trod enc Try.prog w 0 (fun _ => true) true 22 v d ps) :
    ∃ bs, BytesV w v bs ∧ AllBytes bs := by
  obtain ⟨a, len, cap, rfl⟩ := okWide_slice Try.underlying22 hv
  obtain ⟨fuel, hf⟩ := h
  rcases open_ints Try.underlying22 Try.underlying5 cellsU8 hf with ⟨hcs, _⟩ | ⟨x, l, c, zs, hcs, _, hl, hm, hz, _, hcell, hwz⟩
  · simp [Value.cells] at hcs
    obtain ⟨rfl, rfl, rfl⟩ := hcs
    exact ⟨[], .inl ⟨rfl, rfl⟩, fun c hc => by cases hc⟩
  · simp [Value.cells] at hcs
    obtain ⟨rfl, rfl, rfl⟩ := hcs
    simp only [Value.okWide, Try.underlying22, Cell.okWide, Cell.ok] at hv
    obtain ⟨_, _, _, hsp, row, cells, hsh, _⟩ := hv
    obtain ⟨g, o, sp⟩ := x
    simp only at hsp hsh
    subst hsp
    have hg : g < w.heap.size := by
      unfold World.shape? at hsh
      rcases Nat.lt_or_ge g w.heap.size with h | h
      · exact h
      · rw [Array.getElem?_eq_none h] at hsh; cases hsh
    simp only [if_true] at hz
    have hlen : ((zs.take len).map Int.toNat).length = len := by simp; omega
    refine ⟨(zs.take len).map Int.toNat, .inr ⟨g, o, cap, by rw [hlen], by rw [hlen]; exact hl, hm, ?_, hg⟩, ?_⟩
    · intro j hj
      rw [hlen] at hj
      have hj2 : j < zs.length := by omega
      have e1 := hcell j hj2
      have e2 : zs.getD j 0 = zs[j] := by rw [List.getD_eq_getElem?_getD, List.getElem?_eq_getElem hj2]; rfl
      have e3 := (bd_u8 (hwz zs[j] (List.getElem_mem hj2))).1
      rw [addr_add] at e1
      rw [e1, e2]
      simp only [List.getElem_map, List.getElem_take]
      rw [Int.toNat_of_nonneg e3]
    · intro c hc
      obtain ⟨n, hn, rfl⟩ := List.mem_map.1 hc
      have := bd_u8 (hwz n (List.mem_of_mem_take hn))
      omega

end Go.Proofs.Ytoocppfdcalmfaa
