/-
  Texts that belong together, one behind the other: SnOp. Conditions: as each says.
-/
import Derived.ChangeOld
import Derived.Deep.SlicePairs
import Derived.Deep.Strs
import Derived.OpenShut
import Derived.ProofKit
import Derived.ShutString
import Derived.Test.YtllkkgcfhphgmaaJs13
/-
  A device, a field that a law is handed (layer 9). No conditions but those that each says.
-/
namespace Go.Proofs.Ytllkkgcfhphgmaa
open Go.ChangeShapes Go.WideShapes Go.ChangeAt Go.RowKit
open Go.Deep (open_slice)
set_option linter.unusedVariables false

theorem clStr : Try.prog.cellsOf 9 = 1 := by kernel_rfl
theorem clInt : Try.prog.cellsOf 3 = 1 := by kernel_rfl
theorem clI64 : Try.prog.cellsOf 2 = 1 := by kernel_rfl
theorem clFs : Try.prog.cellsOf 22 = 1 := by kernel_rfl
theorem clBs : Try.prog.cellsOf 23 = 1 := by kernel_rfl
theorem clRt : Try.prog.cellsOf 39 = 2 := by kernel_rfl
theorem clFd : Try.prog.cellsOf 41 = 9 := by kernel_rfl
theorem clDv : Try.prog.cellsOf 25 = 12 := by kernel_rfl
/-- a field's numbers are of their kinds -/
structure FdN (f : Fd) : Prop where
  pl : I64 f.pl
  wd : I64 f.wd
  sn : I64 f.sn
  sd : I64 f.sd
  on : I64 f.on
  od : I64 f.od
theorem cell_plainS {x : World} {a : Addr} {v : Value} (h : x.cell? a = some v) : a.spot = none ∧ a.block < x.heap.size := by
  obtain ⟨g, o, sp⟩ := a
  unfold World.cell? at h
  simp only at h
  split at h
  · rename_i c t f hb
    refine ⟨?_, (Array.getElem?_eq_some_iff.1 hb).1⟩
    cases sp with
    | none => rfl
    | some s => simp at h
  · cases h
section
variable {H : Type} {enc : TypeId × Value → H} {w : World}
theorem op_str {n : Nat} {c : Value} {y : DataW H × List MemPlace} (h : DataW.trod enc Try.prog w 0 (fun _ => true) true n 9 [c] = some y) : ∃ z : Wd, c = .string (txt z) := by
  obtain ⟨s, hs, _⟩ := DataW.trod_string Try.underlying9 h
  exact ⟨s.data.toList, by rw [txt_of]; simpa using hs⟩
theorem op_int {n : Nat} {c : Value} {y : DataW H × List MemPlace} (h : DataW.trod enc Try.prog w 0 (fun _ => true) true n 3 [c] = some y) : ∃ z : Int, c = .int .i64 z ∧ I64 z := by
  obtain ⟨z, hs, _, hb⟩ := DataW.trod_int Try.underlying3 h
  exact ⟨z, by simpa using hs, bd_i64 hb⟩
theorem op_i64 {n : Nat} {c : Value} {y : DataW H × List MemPlace} (h : DataW.trod enc Try.prog w 0 (fun _ => true) true n 2 [c] = some y) : ∃ z : Int, c = .int .i64 z ∧ I64 z := by
  obtain ⟨z, hs, _, hb⟩ := DataW.trod_int Try.underlying2 h
  exact ⟨z, by simpa using hs, bd_i64 hb⟩
theorem op_rt {n : Nat} {a b : Value} {y : DataW H × List MemPlace} (h : DataW.trod enc Try.prog w 0 (fun _ => true) true n 39 [a, b] = some y) : ∃ x z : Int, a = .int .i64 x ∧ b = .int .i64 z ∧ I64 x ∧ I64 z := by
  obtain ⟨xs, m, _, _, hl, hlen, hf⟩ := DataW.trod_struct Try.underlying39 h
  match xs, hlen with
  | [y0, y1], _ =>
    have h0 : DataW.trod enc Try.prog w 0 (fun _ => true) true m 2 [a] = some y0 := by simpa [clI64] using hf 0 _ rfl
    have h1 : DataW.trod enc Try.prog w 0 (fun _ => true) true m 2 [b] = some y1 := by simpa [clI64] using hf 1 _ rfl
    obtain ⟨x, e0, b0⟩ := op_i64 h0
    obtain ⟨z, e1, b1⟩ := op_i64 h1
    exact ⟨x, z, e0, e1, b0, b1⟩
set_option maxRecDepth 100000 in
theorem op_fd {n : Nat} {cs : List Value} {y : DataW H × List MemPlace} (h : DataW.trod enc Try.prog w 0 (fun _ => true) true n 41 cs = some y) : ∃ f : Fd, cs = fdC f ∧ FdN f := by
  obtain ⟨xs, m, _, _, hl, hlen, hf⟩ := DataW.trod_struct Try.underlying41 h
  rw [clFd] at hl
  match cs, hl with
  | [c0, c1, c2, c3, c4, c5, c6, c7, c8], _ =>
    match xs, hlen with
    | [y0, y1, y2, y3, y4, y5, y6], _ =>
      have h0 : DataW.trod enc Try.prog w 0 (fun _ => true) true m 9 [c0] = some y0 := by simpa [clStr] using hf 0 _ rfl
      have h1 : DataW.trod enc Try.prog w 0 (fun _ => true) true m 3 [c1] = some y1 := by simpa [clInt] using hf 1 _ rfl
      have h2 : DataW.trod enc Try.prog w 0 (fun _ => true) true m 9 [c2] = some y2 := by simpa [clStr] using hf 2 _ rfl
      have h3 : DataW.trod enc Try.prog w 0 (fun _ => true) true m 3 [c3] = some y3 := by simpa [clInt] using hf 3 _ rfl
      have h4 : DataW.trod enc Try.prog w 0 (fun _ => true) true m 39 [c4, c5] = some y4 := by simpa [clRt] using hf 4 _ rfl
      have h5 : DataW.trod enc Try.prog w 0 (fun _ => true) true m 39 [c6, c7] = some y5 := by simpa [clRt] using hf 5 _ rfl
      have h6 : DataW.trod enc Try.prog w 0 (fun _ => true) true m 9 [c8] = some y6 := by simpa [clStr] using hf 6 _ rfl
      obtain ⟨z0, rfl⟩ := op_str h0
      obtain ⟨z1, rfl, b1⟩ := op_int h1
      obtain ⟨z2, rfl⟩ := op_str h2
      obtain ⟨z3, rfl, b3⟩ := op_int h3
      obtain ⟨z4, z5, rfl, rfl, b4, b5⟩ := op_rt h4
      obtain ⟨z6, z7, rfl, rfl, b6, b7⟩ := op_rt h5
      obtain ⟨z8, rfl⟩ := op_str h6
      exact ⟨⟨z0, z1, z2, z3, z4, z5, z6, z7, z8⟩, rfl, b1, b3, b4, b5, b6, b7⟩
theorem choose_ltS {α : Type} (d0 : α) {n : Nat} {p : Nat → α → Prop} (h : ∀ i, i < n → ∃ a, p i a) : ∃ f : Nat → α, ∀ i, i < n → p i (f i) := by
  refine ⟨fun i => if hi : i < n then Classical.choose (h i hi) else d0, fun i hi => ?_⟩
  simp only [hi, dif_pos]
  exact Classical.choose_spec (h i hi)
set_option maxRecDepth 100000 in
theorem op_fds {n : Nat} {c : Value} {y : DataW H × List MemPlace} (h : DataW.trod enc Try.prog w 0 (fun _ => true) true n 22 [c] = some y) : ∃ fs, FldsV w c fs ∧ ∀ f ∈ fs, FdN f := by
  rcases open_slice Try.underlying22 h with ⟨hc, _⟩ | ⟨a, len, cap, m, n', D, Pl, hc, _, hl, _, hm, _, hx⟩
  · obtain rfl : c = .slice none 0 0 := by simpa using hc
    exact ⟨[], .inl ⟨none, 0, rfl, rfl⟩, fun f hf => by cases hf⟩
  · obtain rfl : c = .slice (some a) len cap := by simpa using hc
    simp only [if_true] at hm
    subst hm
    by_cases h0 : len = 0
    · subst h0
      exact ⟨[], .inl ⟨_, _, rfl, rfl⟩, fun f hf => by cases hf⟩
    · rw [clFd] at hx
      have each : ∀ i, i < len → ∃ f : Fd, (∀ k u, (fdC f)[k]? = some u → w.cell? ((a.add (i * 9)).add k) = some u) ∧ FdN f := by
        intro i hi
        obtain ⟨cs', h1, h2⟩ := hx i (by omega)
        obtain ⟨_, hcl, hcell⟩ := World.cells?_some h1
        obtain ⟨f, rfl, hn⟩ := op_fd h2
        refine ⟨f, fun k u hu => ?_, hn⟩
        have hk : k < 9 := by
          rcases Nat.lt_or_ge k 9 with h | h
          · exact h
          · rw [List.getElem?_eq_none (by rw [fdC_len]; exact h)] at hu; cases hu
        rw [hcell k hk]; exact hu
      obtain ⟨F, hF⟩ := choose_ltS (⟨[], 0, [], 0, 0, 0, 0, 0, []⟩ : Fd) each
      have k0 := (hF 0 (by omega)).1 0 _ rfl
      obtain ⟨hs, hb⟩ := cell_plainS k0
      obtain ⟨g, o, sp⟩ := a
      have hs' : sp = none := by simpa [Addr.add] using hs
      subst hs'
      rw [addr_add, addr_add] at hb
      have hlen : ((List.range len).map F).length = len := by simp
      refine ⟨(List.range len).map F, .inr ⟨g, o, m, by rw [hlen], by rw [hlen]; exact hl, fun j hj i u hu => ?_, hb⟩, fun f hf => ?_⟩
      · rw [hlen] at hj
        simp only [List.getElem_map, List.getElem_range] at hu
        have k := (hF j hj).1 i u hu
        rw [addr_add, addr_add] at k
        rw [Nat.mul_comm 9 j]
        exact k
      · obtain ⟨j, hj, rfl⟩ := List.mem_map.1 hf
        exact (hF j (List.mem_range.1 hj)).2
theorem op_bs {n : Nat} {c : Value} {y : DataW H × List MemPlace} (h : DataW.trod enc Try.prog w 0 (fun _ => true) true n 23 [c] = some y) : ∃ p m cap, c = .slice p m cap := by
  rcases open_slice Try.underlying23 h with ⟨hc, _⟩ | ⟨a, len, cap, m, n', D, Pl, hc, _⟩
  · exact ⟨_, _, _, by simpa using hc⟩
  · exact ⟨_, _, _, by simpa using hc⟩
/-- a device that was handed over -/
structure DvH (w : World) (v : Value) (d : Dv) (fv : Value) (pq : Option Addr) (cq : Nat) : Prop where
  v : v = dvV d fv (.slice pq d.rq.length cq)
  fl : FldsV w fv d.fs
  fn : ∀ f ∈ d.fs, FdN f
  sz : I64 d.sz
set_option maxRecDepth 100000 in
theorem open_dev {b0 : Nat} {v : Value} {dd : DataW H} {ps : List MemPlace} (hv : Value.okWide Try.prog w .any b0 25 v) (h : DataW.Trod enc Try.prog w 0 (fun _ => true) true 25 v dd ps) :
    ∃ d fv pq cq, DvH w v d fv pq cq := by
  obtain ⟨cs, rfl, hsz⟩ := okWide_struct Try.underlying25 hv
  rw [clDv] at hsz
  obtain ⟨fuel, hf0⟩ := h
  obtain ⟨xs, m, _, _, hl, hlen, hf⟩ := DataW.trod_struct Try.underlying25 hf0
  obtain ⟨l⟩ := cs
  have hl12 : l.length = 12 := by simpa using hsz
  match l, hl12 with
  | [c0, c1, c2, c3, c4, c5, c6, c7, c8, c9, c10, c11], _ =>
    match xs, hlen with
    | [y0, y1, y2, y3, y4, y5, y6, y7, y8, y9, y10, y11], _ =>
      have h0 : DataW.trod enc Try.prog w 0 (fun _ => true) true m 9 [c0] = some y0 := by simpa [Value.cells, clStr] using hf 0 _ rfl
      have h1 : DataW.trod enc Try.prog w 0 (fun _ => true) true m 3 [c1] = some y1 := by simpa [Value.cells, clInt] using hf 1 _ rfl
      have h2 : DataW.trod enc Try.prog w 0 (fun _ => true) true m 3 [c2] = some y2 := by simpa [Value.cells, clInt] using hf 2 _ rfl
      have h3 : DataW.trod enc Try.prog w 0 (fun _ => true) true m 3 [c3] = some y3 := by simpa [Value.cells, clInt] using hf 3 _ rfl
      have h4 : DataW.trod enc Try.prog w 0 (fun _ => true) true m 3 [c4] = some y4 := by simpa [Value.cells, clInt] using hf 4 _ rfl
      have h5 : DataW.trod enc Try.prog w 0 (fun _ => true) true m 9 [c5] = some y5 := by simpa [Value.cells, clStr] using hf 5 _ rfl
      have h6 : DataW.trod enc Try.prog w 0 (fun _ => true) true m 22 [c6] = some y6 := by simpa [Value.cells, clFs] using hf 6 _ rfl
      have h7 : DataW.trod enc Try.prog w 0 (fun _ => true) true m 23 [c7] = some y7 := by simpa [Value.cells, clBs] using hf 7 _ rfl
      have h8 : DataW.trod enc Try.prog w 0 (fun _ => true) true m 3 [c8] = some y8 := by simpa [Value.cells, clInt] using hf 8 _ rfl
      have h9 : DataW.trod enc Try.prog w 0 (fun _ => true) true m 3 [c9] = some y9 := by simpa [Value.cells, clInt] using hf 9 _ rfl
      have h10 : DataW.trod enc Try.prog w 0 (fun _ => true) true m 3 [c10] = some y10 := by simpa [Value.cells, clInt] using hf 10 _ rfl
      have h11 : DataW.trod enc Try.prog w 0 (fun _ => true) true m 3 [c11] = some y11 := by simpa [Value.cells, clInt] using hf 11 _ rfl
      obtain ⟨z0, rfl⟩ := op_str h0
      obtain ⟨z1, rfl, b1⟩ := op_int h1
      obtain ⟨z2, rfl, b2⟩ := op_int h2
      obtain ⟨z3, rfl, b3⟩ := op_int h3
      obtain ⟨z4, rfl, b4⟩ := op_int h4
      obtain ⟨z5, rfl⟩ := op_str h5
      obtain ⟨fs, hfl, hfn⟩ := op_fds h6
      obtain ⟨pq, nq, cq, rfl⟩ := op_bs h7
      obtain ⟨z8, rfl, b8⟩ := op_int h8
      obtain ⟨z9, rfl, b9⟩ := op_int h9
      obtain ⟨z10, rfl, b10⟩ := op_int h10
      obtain ⟨z11, rfl, b11⟩ := op_int h11
      have hr : (List.replicate nq 0 : List Nat).length = nq := List.length_replicate
      exact ⟨⟨z0, z1, z2, z3, z4, z5, fs, List.replicate nq 0, z8, z9, z10, z11⟩, c6, pq, cq, by rw [hr], hfl, hfn, b4⟩
set_option maxRecDepth 100000 in
theorem open_fd {b0 : Nat} {v : Value} {dd : DataW H} {ps : List MemPlace} (hv : Value.okWide Try.prog w .any b0 41 v) (h : DataW.Trod enc Try.prog w 0 (fun _ => true) true 41 v dd ps) :
    ∃ f, v = fdV f ∧ FdN f := by
  obtain ⟨cs, rfl, hsz⟩ := okWide_struct Try.underlying41 hv
  obtain ⟨fuel, hf0⟩ := h
  obtain ⟨f, e, hn⟩ := op_fd hf0
  refine ⟨f, ?_, hn⟩
  obtain ⟨l⟩ := cs
  have e2 : l = fdC f := by simpa [Value.cells] using e
  rw [e2]
  rfl
end
end Go.Proofs.Ytllkkgcfhphgmaa
