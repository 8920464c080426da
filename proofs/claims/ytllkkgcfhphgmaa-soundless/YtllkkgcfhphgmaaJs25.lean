/-
  Texts that belong together, one behind the other: SnLk. Conditions: as each says.
-/
import Derived.Test.YtllkkgcfhphgmaaJs13
import Derived.Test.YtllkkgcfhphgmaaJs22
import Derived.Test.YtllkkgcfhphgmaaJs23
import Derived.Test.YtllkkgcfhphgmaaJs24
/-
  What the laws of layer 9 call, in every world behind the law's own (layer 9). Conditions: as each says.
-/
namespace Go.Proofs.Ytllkkgcfhphgmaa
open Go.RowKit
set_option linter.unusedVariables false

theorem small_nm {z : Wd} (h : ((txt z).size : Int) ≤ 50) : (z.length : Int) ≤ 5000 := by rw [txt_size] at h; omega
theorem FdN.i {f : Fd} (h : FdN f) (hs : ((txt f.nm).size : Int) ≤ 50) : FdI f := ⟨small_nm hs, h.pl, h.wd, h.sn, h.sd, h.on, h.od⟩
theorem dvi_of {d : Dv} (hf : fewD d = true) (hn : ∀ f ∈ d.fs, FdN f) (hz : I64 d.sz) : DvI d := by
  obtain ⟨h1, h2, h3, h4, h5⟩ := few_bdS hf
  exact ⟨small_nm h1, fun f hm => (hn f hm).i (h5 f hm).1, hz, by omega⟩
def AwC9 : Prop := ∀ x, Calls Try.prog 6 #[] x fun e w' => e = .returned (.bool true) ∧ Below x.heap.size x w'
theorem awC9 : AwC9 := awake9
def FwC (w : World) (d : Dv) (fv : Value) (pq : Option Addr) (cq : Nat) (T : Bool) : Prop := ∀ x, Below w.heap.size w x → Calls Try.prog 7 #[dvV d fv (.slice pq d.rq.length cq)] x (QA x (oneI T))
theorem fwC {w : World} {d : Dv} {fv : Value} {pq : Option Addr} {cq : Nat} (h : FldsV w fv d.fs) : FwC w d fv pq cq (fewD d) := fun x hx => fewd_any d fv pq _ cq x rfl (h.below hx)
/-- a device in a block of its own that may be written -/
structure DvO (x : World) (b : Nat) (d : Dv) (fv qv : Value) : Prop where
  c : x.heap[b]? = some (.cells (dvA d fv qv) 25 (0, 0))
  fl : FldsV x fv d.fs
theorem DvO.below {x y : World} {b : Nat} {d : Dv} {fv qv : Value} (h : DvO x b d fv qv) (k : Below x.heap.size x y) : DvO y b d fv qv := ⟨(k.block _ (Array.getElem?_eq_some_iff.1 h.c).1).trans h.c, h.fl.below k⟩
theorem DvO.lt {x : World} {b : Nat} {d : Dv} {fv qv : Value} (h : DvO x b d fv qv) : b < x.heap.size := (Array.getElem?_eq_some_iff.1 h.c).1
theorem DvO.new {w : World} {d : Dv} {fv qv : Value} (h : FldsV w fv d.fs) : DvO (w.alloc (.cells #[.string (txt d.nm), .int .i64 d.st, .int .i64 d.es, .int .i64 d.mx, .int .i64 d.sz, .string (txt d.sm), fv, qv, .int .i64 d.po, .int .i64 d.ti, .int .i64 d.re, .int .i64 d.ag] 25)) w.heap.size d fv qv :=
  ⟨World.alloc_heap_new w _, h.below ((Below.refl _ _).alloc (Nat.le_refl _) _)⟩
theorem DvO.cells {x : World} {b : Nat} {d : Dv} {fv qv : Value} (h : DvO x b d fv qv) :
    x.cell? ⟨b, 0, none⟩ = some (.string (txt d.nm)) ∧ x.cell? ⟨b, 1, none⟩ = some (.int .i64 d.st) ∧ x.cell? ⟨b, 2, none⟩ = some (.int .i64 d.es) ∧ x.cell? ⟨b, 3, none⟩ = some (.int .i64 d.mx) ∧ x.cell? ⟨b, 4, none⟩ = some (.int .i64 d.sz) ∧ x.cell? ⟨b, 5, none⟩ = some (.string (txt d.sm))
    ∧ x.cell? ⟨b, 6, none⟩ = some fv ∧ x.cell? ⟨b, 7, none⟩ = some qv ∧ x.cell? ⟨b, 8, none⟩ = some (.int .i64 d.po) ∧ x.cell? ⟨b, 9, none⟩ = some (.int .i64 d.ti) ∧ x.cell? ⟨b, 10, none⟩ = some (.int .i64 d.re) ∧ x.cell? ⟨b, 11, none⟩ = some (.int .i64 d.ag) := by
  have c := rd_cell h.c
  exact ⟨(c 0).1.trans rfl, (c 1).1.trans rfl, (c 2).1.trans rfl, (c 3).1.trans rfl, (c 4).1.trans rfl, (c 5).1.trans rfl, (c 6).1.trans rfl, (c 7).1.trans rfl, (c 8).1.trans rfl, (c 9).1.trans rfl, (c 10).1.trans rfl, (c 11).1.trans rfl⟩
theorem DvO.frozen {x : World} {b : Nat} {d : Dv} {fv qv : Value} (h : DvO x b d fv qv) (i : Nat) : x.frozen? ⟨b, i, none⟩ = false := (rd_cell h.c i).2
/-- other fields are put into it -/
theorem DvO.put {x : World} {b : Nat} {d : Dv} {fv qv fv' : Value} {fs' : List Fd} (h : DvO x b d fv qv) (hf : FldsV x fv' fs') (hb : ∀ g, fv'.ownBlock = some g → g ≠ b) : DvO (x.setCell ⟨b, 6, none⟩ fv') b { d with fs := fs' } fv' qv := by
  refine ⟨?_, ?_⟩
  · exact (rd_set h.c 6 _).trans (by simp only [List.setIfInBounds_toArray, List.set_cons_zero, List.set_cons_succ])
  · rcases hf with hf | ⟨g, o, cap, rfl, hc, hin, hg⟩
    · exact .inl hf
    · refine .inr ⟨g, o, cap, rfl, hc, fun j hj i u hu => ?_, by rw [World.size_setCell]; exact hg⟩
      rw [World.cell?_setCell_other _ _ _ _ (fun e => hb g rfl (by have := congrArg Addr.block e; exact this.symm))]
      exact hin j hj i u hu
theorem FldsV.one {x : World} {v : Value} {f : Fd} (h : FldsV x v [f]) : ∃ g o cap, v = .slice (some ⟨g, o, none⟩) 1 cap ∧ FldsIn x g o [f] := by
  rcases h with ⟨_, _, _, e⟩ | ⟨g, o, cap, e, _, hin, _⟩
  · cases e
  · exact ⟨g, o, cap, e, hin⟩
theorem flds_new (x : World) (f : Fd) (T : TypeId) : FldsV (x.alloc (.cells #[.string (txt f.nm), .int .i64 f.pl, .string (txt f.kd), .int .i64 f.wd, .int .i64 f.sn, .int .i64 f.sd, .int .i64 f.on, .int .i64 f.od, .string (txt f.un)] T)) (.slice (some ⟨x.heap.size, 0, none⟩) 1 1) [f] := by
  refine .inr ⟨x.heap.size, 0, 1, rfl, Nat.le_refl _, fun j hj i u hu => ?_, by rw [World.size_alloc]; omega⟩
  have hj0 : j = 0 := by simp at hj; omega
  subst hj0
  rw [Nat.mul_zero, Nat.zero_add]
  exact cells_new x (fdC f) T i u hu
end Go.Proofs.Ytllkkgcfhphgmaa
