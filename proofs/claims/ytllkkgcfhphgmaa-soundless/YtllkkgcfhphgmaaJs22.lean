/-
  Texts that belong together, one behind the other: SnL0. Conditions: as each says.
-/
import Derived.Test.YtllkkgcfhphgmaaJs19
import Derived.Test.YtllkkgcfhphgmaaJs21
/-
  The document's own Check, as a whole; the statements' own awake (layer 9). Conditions: as each says.
-/
namespace Go.Proofs.Ytllkkgcfhphgmaa
open Go.RowKit
set_option linter.unusedVariables false

theorem rcheck_any (d : Dv) (pf pq : Option Addr) (cf cq : Nat) (w : World) (hi : DvI d) (hfv : FldsV w (.slice pf d.fs.length cf) d.fs) : Calls Try.prog 11 #[dvV d (.slice pf d.fs.length cf) (.slice pq d.rq.length cq)] w (QA w (ckE d)) := by
  by_cases hn : nameB d.nm = true
  · by_cases hN : gdN d = true
    · exact rck_c d pf pq _ cf _ cq w rfl rfl hfv hi hn hN
    · rw [← ck_6 (d := d) rfl (fun h => hN h.2)]
      have hx := fun h => hN (gdN_iff.2 h)
      by_cases h1 : d.st < 0 ∨ 255 < d.st ∨ d.es < 0 ∨ 255 < d.es ∨ d.mx < 0 ∨ 255 < d.mx ∨ d.sz < 1 ∨ 32 < d.sz ∨ 8 < (d.fs.length : Int) ∨ (d.rq.length : Int) < 1 ∨ 16 < (d.rq.length : Int)
      · exact rck_a d pf pq _ cf _ cq w rfl rfl hfv (.inr h1)
      · refine rck_b d pf pq _ cf _ cq w rfl rfl hfv hn (by omega) ?_
        clear hN
        by_cases h2 : d.po < 1 ∨ 1000 < d.po ∨ d.ti < 1 ∨ 1000 < d.ti ∨ d.ag < 1 ∨ 1000 < d.ag ∨ d.re < 0 ∨ 10 < d.re
        · exact h2
        · exact absurd (by omega) hx
  · rw [← ck_6 (d := d) rfl (fun h => hn h.1)]
    exact rck_a d pf pq _ cf _ cq w rfl rfl hfv (.inl hn)
def aw0 : Dv := ⟨[97], 2, 27, 32, 3, [120, 111, 114], [], [5], 10, 3, 0, 30⟩
def aw1 : Dv := ⟨[97], 2, 2, 32, 3, [120, 111, 114], [], [5], 10, 3, 0, 30⟩
theorem aw0_ck : ckE aw0 = 0 := of_decide_eq_true (by kernel_rfl)
theorem aw1_ck : ckE aw1 = 10 := of_decide_eq_true (by kernel_rfl)
theorem aw0_i : DvI aw0 := ⟨by decide, fun f hf => (by cases hf), ⟨by decide, by decide⟩, by decide⟩
theorem aw1_i : DvI aw1 := ⟨by decide, fun f hf => (by cases hf), ⟨by decide, by decide⟩, by decide⟩
theorem awc0 (p : Option Addr) (x : World) : Calls Try.prog 9 #[.agg #[.string ⟨#[97]⟩, .int .i64 2, .int .i64 27, .int .i64 32, .int .i64 3, .string ⟨#[120, 111, 114]⟩, .slice none 0 0, .slice p 1 1, .int .i64 10, .int .i64 3, .int .i64 0, .int .i64 30]] x (QA x 0) := by
  have k := check_any aw0 (.slice none 0 0) (.slice p 1 1) x aw0_i ⟨p, 1, rfl⟩ (.inl ⟨none, 0, rfl, rfl⟩)
  rw [aw0_ck] at k
  exact k
theorem awc1 (p : Option Addr) (x : World) : Calls Try.prog 9 #[.agg #[.string ⟨#[97]⟩, .int .i64 2, .int .i64 2, .int .i64 32, .int .i64 3, .string ⟨#[120, 111, 114]⟩, .slice none 0 0, .slice p 1 1, .int .i64 10, .int .i64 3, .int .i64 0, .int .i64 30]] x (QA x 10) := by
  have k := check_any aw1 (.slice none 0 0) (.slice p 1 1) x aw1_i ⟨p, 1, rfl⟩ (.inl ⟨none, 0, rfl, rfl⟩)
  rw [aw1_ck] at k
  exact k
def awA (n : Nat) (e : Int) : Array Value := #[.string ⟨#[97]⟩, .int .i64 2, .int .i64 e, .int .i64 32, .int .i64 3, .string ⟨#[120, 111, 114]⟩, .slice none 0 0, .slice (some ⟨n, 0, none⟩) 1 1, .int .i64 10, .int .i64 3, .int .i64 0, .int .i64 30]
set_option maxRecDepth 100000 in
set_option maxHeartbeats 8000000 in
theorem awake9 (w : World) : Calls Try.prog 6 #[] w fun e w' => e = .returned (.bool true) ∧ Below w.heap.size w w' := by
  have k0 : Hid (∀ x, Calls Try.prog 9 #[.agg #[.string ⟨#[97]⟩, .int .i64 2, .int .i64 27, .int .i64 32, .int .i64 3, .string ⟨#[120, 111, 114]⟩, .slice none 0 0, .slice (some ⟨w.heap.size, 0, none⟩) 1 1, .int .i64 10, .int .i64 3, .int .i64 0, .int .i64 30]] x (QA x 0)) := fun x => awc0 _ x
  have k1 : Hid (∀ x, Calls Try.prog 9 #[.agg #[.string ⟨#[97]⟩, .int .i64 2, .int .i64 2, .int .i64 32, .int .i64 3, .string ⟨#[120, 111, 114]⟩, .slice none 0 0, .slice (some ⟨w.heap.size, 0, none⟩) 1 1, .int .i64 10, .int .i64 3, .int .i64 0, .int .i64 30]] x (QA x 10)) := fun x => awc1 _ x
  have B0 : Hid (Below w.heap.size w ((w.alloc (.cells #[.int .u8 5] 5)).alloc (.cells #[.string ⟨#[97]⟩, .int .i64 2, .int .i64 27, .int .i64 32, .int .i64 3, .string ⟨#[120, 111, 114]⟩, .slice none 0 0, .slice (some ⟨w.heap.size, 0, none⟩) 1 1, .int .i64 10, .int .i64 3, .int .i64 0, .int .i64 30] 34))) := ((Below.refl _ _).alloc (Nat.le_refl _) _).alloc (by rw [World.size_alloc]; omega) _
  have C0 : Hid (((w.alloc (.cells #[.int .u8 5] 5)).alloc (.cells #[.string ⟨#[97]⟩, .int .i64 2, .int .i64 27, .int .i64 32, .int .i64 3, .string ⟨#[120, 111, 114]⟩, .slice none 0 0, .slice (some ⟨w.heap.size, 0, none⟩) 1 1, .int .i64 10, .int .i64 3, .int .i64 0, .int .i64 30] 34)).heap[w.heap.size + 1]? = some (.cells (awA w.heap.size 27) 34 (0, 0))) := by
    have k := World.alloc_heap_new (w.alloc (.cells #[.int .u8 5] 5)) (.cells (awA w.heap.size 27) 34)
    rw [World.size_alloc] at k
    exact k
  go_enter Try.func6, Try.ntmps6
  go_wp2_with fail
  refine (k0.out _).mono ?_
  rintro e y ⟨rfl, hb⟩
  have B1 : Hid (Below w.heap.size w y) := B0.out.trans (hb.mono B0.out.size)
  have cz := rd_cell ((hb.block _ (Array.getElem?_eq_some_iff.1 C0.out).1).trans C0.out)
  clear hb B0 C0 k0
  obtain ⟨c0, m0⟩ := cz 0
  obtain ⟨c1, m1⟩ := cz 1
  obtain ⟨c2, m2⟩ := cz 2
  obtain ⟨c3, m3⟩ := cz 3
  obtain ⟨c4, m4⟩ := cz 4
  obtain ⟨c5, m5⟩ := cz 5
  obtain ⟨c6, m6⟩ := cz 6
  obtain ⟨c7, m7⟩ := cz 7
  obtain ⟨c8, m8⟩ := cz 8
  obtain ⟨c9, m9⟩ := cz 9
  obtain ⟨c10, m10⟩ := cz 10
  obtain ⟨c11, m11⟩ := cz 11
  unfold awA at c0 c1 c2 c3 c4 c5 c6 c7 c8 c9 c10 c11
  simp only [List.getElem?_toArray, List.getElem?_cons_zero, List.getElem?_cons_succ] at c0 c1 c2 c3 c4 c5 c6 c7 c8 c9 c10 c11
  clear cz m0 m1 m3 m4 m5 m6 m7 m8 m9 m10 m11
  go_wp2_with fail
  refine (k1.out _).mono ?_
  rintro e z ⟨rfl, hb⟩
  have B2 : Hid (Below w.heap.size w z) := by
    have b2 : Below w.heap.size w (y.setCell ⟨w.heap.size + 1, 2, none⟩ (.int .i64 2)) := Below.setCell B1.out (by show w.heap.size ≤ w.heap.size + 1; omega) _
    exact b2.trans (hb.mono b2.size)
  clear hb B1 k1 c0 c1 c2 c3 c4 c5 c6 c7 c8 c9 c10 c11 m2
  go_wp2
  go_ret
  exact ⟨rfl, B2.out⟩
end Go.Proofs.Ytllkkgcfhphgmaa
