/-
  What is asked of the program's own Of, Size, Good and Names (layer 5), as contracts; what the laws make of them. The contracts themselves are proved elsewhere.
-/
import Derived.Test.YtoocppfdcalmfaaSumRefC
import Derived.Lib.SlBytesConst
namespace Go.Proofs.Ytoocppfdcalmfaa
open Go.RowKit
set_option linter.unusedVariables false

/-- none of the names -/
def NoName (s : ByteArray) : Prop := ¬ s = e0 ∧ ¬ s = e1 ∧ ¬ s = e2 ∧ ¬ s = e3 ∧ ¬ s = e4 ∧ ¬ s = e5 ∧ ¬ s = e6 ∧ ¬ s = e7 ∧ ¬ s = e8
def OfP : Prop := ∀ (k : Nat) (v : Value) (bs : List Nat) (w : World), k < 9 → BytesAt w v bs → (bs.length : Int) ≤ 300 → AllBytes bs →
  Calls Try.prog 8 #[.string (nameN k), v] w fun e w' => ∃ x, e = .returned (.tuple #[x, .int .i64 0]) ∧ BytesAt w' x (endK k bs) ∧ Below w.heap.size w w'
def OfN : Prop := ∀ (s : ByteArray) (v : Value) (bs : List Nat) (w : World), NoName s → BytesAt w v bs → (bs.length : Int) ≤ 300 → AllBytes bs →
  Calls Try.prog 8 #[.string s, v] w fun e w' => ∃ x, e = .returned (.tuple #[x, .int .i64 4]) ∧ BytesAt w' x [] ∧ Below w.heap.size w w'
def SizeP : Prop := ∀ (k : Nat) (w : World), k < 9 → Calls Try.prog 9 #[.string (nameN k)] w fun e w' => e = .returned (.tuple #[.int .i64 ((sizeK k : Nat) : Int), .bool true]) ∧ Below w.heap.size w w'
def SizeN : Prop := ∀ (s : ByteArray) (w : World), NoName s → Calls Try.prog 9 #[.string s] w fun e w' => e = .returned (.tuple #[.int .i64 0, .bool false]) ∧ Below w.heap.size w w'
def GoodP : Prop := ∀ (k : Nat) (v u : Value) (bs us : List Nat) (w : World), k < 9 → BytesAt w v bs → (bs.length : Int) ≤ 300 → AllBytes bs → BytesAt w u us → (us.length : Int) ≤ 300 → AllBytes us →
  Calls Try.prog 11 #[.string (nameN k), v, u] w fun e w' => e = .returned (.bool (decide (us = endK k bs))) ∧ Below w.heap.size w w'
def GoodN : Prop := ∀ (s : ByteArray) (v u : Value) (bs us : List Nat) (w : World), NoName s → BytesAt w v bs → (bs.length : Int) ≤ 300 → AllBytes bs → BytesAt w u us → (us.length : Int) ≤ 300 → AllBytes us →
  Calls Try.prog 11 #[.string s, v, u] w fun e w' => e = .returned (.bool false) ∧ Below w.heap.size w w'
/-- the nine names, from the start of block g on -/
def NamesIn (x : World) (g : Nat) : Prop := ∀ j, j < 9 → x.cell? ⟨g, j, none⟩ = some (.string (nameN j))
def NamesP : Prop := ∀ (w : World), Calls Try.prog 12 #[] w fun e w' => ∃ g cap, e = .returned (.slice (some ⟨g, 0, none⟩) 9 cap) ∧ NamesIn w' g ∧ g < w'.heap.size ∧ Below w.heap.size w w'

theorem at_row {x : World} {v : Value} {bs : List Nat} (h : BytesAt x v bs) (hl : 0 < bs.length) : ∃ g o cap, v = .slice (some ⟨g, o, none⟩) bs.length cap ∧ BytesIn x g o bs ∧ g < x.heap.size := by
  rcases h with ⟨_, rfl⟩ | h
  · cases hl
  · exact h
theorem NamesIn.below {x y : World} {g : Nat} (h : NamesIn x g) (hg : g < x.heap.size) (hb : Below x.heap.size x y) : NamesIn y g := fun j hj => (hb.cell (p := ⟨g, j, none⟩) hg).trans (h j hj)
/-- bytes that were there before -/
structure ByB (x : World) (g o : Nat) (bs : List Nat) : Prop where
  i : BytesIn x g o bs
  g : g < x.heap.size
theorem ByB.below {x y : World} {g o : Nat} {bs : List Nat} (h : ByB x g o bs) (hb : Below x.heap.size x y) : ByB y g o bs := ⟨fun j hj => h.i.at h.g hb j hj, Nat.lt_of_lt_of_le h.g hb.size⟩
theorem ByB.at {x : World} {g o : Nat} {bs : List Nat} (h : ByB x g o bs) (cap : Nat) : BytesAt x (.slice (some ⟨g, o, none⟩) bs.length cap) bs := .inr ⟨g, o, cap, rfl, h.i, h.g⟩
theorem ByB.cell {x : World} {g o : Nat} {bs : List Nat} (h : ByB x g o bs) (j : Nat) (hj : j < bs.length) : x.cell? ⟨g, o + j, none⟩ = some (.int .u8 (bs[j] : Int)) := h.i j hj

/-! awake -/
def abcde : List Nat := [97, 98, 99, 100, 101]
abbrev abA : Array Value := #[.int .u8 97, .int .u8 98, .int .u8 99, .int .u8 100, .int .u8 101]
theorem ab_bytes : AllBytes abcde := by unfold AllBytes abcde; decide
theorem ab_end : endK 4 abcde = [200, 240] := by kernel_rfl
theorem ab_at (w : World) : BytesAt (w.alloc (.cells abA 5 (5, 6))) (.slice (some ⟨w.heap.size, 0, none⟩) 5 5) abcde := by
  refine .inr ⟨w.heap.size, 0, 5, rfl, ?_, by simp⟩
  have hb : (w.alloc (.cells abA 5 (5, 6))).heap[w.heap.size]? = some (.cells abA 5 (5, 6)) := World.alloc_heap_new w _
  have key : ∀ j (hj : j < abcde.length), abA[j]? = some (.int .u8 ((abcde[j] : Nat) : Int)) := by
    unfold abcde
    intro j hj
    match j, hj with
    | 0, _ => rfl
    | 1, _ => rfl
    | 2, _ => rfl
    | 3, _ => rfl
    | 4, _ => rfl
  intro j hj
  simp only [World.cell?, hb, Nat.zero_add]
  exact key j hj
def AwC5 : Prop := ∀ x, Calls Try.prog 7 #[] x fun e w' => e = .returned (.bool true) ∧ Below x.heap.size x w'
def FleC : Prop := ∀ x, Calls Try.prog 8 #[.string ⟨#[102, 108, 101, 116, 99, 104, 101, 114]⟩, .slice (some ⟨x.heap.size, 0, none⟩) 5 5] (x.alloc (.cells abA 5 (5, 6))) fun e w' => ∃ g o cap, e = .returned (.tuple #[.slice (some ⟨g, o, none⟩) 2 cap, .int .i64 0]) ∧ (w'.cell? ⟨g, o, none⟩ = some (.int .u8 200) ∧ w'.cell? ⟨g, o + 1, none⟩ = some (.int .u8 240)) ∧ Below x.heap.size x w'
theorem fleC (h : OfP) : FleC := fun x => by
  refine (h 4 _ abcde _ (by omega) (ab_at x) (by unfold abcde; simp) ab_bytes).mono ?_
  rintro e w' ⟨y, rfl, hy, hb⟩
  rw [ab_end] at hy
  obtain ⟨g, o, cap, rfl, hi, _⟩ := at_row hy (by simp)
  refine ⟨g, o, cap, rfl, ⟨?_, ?_⟩, ?_⟩
  · exact hi 0 (by simp)
  · exact hi 1 (by simp)
  · exact ⟨hb.os, hb.tape, hb.output, by have := hb.size; simp at this; omega, fun k hk => (hb.block k (by simp; omega)).trans (((Below.refl x.heap.size x).alloc (Nat.le_refl _) _).block k hk)⟩
set_option maxRecDepth 100000 in
set_option maxHeartbeats 2000000 in
theorem awake5 (h : OfP) : AwC5 := fun w => by
  have f := fleC h
  clear h
  have kc := Lib.run_convert_bytes_const (P := Try.prog) w 22 5 abA 5 5 Try.underlying22 Try.underlying5
  simp only [List.size_toArray, List.length_cons, List.length_nil] at kc
  go_enter Try.func7, Try.ntmps7
  go_wp2_with fail
  refine (f _).mono ?_
  rintro e w1 ⟨g, o, cap, rfl, ⟨c0, c1⟩, hb⟩
  have B : Hid (Below w.heap.size w w1) := hb
  clear hb kc
  go_wp2
  go_ret
  exact ⟨rfl, B.out⟩
end Go.Proofs.Ytoocppfdcalmfaa
