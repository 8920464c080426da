/-
  Texts that belong together, one behind the other: Cuts. Conditions: as each says.
-/
import Derived.BigQuiet
import Derived.Deep.QuietTactic
import Derived.Handy
import Derived.Laws.Strings3
import Derived.Lib.Bytealg
import Derived.Lib.IndexLaws
import Derived.Lib.Strings
import Derived.Test.YtagkgneijdbkoaaDoorJn5
/-
  What strings.Cut returns of any text at a stroke: what stands ahead of the first one and behind it; or the whole and nothing. Condition: the text fits memory.
-/
namespace Go.Proofs.YtagkgneijdbkoaaDoor
open Go.RowKit
set_option linter.unusedVariables false

set_option maxHeartbeats 1000000 in
theorem ib_any (s : ByteArray) (w : World) :
    Calls Tryd.prog 68 #[.string s, .int .u8 47] w fun e w' => e = .returned (.int .i64 (Lib.indexByte s.data.toList 47)) ∧ w' = w := by
  go_enter Tryd.func68, Tryd.ntmps68
  go_wp2
  rw [run_callFunc_extern Tryd.func75 (by kernel_rfl) (by kernel_rfl) (by kernel_rfl) (e := Extern.BytealgIndexByte.indexByte) (by kernel_rfl), Lib.run_indexByteString]
  simp only [Result.andThen]
  rw [Oper.upon_value]
  go_wp2
  go_ret
  exact ⟨rfl, rfl⟩

set_option maxHeartbeats 2000000 in
theorem index_any (s : ByteArray) (w : World) :
    Calls Tryd.prog 61 #[.string s, .string ⟨#[47]⟩] w fun e w' => e = .returned (.int .i64 (Lib.indexByte s.data.toList 47)) ∧ w' = w := by
  go_enter Tryd.func61, Tryd.ntmps61
  go_wp2_with (go_at_call 68; refine (ib_any _ _).mono ?_; rintro e w' ⟨rfl, rfl⟩)
  · have h : ([47] == s.toList) = true := by assumption
    go_ret
    refine ⟨?_, rfl⟩
    have e : s.data.toList = [47] := by rw [← ByteArray.toList_eq]; exact (beq_iff_eq.1 h).symm
    rw [e]
    rfl
  · go_ret
    exact ⟨rfl, rfl⟩

/-- where the first stroke stands, or that there is none -/
theorem stroke_ways (s : ByteArray) : (Lib.indexByte s.data.toList 47 = -1 ∧ (47 : UInt8) ∉ s.data.toList) ∨ ∃ i : Nat, Lib.indexByte s.data.toList 47 = (i : Int) ∧ i + 1 ≤ s.size ∧ s.data.toList[i]? = some 47 ∧ ∀ k, k < i → s.data.toList[k]? ≠ some 47 := by
  have hg := Lib.indexByte_ge s.data.toList 47
  by_cases h : Lib.indexByte s.data.toList 47 = -1
  · left
    refine ⟨h, fun hm => ?_⟩
    obtain ⟨k, hk⟩ := List.mem_iff_getElem?.1 hm
    exact Lib.indexByte_none h k hk
  · right
    refine ⟨(Lib.indexByte s.data.toList 47).toNat, by omega, ?_⟩
    have := Lib.indexByte_some (l := s.data.toList) (c := 47) (o := (Lib.indexByte s.data.toList 47).toNat) (by omega)
    refine ⟨?_, this⟩
    have hl := (List.getElem?_eq_some_iff.1 this.1).1
    have : s.data.toList.length = s.size := by simp
    omega

def cutU (s : ByteArray) : ByteArray := if Lib.indexByte s.data.toList 47 = -1 then s else s.extract 0 (Lib.indexByte s.data.toList 47).toNat
def cutV (s : ByteArray) : ByteArray := if Lib.indexByte s.data.toList 47 = -1 then ByteArray.empty else s.extract ((Lib.indexByte s.data.toList 47).toNat + 1) s.size
def cutB (s : ByteArray) : Bool := !decide (Lib.indexByte s.data.toList 47 = -1)

theorem ret_ssb {a b c d : ByteArray} {x y : Bool} (h : c = a ∧ d = b ∧ y = x) : Ending.returned (.tuple #[.string a, .string b, .bool x]) = .returned (.tuple #[.string c, .string d, .bool y]) := by rw [h.1, h.2.1, h.2.2]

set_option maxHeartbeats 2000000 in
theorem lcut_any (s : ByteArray) (w : World) (hs : s.size ≤ maxLen) :
    Calls Tryd.prog 53 #[.string s, .string ⟨#[47]⟩] w fun e w' => e = .returned (.tuple #[.string (cutU s), .string (cutV s), .bool (cutB s)]) ∧ ∃ n, w' = w.drewN n := by
  have f : Hid (∀ w, Calls Tryd.prog 61 #[.string s, .string ⟨#[47]⟩] w fun e w' => e = .returned (.int .i64 (Lib.indexByte s.data.toList 47)) ∧ w' = w) := fun w => index_any s w
  unfold maxLen at hs
  rcases stroke_ways s with ⟨h, _⟩ | ⟨i, h, hi, _⟩
  · have H : Hid (cutU s = s ∧ cutV s = ByteArray.empty ∧ cutB s = false) := by
      unfold Hid cutU cutV cutB; simp [h]
    rw [h] at f
    clear h
    go_enter Tryd.func53, Tryd.ntmps53
    go_wp2_with fail
    refine (f.out _).mono ?_
    rintro e w' ⟨rfl, rfl⟩
    clear f
    go_wp2
    go_ret3
    exact ⟨ret_ssb H.out, 0, rfl⟩
  · have H : Hid (cutU s = s.extract 0 i ∧ cutV s = s.extract (i + 1) s.size ∧ cutB s = true) := by
      have h2 : ¬ ((i : Int) = -1) := by omega
      unfold Hid cutU cutV cutB; rw [h]; simp [h2]
    rw [h] at f
    clear h
    have c1 : (0 : Int) ≤ (i : Int) := by omega
    have c2 : (i : Int) ≤ (s.size : Int) := by omega
    have c3 : (0 : Int) ≤ (i : Int) + 1 := by omega
    have c4 : (i : Int) + 1 ≤ (s.size : Int) := by omega
    go_enter Tryd.func53, Tryd.ntmps53
    go_wp2_with fail
    refine (f.out _).mono ?_
    rintro e w' ⟨rfl, rfl⟩
    clear f
    go_wp2
    go_region
    go_wp2
    go_ret3
    exact ⟨ret_ssb H.out, 1, rfl⟩

set_option maxHeartbeats 1000000 in
theorem scut_any (s : ByteArray) (w : World) (hs : s.size ≤ maxLen) :
    Calls Tryd.prog 39 #[.string s, .string ⟨#[47]⟩] w fun e w' => e = .returned (.tuple #[.string (cutU s), .string (cutV s), .bool (cutB s)]) ∧ ∃ n, w' = w.drewN n := by
  have f : Hid (∀ w, Calls Tryd.prog 53 #[.string s, .string ⟨#[47]⟩] w fun e w' => e = .returned (.tuple #[.string (cutU s), .string (cutV s), .bool (cutB s)]) ∧ ∃ n, w' = w.drewN n) := fun w => lcut_any s w hs
  generalize cutU s = u at *
  generalize cutV s = v at *
  generalize cutB s = b at *
  clear hs
  go_enter Tryd.func39, Tryd.ntmps39
  go_wp2_with fail
  refine (f.out _).mono ?_
  rintro e w' ⟨rfl, n, rfl⟩
  clear f
  go_wp2
  go_ret3
  exact ⟨rfl, n, rfl⟩

theorem cut_sizes (s : ByteArray) : (cutU s).size ≤ s.size ∧ (cutV s).size ≤ s.size := by
  unfold cutU cutV
  split
  · exact ⟨Nat.le_refl _, by simp⟩
  · constructor
    · rw [ByteArray.size_extract]; omega
    · rw [ByteArray.size_extract]; omega
end Go.Proofs.YtagkgneijdbkoaaDoor
