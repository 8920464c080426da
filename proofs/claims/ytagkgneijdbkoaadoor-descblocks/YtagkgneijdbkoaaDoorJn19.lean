/-
  Texts that belong together, one behind the other: LexPC. Conditions: as each says.
-/
import Derived.BigQuiet
import Derived.Deep.QuietTactic
import Derived.Handy
import Derived.Laws.Strings3
import Derived.Lib.Bytealg
import Derived.Lib.IndexLaws
import Derived.Lib.Strings
import Derived.Test.YtagkgneijdbkoaaDoorJn13
/-
  What strings.Cut returns of any text at a line end: what stands ahead of the first one and behind it; or the whole and nothing. Condition: the text fits memory.
-/
namespace Go.Proofs.YtagkgneijdbkoaaDoor
open Go.RowKit
set_option linter.unusedVariables false

set_option maxHeartbeats 1000000 in
theorem ibn_any (s : ByteArray) (w : World) :
    Calls Tryd.prog 68 #[.string s, .int .u8 10] w fun e w' => e = .returned (.int .i64 (Lib.indexByte s.data.toList 10)) ∧ w' = w := by
  go_enter Tryd.func68, Tryd.ntmps68
  go_wp2
  rw [run_callFunc_extern Tryd.func75 (by kernel_rfl) (by kernel_rfl) (by kernel_rfl) (e := Extern.BytealgIndexByte.indexByte) (by kernel_rfl), Lib.run_indexByteString]
  simp only [Result.andThen]
  rw [Oper.upon_value]
  go_wp2
  go_ret
  exact ⟨rfl, rfl⟩

set_option maxHeartbeats 2000000 in
theorem indexn_any (s : ByteArray) (w : World) :
    Calls Tryd.prog 61 #[.string s, .string ⟨#[10]⟩] w fun e w' => e = .returned (.int .i64 (Lib.indexByte s.data.toList 10)) ∧ w' = w := by
  go_enter Tryd.func61, Tryd.ntmps61
  go_wp2_with (go_at_call 68; refine (ibn_any _ _).mono ?_; rintro e w' ⟨rfl, rfl⟩)
  · have h : ([10] == s.toList) = true := by assumption
    go_ret
    refine ⟨?_, rfl⟩
    have e : s.data.toList = [10] := by rw [← ByteArray.toList_eq]; exact (beq_iff_eq.1 h).symm
    rw [e]
    rfl
  · go_ret
    exact ⟨rfl, rfl⟩

/-- where the first stroke stands, or that there is none -/
theorem nl_ways (s : ByteArray) : (Lib.indexByte s.data.toList 10 = -1 ∧ (10 : UInt8) ∉ s.data.toList) ∨ ∃ i : Nat, Lib.indexByte s.data.toList 10 = (i : Int) ∧ i + 1 ≤ s.size ∧ s.data.toList[i]? = some 10 ∧ ∀ k, k < i → s.data.toList[k]? ≠ some 10 := by
  have hg := Lib.indexByte_ge s.data.toList 10
  by_cases h : Lib.indexByte s.data.toList 10 = -1
  · left
    refine ⟨h, fun hm => ?_⟩
    obtain ⟨k, hk⟩ := List.mem_iff_getElem?.1 hm
    exact Lib.indexByte_none h k hk
  · right
    refine ⟨(Lib.indexByte s.data.toList 10).toNat, by omega, ?_⟩
    have := Lib.indexByte_some (l := s.data.toList) (c := 10) (o := (Lib.indexByte s.data.toList 10).toNat) (by omega)
    refine ⟨?_, this⟩
    have hl := (List.getElem?_eq_some_iff.1 this.1).1
    have : s.data.toList.length = s.size := by simp
    omega

def lnU (s : ByteArray) : ByteArray := if Lib.indexByte s.data.toList 10 = -1 then s else s.extract 0 (Lib.indexByte s.data.toList 10).toNat
def lnV (s : ByteArray) : ByteArray := if Lib.indexByte s.data.toList 10 = -1 then ByteArray.empty else s.extract ((Lib.indexByte s.data.toList 10).toNat + 1) s.size
def lnB (s : ByteArray) : Bool := !decide (Lib.indexByte s.data.toList 10 = -1)

theorem ret_ssbn {a b c d : ByteArray} {x y : Bool} (h : c = a ∧ d = b ∧ y = x) : Ending.returned (.tuple #[.string a, .string b, .bool x]) = .returned (.tuple #[.string c, .string d, .bool y]) := by rw [h.1, h.2.1, h.2.2]

set_option maxHeartbeats 2000000 in
theorem lcutn_any (s : ByteArray) (w : World) (hs : s.size ≤ maxLen) :
    Calls Tryd.prog 53 #[.string s, .string ⟨#[10]⟩] w fun e w' => e = .returned (.tuple #[.string (lnU s), .string (lnV s), .bool (lnB s)]) ∧ ∃ n, w' = w.drewN n := by
  have f : Hid (∀ w, Calls Tryd.prog 61 #[.string s, .string ⟨#[10]⟩] w fun e w' => e = .returned (.int .i64 (Lib.indexByte s.data.toList 10)) ∧ w' = w) := fun w => indexn_any s w
  unfold maxLen at hs
  rcases nl_ways s with ⟨h, _⟩ | ⟨i, h, hi, _⟩
  · have H : Hid (lnU s = s ∧ lnV s = ByteArray.empty ∧ lnB s = false) := by
      unfold Hid lnU lnV lnB; simp [h]
    rw [h] at f
    clear h
    go_enter Tryd.func53, Tryd.ntmps53
    go_wp2_with fail
    refine (f.out _).mono ?_
    rintro e w' ⟨rfl, rfl⟩
    clear f
    go_wp2
    go_ret3
    exact ⟨ret_ssbn H.out, 0, rfl⟩
  · have H : Hid (lnU s = s.extract 0 i ∧ lnV s = s.extract (i + 1) s.size ∧ lnB s = true) := by
      have h2 : ¬ ((i : Int) = -1) := by omega
      unfold Hid lnU lnV lnB; rw [h]; simp [h2]
    rw [h] at f
    clear h
    have c1 : (0 : Int) ≤ (i : Int) := by omega
    have c2 : (i : Int) ≤ (s.size : Int) := by omega
    have c3 : (0 : Int) ≤ (i : Int) + 1 := by omega
    have c4 : (i : Int) + 1 ≤ (s.size : Int) := by omega
    go_enter Tryd.func53, Tryd.ntmps53
    go_wp2_with fail
    refine (f.out _).mono ?_
    rintro e w' ⟨rfl, rfl⟩
    clear f
    go_wp2
    go_region
    go_wp2
    go_ret3
    exact ⟨ret_ssbn H.out, 1, rfl⟩

set_option maxHeartbeats 1000000 in
theorem scutn_any (s : ByteArray) (w : World) (hs : s.size ≤ maxLen) :
    Calls Tryd.prog 39 #[.string s, .string ⟨#[10]⟩] w fun e w' => e = .returned (.tuple #[.string (lnU s), .string (lnV s), .bool (lnB s)]) ∧ ∃ n, w' = w.drewN n := by
  have f : Hid (∀ w, Calls Tryd.prog 53 #[.string s, .string ⟨#[10]⟩] w fun e w' => e = .returned (.tuple #[.string (lnU s), .string (lnV s), .bool (lnB s)]) ∧ ∃ n, w' = w.drewN n) := fun w => lcutn_any s w hs
  generalize lnU s = u at *
  generalize lnV s = v at *
  generalize lnB s = b at *
  clear hs
  go_enter Tryd.func39, Tryd.ntmps39
  go_wp2_with fail
  refine (f.out _).mono ?_
  rintro e w' ⟨rfl, n, rfl⟩
  clear f
  go_wp2
  go_ret3
  exact ⟨rfl, n, rfl⟩

theorem cutn_sizes (s : ByteArray) : (lnU s).size ≤ s.size ∧ (lnV s).size ≤ s.size := by
  unfold lnU lnV
  split
  · exact ⟨Nat.le_refl _, by simp⟩
  · constructor
    · rw [ByteArray.size_extract]; omega
    · rw [ByteArray.size_extract]; omega
end Go.Proofs.YtagkgneijdbkoaaDoor
