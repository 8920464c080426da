/-
  Bytes as texts, and the contracts in the form in which the law on endings calls them (layer 5). No conditions but those that each says.
-/
import Derived.Laws.BytesArg
import Derived.Lib.QuietBelow
import Derived.BigQuiet
import Derived.Test.YtoocppfdcalmfaaSumSizesA
namespace Go.Proofs.Ytoocppfdcalmfaa
open Go.RowKit
set_option linter.unusedVariables false

/-- bytes as a text -/
def strOf (bs : List Nat) : ByteArray := strOfNums (bs.map fun (n : Nat) => (n : Int))
theorem conv_at {x : World} {v : Value} {bs : List Nat} (h : BytesAt x v bs) : (convert 22 9 v).run Try.prog x = .ok (.string (strOf bs)) x := by
  rcases h with ⟨rfl, rfl⟩ | ⟨g, o, cap, rfl, hi, _⟩
  · exact run_convert_bytes_nil x 22 5 Try.underlying22 Try.underlying5 0 0 9 Try.underlying9
  · refine run_convert_bytes_arg x 22 5 Try.underlying22 Try.underlying5 g o bs.length cap (bs.map fun (n : Nat) => (n : Int)) (by simp) ?_ 9 Try.underlying9
    intro i hl
    rw [hi i hl]
    simp [List.getD_eq_getElem?_getD, List.getElem?_map, List.getElem?_eq_getElem hl]
theorem strOf_inj {a b : List Nat} (ha : AllBytes a) (hb : AllBytes b) (h : strOf a = strOf b) : a = b := by
  have e : (strOf a).data.toList.map UInt8.toNat = (strOf b).data.toList.map UInt8.toNat := by rw [h]
  have key : ∀ l : List Nat, AllBytes l → (strOf l).data.toList.map UInt8.toNat = l := by
    intro l hl
    unfold strOf
    rw [strOfNums_data, List.map_map, List.map_map]
    have : ∀ n ∈ l, ((UInt8.toNat ∘ fun n : Int => UInt8.ofNat n.toNat) ∘ fun (n : Nat) => (n : Int)) n = n := by
      intro n hn
      have := hl n hn
      simp [UInt8.toNat_ofNat']
      omega
    rw [List.map_congr_left this, List.map_id']
  rw [key a ha, key b hb] at e
  exact e
theorem str_eq {a b : List Nat} (ha : AllBytes a) (hb : AllBytes b) : ((strOf a).toList == (strOf b).toList) = decide (b = a) := by
  rw [txt_eq, Bool.eq_iff_iff, decide_eq_true_iff, decide_eq_true_iff]
  exact ⟨fun h => (strOf_inj ha hb h).symm, fun h => by rw [h]⟩
/-- contracts -/
def RfAt (w : World) (nm : ByteArray) (v : Value) (E : List Nat) : Prop := ∀ x, Below w.heap.size w x → Calls Try.prog 10 #[.string nm, v] x fun e w' => ∃ y, e = .returned (.tuple #[y, .bool true]) ∧ BytesAt w' y E ∧ Below x.heap.size x w'
def GdAt (w : World) (nm : ByteArray) (v u : Value) (R : Bool) : Prop := ∀ x, Below w.heap.size w x → Calls Try.prog 11 #[.string nm, v, u] x fun e w' => e = .returned (.bool R) ∧ Below x.heap.size x w'
def GdW (w : World) (nm : ByteArray) (v : Value) (E : List Nat) : Prop := ∀ x u, Below w.heap.size w x → BytesAt x u E → Calls Try.prog 11 #[.string nm, v, u] x fun e w' => e = .returned (.bool true) ∧ Below x.heap.size x w'
def OfNo (w : World) (nm : ByteArray) (v : Value) : Prop := ∀ x, Below w.heap.size w x → Calls Try.prog 8 #[.string nm, v] x fun e w' => ∃ y, e = .returned (.tuple #[y, .int .i64 4]) ∧ (y = .slice none 0 0 ∨ ∃ g o cap, y = .slice (some ⟨g, o, none⟩) 0 cap) ∧ Below x.heap.size x w'
def SzNo (nm : ByteArray) : Prop := ∀ x, Calls Try.prog 9 #[.string nm] x fun e w' => e = .returned (.tuple #[.int .i64 0, .bool false]) ∧ Below x.heap.size x w'
def RfNo (w : World) (nm : ByteArray) (v : Value) : Prop := ∀ x, Below w.heap.size w x → Calls Try.prog 10 #[.string nm, v] x fun e w' => e = .returned (.tuple #[.slice none 0 0, .bool false]) ∧ Below x.heap.size x w'
theorem name_size {k : Nat} (h : k < 9) : ((nameN k).size : Int) ≤ 50 := by
  match k, h with
  | 0, _ => decide
  | 1, _ => decide
  | 2, _ => decide
  | 3, _ => decide
  | 4, _ => decide
  | 5, _ => decide
  | 6, _ => decide
  | 7, _ => decide
  | 8, _ => decide
end Go.Proofs.Ytoocppfdcalmfaa
