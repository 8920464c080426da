/-
  What the statements on units share: the document's example holds, and what a conversion answers are numbers of 64 bits. Conditions: as each says.
-/
import Derived.Test.YtbojdlagacanoaaUnConv
import Derived.Test.YtbojdlagacanoaaUnMath
import Derived.Test.YtbojdlagacanoaaRatO
import Derived.Test.YtbojdlagacanoaaRatR
import Derived.Test.YtbojdlagacanoaaLawKit3
namespace Go.Proofs.Ytbojdlagacanoaa
open Go.RowKit
set_option linter.unusedVariables false

theorem aw3 : cvT 212 1 ⟨#[102]⟩ ⟨#[99]⟩ = (100, 1, 0) := by decide +kernel

set_option maxHeartbeats 1000000 in
theorem awake3_any (w : World) : Calls Try.prog 8 #[] w fun e w' => e = .returned (.bool true) ∧ Below w.heap.size w w' := by
  have f : Hid (∀ w, Calls Try.prog 14 #[rv 212 1, .string ⟨#[102]⟩, .string ⟨#[99]⟩] w fun e w' => e = .returned (.tuple #[rv 100 1, .int .i64 0]) ∧ Below w.heap.size w w') := fun w => by
    have := conv_any 212 1 ⟨#[102]⟩ ⟨#[99]⟩ w ⟨by decide, by decide⟩ ⟨by decide, by decide⟩
    rwa [aw3] at this
  go_enter Try.func8, Try.ntmps8
  go_wp2_with fail
  refine (f.out _).mono ?_
  rintro e w1 ⟨rfl, hb⟩
  have HB : Hid (Below w.heap.size w w1) := hb
  clear hb f
  go_wp2
  go_ret
  exact ⟨rfl, HB.out.alloc HB.out.size _⟩

def bd3 (r : Int × Int × Int) : Prop := I64 r.1 ∧ I64 r.2.1
theorem stM_bd {r : Int × Int × Int} (a b : Int) (h : bd3 r) : bd3 (stM r a b) := by
  unfold stM; split
  · exact mul_bd _ _ _ _
  · exact h
theorem stA_bd {r : Int × Int × Int} (a b : Int) (h : bd3 r) : bd3 (stA r a b) := by
  unfold stA; split
  · exact add_bd _ _ _ _
  · exact h
theorem cv_bd {n d : Int} (a b : ByteArray) (hn : I64 n) (hd : I64 d) : bd3 (cvT n d a b) := by
  have z : I64 0 := ⟨by decide, by decide⟩
  unfold cvT
  split
  · exact ⟨z, z⟩
  split
  · exact ⟨z, z⟩
  split
  · exact ⟨z, z⟩
  split
  · exact ⟨hn, hd⟩
  · exact stM_bd _ _ (stA_bd _ _ (stA_bd _ _ (stM_bd _ _ ⟨hn, hd⟩)))
/-- what is answered, as a contract of three numbers -/
theorem conv3 {n d : Int} {a b : ByteArray} {X Y E : Int} (hn : I64 n) (hd : I64 d) (h : cvT n d a b = (X, Y, E)) (w : World) :
    Calls Try.prog 14 #[rv n d, .string a, .string b] w fun e w' => e = .returned (.tuple #[rv X Y, .int .i64 E]) ∧ Below w.heap.size w w' := by
  have := conv_any n d a b w hn hd
  rwa [h] at this
end Go.Proofs.Ytbojdlagacanoaa
