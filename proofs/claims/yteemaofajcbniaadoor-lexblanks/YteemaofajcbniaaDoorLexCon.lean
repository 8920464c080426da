/-
  What is asked of the program's own Rows (layer 7), as a contract; what the laws make of it. The contract itself is proved elsewhere.
-/
import Derived.Test.YteemaofajcbniaaDoorLexRefA
import Derived.Test.YteemaofajcbniaaDoorLexSame
import Derived.Test.YteemaofajcbniaaDoorLexTab
namespace Go.Proofs.YteemaofajcbniaaDoor
open Go.RowKit
set_option linter.unusedVariables false

def RowsP : Prop := ∀ (s : ByteArray) (w : World), Tab7 w → Calls Tryd.prog 8 #[.string s] w fun e w' => ∃ v, e = .returned (.tuple #[v, .int .i64 ((lexLine s.data.toList : Nat) : Int), .int .i64 ((lexErr s.data.toList : Nat) : Int)]) ∧ RowsAt w' v (lexRows s.data.toList) ∧ Below w.heap.size w w'
def AwC7 (w : World) : Prop := ∀ x, Below w.heap.size w x → Calls Tryd.prog 7 #[] x fun e w' => e = .returned (.bool true) ∧ Below x.heap.size x w'
def RoC (w : World) (s : ByteArray) (L E : Int) (rs : List Ln) : Prop := ∀ x, Below w.heap.size w x → Calls Tryd.prog 8 #[.string s] x fun e w' => ∃ v, e = .returned (.tuple #[v, .int .i64 L, .int .i64 E]) ∧ RowsAt w' v rs ∧ Below x.heap.size x w'
def rRoC (s : ByteArray) (L E : Int) (rs : List Ln) : Prop := ∀ x, Calls Tryd.prog 9 #[.string s] x fun e w' => ∃ v, e = .returned (.tuple #[v, .int .i64 L, .int .i64 E]) ∧ RowsAt w' v rs ∧ Below x.heap.size x w'
def SaC (b : Bool) (rs1 rs2 : List Ln) : Prop := ∀ x v1 v2, RowsAt x v1 rs1 → RowsAt x v2 rs2 → Calls Tryd.prog 10 #[v1, v2, .bool b] x fun e w' => e = .returned (.int .i64 1) ∧ Below x.heap.size x w'
theorem lex_rok (s : List UInt8) : RowsOk (lexRows s) := fun r hr => ((lex_ok s).2 r hr).1
theorem alike_self (b : Bool) (rs : List Ln) : AlikeR b rs rs := ⟨rfl, fun i h1 h2 => ⟨rfl, fun _ => rfl⟩⟩
theorem saC {b : Bool} {rs1 rs2 : List Ln} (hn : (rs1.length : Int) ≤ 4100) (hm : ∀ r ∈ rs1, (r.2.length : Int) ≤ 4100) (ha : AlikeR b rs1 rs2) (ok1 : RowsOk rs1) (ok2 : RowsOk rs2) : SaC b rs1 rs2 :=
  fun x v1 v2 h1 h2 => same_any b x v1 v2 rs1 rs2 h1 h2 hn hm ha ok1 ok2

set_option maxRecDepth 100000 in
set_option maxHeartbeats 4000000 in
theorem awake7 (h : RowsP) {w0 : World} (T : Tab7 w0) : AwC7 w0 := fun w h0 => by
  have T1 := T.below h0
  clear T h0
  have f : Hid (Calls Tryd.prog 8 #[.string ⟨#[97, 32, 98, 10, 35, 32, 99]⟩] w fun e w' => ∃ g o cap gu ou cu, e = .returned (.tuple #[.slice (some ⟨g, o, none⟩) 1 cap, .int .i64 0, .int .i64 0]) ∧ (w'.cell? ⟨g, o + 1, none⟩ = some (.slice (some ⟨gu, ou, none⟩) 2 cu)) ∧ Below w.heap.size w w') := by
    refine (h ⟨#[97, 32, 98, 10, 35, 32, 99]⟩ w T1).mono ?_
    rintro e w' ⟨v, rfl, hr, hb⟩
    have e1 : lexRows [97, 32, 98, 10, 35, 32, 99] = [(1, [[97], [98]])] := by kernel_rfl
    have hr2 : RowsAt w' v [(1, [[97], [98]])] := by rw [← e1]; exact hr
    rcases hr2 with ⟨_, k⟩ | ⟨g, o, cap, rfl, r, _⟩
    · cases k
    · obtain ⟨gu, ou, cu, c0, c1, _⟩ := row_cells r (fun r hr => by rw [List.mem_singleton.1 hr]; simp) (i := 0) (by simp)
      refine ⟨g, o, cap, gu, ou, cu, ?_, ?_, hb⟩
      · have e2 : lexLine [97, 32, 98, 10, 35, 32, 99] = 0 := by kernel_rfl
        have e3 : lexErr [97, 32, 98, 10, 35, 32, 99] = 0 := by kernel_rfl
        show Ending.returned (.tuple #[_, .int .i64 ((lexLine [97, 32, 98, 10, 35, 32, 99] : Nat) : Int), .int .i64 ((lexErr [97, 32, 98, 10, 35, 32, 99] : Nat) : Int)]) = _
        rw [e2, e3]
        rfl
      · simpa using c1
  clear h T1
  go_enter Tryd.func7, Tryd.ntmps7
  go_wp2_with fail
  refine f.out.mono ?_
  rintro e w1 ⟨g, o, cap, gu, ou, cu, rfl, c1, hb⟩
  have B : Hid (Below w.heap.size w w1) := hb
  clear hb f
  go_wp2
  go_ret
  exact ⟨rfl, B.out⟩
end Go.Proofs.YteemaofajcbniaaDoor
