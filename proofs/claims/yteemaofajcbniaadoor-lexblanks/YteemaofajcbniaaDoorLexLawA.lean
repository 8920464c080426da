/-
  The ways through the law on a text's lines (layer 7), out of the contract. Conditions: as each says.
-/
import Derived.Test.YteemaofajcbniaaDoorLexCon
namespace Go.Proofs.YteemaofajcbniaaDoor
open Go.RowKit
set_option linter.unusedVariables false

set_option maxRecDepth 100000 in
set_option maxHeartbeats 4000000 in
theorem lrows_main (w : World) (s : ByteArray) (hs : (s.size : Int) ≤ 4100) (N E : Int) (rs : List Ln) (aw : AwC7 w) (cR : RoC w s N E rs) (cr : rRoC s N E rs) (cs : SaC true rs rs) :
    Calls Tryd.prog 3 #[.string s] w fun e w' => e = .returned (.bool true) ∧ Below w.heap.size w w' := by
  go_enter Tryd.func3, Tryd.ntmps3
  go_wp2_with fail
  refine (aw _ (Below.refl _ _)).mono ?_
  rintro e w1 ⟨rfl, hb⟩
  have B : Hid (Below w.heap.size w w1) := hb
  clear hb aw
  go_wp2_with fail
  refine (cR _ B.out).mono ?_
  rintro e w2 ⟨v1, rfl, h1, hb⟩
  replace B : Hid (Below w.heap.size w w2) := belowT B.out hb
  have R1 : Hid (RowsAt w2 v1 rs) := h1
  clear hb cR h1
  go_wp2_with fail
  refine (cr _).mono ?_
  rintro e w3 ⟨v2, rfl, h2, hb⟩
  replace B : Hid (Below w.heap.size w w3) := belowT B.out hb
  replace R1 : Hid (RowsAt w3 v1 rs) := R1.out.below hb
  have R2 : Hid (RowsAt w3 v2 rs) := h2
  clear hb cr h2
  go_wp2_with fail
  refine (cs _ _ _ R1.out R2.out).mono ?_
  rintro e w4 ⟨rfl, hb⟩
  replace B : Hid (Below w.heap.size w w4) := belowT B.out hb
  clear hb cs R1 R2
  go_wp2
  go_ret
  exact ⟨rfl, B.out⟩

set_option maxRecDepth 100000 in
set_option maxHeartbeats 4000000 in
theorem lrows_long (w : World) (s : ByteArray) (hs : 4100 < (s.size : Int)) (aw : AwC7 w) :
    Calls Tryd.prog 3 #[.string s] w fun e w' => e = .returned (.bool true) ∧ Below w.heap.size w w' := by
  go_enter Tryd.func3, Tryd.ntmps3
  go_wp2_with fail
  refine (aw _ (Below.refl _ _)).mono ?_
  rintro e w1 ⟨rfl, hb⟩
  have B : Hid (Below w.heap.size w w1) := hb
  clear hb
  go_wp2_with fail
  refine (aw _ B.out).mono ?_
  rintro e w2 ⟨rfl, hb⟩
  replace B : Hid (Below w.heap.size w w2) := belowT B.out hb
  clear hb
  go_wp2
  go_ret
  exact ⟨rfl, B.out⟩

/-- the law, out of the contract -/
theorem lrows_any (h : RowsP) (w : World) (T : Tab7 w) (s : ByteArray) : Calls Tryd.prog 3 #[.string s] w fun e w' => e = .returned (.bool true) ∧ Below w.heap.size w w' := by
  have aw := awake7 h T
  by_cases hs : (s.size : Int) ≤ 4100
  · obtain ⟨l1, l2⟩ := lex_len s.data.toList
    exact lrows_main w s hs _ _ _ aw (fun x hx => h s x (T.below hx)) (fun x => rrows_any s x) (saC (by omega) (fun r hr => by have := l2 r hr; omega) (alike_self _ _) (lex_rok _) (lex_rok _))
  · exact lrows_long w s (by omega) aw
end Go.Proofs.YteemaofajcbniaaDoor
