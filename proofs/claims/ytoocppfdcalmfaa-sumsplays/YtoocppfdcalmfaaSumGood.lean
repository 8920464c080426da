/-
  What the program's own Good returns (layer 5). Conditions: the bytes lie in memory that was there before, at most 300.
-/
import Derived.Test.YtoocppfdcalmfaaSumPlaysK
import Derived.Test.YtoocppfdcalmfaaSumOf
namespace Go.Proofs.Ytoocppfdcalmfaa
open Go.RowKit
set_option linter.unusedVariables false

set_option maxRecDepth 100000 in
set_option maxHeartbeats 2000000 in
theorem equal_any (v u : Value) (bs us : List Nat) (w : World) (h1 : BytesAt w v bs) (h2 : BytesAt w u us) (b1 : AllBytes bs) (b2 : AllBytes us) :
    Calls Try.prog 17 #[v, u] w fun e w' => e = .returned (.bool (decide (us = bs))) ∧ w' = w := by
  have c1 := conv_at h1
  have c2 := conv_at h2
  have e1 := str_eq b1 b2
  clear h1 h2 b1 b2
  generalize decide (us = bs) = r at *
  go_enter Try.func17, Try.ntmps17
  go_wp2
  go_ret
  exact ⟨rfl, rfl⟩

set_option maxRecDepth 100000 in
set_option maxHeartbeats 2000000 in
theorem good_yes : GoodP := fun k v u bs us w hk hv hl hb hu hlu hbu => by
  have f : Hid (Calls Try.prog 8 #[.string (nameN k), v] w fun e w' => ∃ x, e = .returned (.tuple #[x, .int .i64 0]) ∧ BytesAt w' x (endK k bs) ∧ Below w.heap.size w w') := of_yes k v bs w hk hv hl hb
  have he := end_bytes hk hb
  clear hv hl hb hlu
  generalize endK k bs = E at *
  generalize nameN k = nm at *
  obtain ⟨r, hr⟩ : ∃ r, decide (us = E) = r := ⟨_, rfl⟩
  rw [hr]
  go_enter Try.func11, Try.ntmps11
  go_wp2_with fail
  refine f.out.mono ?_
  rintro e w1 ⟨x, rfl, hx, hb1⟩
  have q : Hid (Calls Try.prog 17 #[x, u] w1 fun e w' => e = .returned (.bool r) ∧ w' = w1) := by
    have h := equal_any x u E us w1 hx (hu.below hb1) he hbu
    rwa [hr] at h
  have B : Hid (Below w.heap.size w w1) := hb1
  clear f hx hb1 hu he hbu hr
  go_wp2_with fail
  refine q.out.mono ?_
  rintro e w2 ⟨rfl, rfl⟩
  clear q
  go_wp2
  go_ret
  exact ⟨rfl, B.out⟩

set_option maxRecDepth 100000 in
set_option maxHeartbeats 2000000 in
theorem good_no : GoodN := fun s v u bs us w hs hv hl hb hu hlu hbu => by
  have f : Hid (Calls Try.prog 8 #[.string s, v] w fun e w' => ∃ x, e = .returned (.tuple #[x, .int .i64 4]) ∧ BytesAt w' x [] ∧ Below w.heap.size w w') := of_no s v bs w hs hv hl hb
  clear hs hv hl hb hu hlu hbu
  go_enter Try.func11, Try.ntmps11
  go_wp2_with fail
  refine f.out.mono ?_
  rintro e w1 ⟨x, rfl, hx, hb1⟩
  have B : Hid (Below w.heap.size w w1) := hb1
  clear f hx hb1
  go_wp2
  go_ret
  exact ⟨rfl, B.out⟩
end Go.Proofs.Ytoocppfdcalmfaa
