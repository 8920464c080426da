/-
  The law on numbers, bytes and names of words (layer 7), out of contracts. Conditions: as each says.
-/
import Derived.Laws.BytesArg
import Derived.Test.YteemaofajcbniaaDoorLexWord2
import Derived.Test.YteemaofajcbniaaDoorLexCon
namespace Go.Proofs.YteemaofajcbniaaDoor
open Go.RowKit
set_option linter.unusedVariables false

/-- what is asked of the program's own Number, Hex and Name -/
def NumP : Prop := ∀ (s : ByteArray) (lo hi : Int) (w : World), (s.size : Int) ≤ 300 → (-9223372036854775808 ≤ lo ∧ lo ≤ 9223372036854775807) → (-9223372036854775808 ≤ hi ∧ hi ≤ 9223372036854775807) → Calls Tryd.prog 11 #[.string s, .int .i64 lo, .int .i64 hi] w fun e w' => e = .returned (.tuple #[.int .i64 (numV s.data.toList lo hi), .bool (numB s.data.toList lo hi)]) ∧ Below w.heap.size w w'
def HexP : Prop := ∀ (s : ByteArray) (w : World), (s.size : Int) ≤ 300 → Calls Tryd.prog 13 #[.string s] w fun e w' => ∃ v, e = .returned (.tuple #[v, .bool (hexR s.data.toList).isSome]) ∧ BytesAt w' v ((hexR s.data.toList).getD []) ∧ Below w.heap.size w w'
def NameP : Prop := ∀ (s : ByteArray) (w : World), (s.size : Int) ≤ 300 → Calls Tryd.prog 15 #[.string s] w fun e w' => e = .returned (.bool (nameB s.data.toList)) ∧ Below w.heap.size w w'
def NuC (f : FuncId) (s : ByteArray) (lo hi V : Int) (B : Bool) : Prop := ∀ x, Calls Tryd.prog f #[.string s, .int .i64 lo, .int .i64 hi] x fun e w' => e = .returned (.tuple #[.int .i64 V, .bool B]) ∧ Below x.heap.size x w'
def HeC (f : FuncId) (s : ByteArray) (B : Bool) (bs : List Nat) : Prop := ∀ x, Calls Tryd.prog f #[.string s] x fun e w' => ∃ v, e = .returned (.tuple #[v, .bool B]) ∧ BytesAt w' v bs ∧ Below x.heap.size x w'
def NaC (f : FuncId) (s : ByteArray) (B : Bool) : Prop := ∀ x, Calls Tryd.prog f #[.string s] x fun e w' => e = .returned (.bool B) ∧ Below x.heap.size x w'
theorem same_w {f : FuncId} {args : Array Value} {x : World} {v : Value} (h : Calls Tryd.prog f args x fun e w' => e = .returned v ∧ w' = x) : Calls Tryd.prog f args x fun e w' => e = .returned v ∧ Below x.heap.size x w' :=
  h.mono fun _ _ ⟨a, b⟩ => ⟨a, by rw [b]; exact Below.refl _ _⟩

set_option maxRecDepth 100000 in
set_option maxHeartbeats 4000000 in
theorem lwords_true (w : World) (s : ByteArray) (hs : (s.size : Int) ≤ 200) (lo hi V : Int) (R : Bool) (bs : List Nat) (M : Bool) (aw : AwC7 w) (c1 : NuC 11 s lo hi V true) (c2 : NuC 12 s lo hi V true) (c3 : HeC 13 s R bs) (c4 : HeC 14 s R bs) (c5 : NaC 15 s M) (c6 : NaC 16 s M) :
    Calls Tryd.prog 4 #[.string s, .int .i64 lo, .int .i64 hi] w fun e w' => e = .returned (.bool true) ∧ Below w.heap.size w w' := by
  go_enter Tryd.func4, Tryd.ntmps4
  go_wp2_with fail
  refine (aw _ (Below.refl _ _)).mono ?_
  rintro e w1 ⟨rfl, hb⟩
  have B : Hid (Below w.heap.size w w1) := hb
  clear hb aw
  go_wp2_with fail
  refine (c1 _).mono ?_
  rintro e w2 ⟨rfl, hb⟩
  replace B : Hid (Below w.heap.size w w2) := belowT B.out hb
  clear hb c1
  go_wp2_with fail
  refine (c2 _).mono ?_
  rintro e w3 ⟨rfl, hb⟩
  replace B : Hid (Below w.heap.size w w3) := belowT B.out hb
  clear hb c2
  go_wp2_with fail
  refine (c3 _).mono ?_
  rintro e w4 ⟨v1, rfl, h1, hb⟩
  replace B : Hid (Below w.heap.size w w4) := belowT B.out hb
  have R1 : Hid (BytesAt w4 v1 bs) := h1
  clear hb c3 h1
  go_wp2_with fail
  refine (c4 _).mono ?_
  rintro e w5 ⟨v2, rfl, h2, hb⟩
  replace B : Hid (Below w.heap.size w w5) := belowT B.out hb
  replace R1 : Hid (BytesAt w5 v1 bs) := R1.out.below hb
  have R2 : Hid (BytesAt w5 v2 bs) := h2
  clear hb c4 h2
  have k1 := conv_at R1.out
  have k2 := conv_at R2.out
  clear R1 R2
  generalize strOf bs = S at *
  go_wp2_with fail
  refine (c5 _).mono ?_
  rintro e w6 ⟨rfl, hb⟩
  replace B : Hid (Below w.heap.size w w6) := belowT B.out hb
  clear hb c5 k1 k2
  go_wp2_with fail
  refine (c6 _).mono ?_
  rintro e w7 ⟨rfl, hb⟩
  replace B : Hid (Below w.heap.size w w7) := belowT B.out hb
  clear hb c6
  go_wp2
  go_ret
  exact ⟨rfl, B.out⟩

set_option maxRecDepth 100000 in
set_option maxHeartbeats 4000000 in
theorem lwords_false (w : World) (s : ByteArray) (hs : (s.size : Int) ≤ 200) (lo hi V : Int) (R : Bool) (bs : List Nat) (M : Bool) (aw : AwC7 w) (c1 : NuC 11 s lo hi V false) (c2 : NuC 12 s lo hi V false) (c3 : HeC 13 s R bs) (c4 : HeC 14 s R bs) (c5 : NaC 15 s M) (c6 : NaC 16 s M) :
    Calls Tryd.prog 4 #[.string s, .int .i64 lo, .int .i64 hi] w fun e w' => e = .returned (.bool true) ∧ Below w.heap.size w w' := by
  go_enter Tryd.func4, Tryd.ntmps4
  go_wp2_with fail
  refine (aw _ (Below.refl _ _)).mono ?_
  rintro e w1 ⟨rfl, hb⟩
  have B : Hid (Below w.heap.size w w1) := hb
  clear hb aw
  go_wp2_with fail
  refine (c1 _).mono ?_
  rintro e w2 ⟨rfl, hb⟩
  replace B : Hid (Below w.heap.size w w2) := belowT B.out hb
  clear hb c1
  go_wp2_with fail
  refine (c2 _).mono ?_
  rintro e w3 ⟨rfl, hb⟩
  replace B : Hid (Below w.heap.size w w3) := belowT B.out hb
  clear hb c2
  go_wp2_with fail
  refine (c3 _).mono ?_
  rintro e w4 ⟨v1, rfl, h1, hb⟩
  replace B : Hid (Below w.heap.size w w4) := belowT B.out hb
  have R1 : Hid (BytesAt w4 v1 bs) := h1
  clear hb c3 h1
  go_wp2_with fail
  refine (c4 _).mono ?_
  rintro e w5 ⟨v2, rfl, h2, hb⟩
  replace B : Hid (Below w.heap.size w w5) := belowT B.out hb
  replace R1 : Hid (BytesAt w5 v1 bs) := R1.out.below hb
  have R2 : Hid (BytesAt w5 v2 bs) := h2
  clear hb c4 h2
  have k1 := conv_at R1.out
  have k2 := conv_at R2.out
  clear R1 R2
  generalize strOf bs = S at *
  go_wp2_with fail
  refine (c5 _).mono ?_
  rintro e w6 ⟨rfl, hb⟩
  replace B : Hid (Below w.heap.size w w6) := belowT B.out hb
  clear hb c5 k1 k2
  go_wp2_with fail
  refine (c6 _).mono ?_
  rintro e w7 ⟨rfl, hb⟩
  replace B : Hid (Below w.heap.size w w7) := belowT B.out hb
  clear hb c6
  go_wp2
  go_ret
  exact ⟨rfl, B.out⟩

set_option maxRecDepth 100000 in
set_option maxHeartbeats 4000000 in
theorem lwords_long (w : World) (s : ByteArray) (hs : 200 < (s.size : Int)) (lo hi : Int) (aw : AwC7 w) :
    Calls Tryd.prog 4 #[.string s, .int .i64 lo, .int .i64 hi] w fun e w' => e = .returned (.bool true) ∧ Below w.heap.size w w' := by
  go_enter Tryd.func4, Tryd.ntmps4
  go_wp2_with fail
  refine (aw _ (Below.refl _ _)).mono ?_
  rintro e w1 ⟨rfl, hb⟩
  have B : Hid (Below w.heap.size w w1) := hb
  clear hb
  go_wp2_with fail
  refine (aw _ B.out).mono ?_
  rintro e w2 ⟨rfl, hb⟩
  replace B : Hid (Below w.heap.size w w2) := belowT B.out hb
  clear hb
  go_wp2
  go_ret
  exact ⟨rfl, B.out⟩

/-- the law, out of the contracts -/
theorem lwords_any (h : RowsP) (hN : NumP) (hH : HexP) (hM : NameP) (w : World) (T : Tab7 w) (s : ByteArray) (lo : Int) (hlo : -9223372036854775808 ≤ lo ∧ lo ≤ 9223372036854775807) (hi : Int) (hhi : -9223372036854775808 ≤ hi ∧ hi ≤ 9223372036854775807) :
    Calls Tryd.prog 4 #[.string s, .int .i64 lo, .int .i64 hi] w fun e w' => e = .returned (.bool true) ∧ Below w.heap.size w w' := by
  have aw := awake7 h T
  by_cases hs : (s.size : Int) ≤ 200
  · have hm : s.size ≤ maxLen := by unfold maxLen; omega
    have c1 : NuC 11 s lo hi _ _ := fun x => hN s lo hi x (by omega) hlo hhi
    have c2 : NuC 12 s lo hi _ _ := fun x => same_w (rnum_any s x hm lo hi)
    have c3 : HeC 13 s _ _ := fun x => hH s x (by omega)
    have c4 : HeC 14 s _ _ := fun x => rhex_any s x (by omega)
    have c5 : NaC 15 s _ := fun x => hM s x (by omega)
    have c6 : NaC 16 s _ := fun x => same_w (rname_any s x)
    generalize numB s.data.toList lo hi = B at *
    cases B
    · exact lwords_false w s hs lo hi _ _ _ _ aw c1 c2 c3 c4 c5 c6
    · exact lwords_true w s hs lo hi _ _ _ _ aw c1 c2 c3 c4 c5 c6
  · exact lwords_long w s (by omega) lo hi aw
end Go.Proofs.YteemaofajcbniaaDoor
