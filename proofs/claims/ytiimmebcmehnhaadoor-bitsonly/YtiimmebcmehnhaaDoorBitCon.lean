/-
  What is asked of the program's own Right, Ends, Read and Write (layer 6), as contracts; what the laws make of them. The contracts themselves are proved elsewhere.
-/
import Derived.Test.YtiimmebcmehnhaaDoorBitRefD
namespace Go.Proofs.YtiimmebcmehnhaaDoor
open Go.RowKit
set_option linter.unusedVariables false

theorem new_bytesV (w : World) (l : List Nat) (c : Array Value) (hc : c.toList = u8v l) (hm : l.length ≤ maxLen) : BytesV (w.alloc (.cells c 5)) (.slice (some ⟨w.heap.size, 0, none⟩) l.length l.length) l := by
  rcases new_bytes w l c hc with ⟨h, _⟩ | ⟨g, o, cap, h1, h2, h3⟩
  · cases h
  · injection h1 with e1 e2 e3
    injection e1 with e1
    injection e1 with e1 e4
    subst e1; subst e4; subst e3
    exact .inr ⟨_, _, _, rfl, Nat.le_refl _, hm, h2, h3⟩
theorem RowB.v {w : World} {base : Nat} {x : Value} {l : List Nat} (h : RowB w base x l) : BytesV w x l := by
  rcases h.2 with ⟨h1, h2⟩ | ⟨g, cap, cur, h1, h2, h3, h4, h5, _⟩
  · exact .inl ⟨h1, List.length_eq_zero_iff.1 h2⟩
  · refine .inr ⟨g, 0, cap, h1, h4, h5, fun j hj => ?_, (Array.getElem?_eq_some_iff.1 h3).1⟩
    rw [Nat.zero_add]
    subst h1
    rw [World.ownsRow.cellAt h j (by omega), List.getElem?_map, List.getElem?_eq_getElem hj]; rfl
abbrev I64r (n : Int) : Prop := -9223372036854775808 ≤ n ∧ n ≤ 9223372036854775807
def endLo (k : Nat) (n : Int) : Int := if rgtB k n = true then loK k n.toNat else 0
def endHi (k : Nat) (n : Int) : Int := if rgtB k n = true then hiK k n.toNat else 0
def writeC (k : Nat) (n m : Int) : Int := if rgtB k n = true then (if loK k n.toNat ≤ m ∧ m ≤ hiK k n.toNat then 0 else 11) else 1
def writeR (k : Nat) (n m : Int) : List Nat := if rgtB k n = true then (if loK k n.toNat ≤ m ∧ m ≤ hiK k n.toNat then writeL k n.toNat m else []) else []
def RightP : Prop := ∀ (s : ByteArray) (n : Int) (w : World), I64r n → Calls Tryd.prog 11 #[.string s, .int .i64 n] w fun e w' => e = .returned (.bool (rgtB (kindI s) n)) ∧ Below w.heap.size w w'
def EndsP : Prop := ∀ (s : ByteArray) (n : Int) (w : World), I64r n → Calls Tryd.prog 9 #[.string s, .int .i64 n] w fun e w' => e = .returned (.tuple #[.int .i64 (endLo (kindI s) n), .int .i64 (endHi (kindI s) n)]) ∧ Below w.heap.size w w'
def ReadP : Prop := ∀ (s : ByteArray) (v : Value) (bs : List Nat) (w : World), BytesV w v bs → (bs.length : Int) ≤ 300 → AllBytes bs →
  Calls Tryd.prog 8 #[.string s, v] w fun e w' => e = .returned (.tuple #[.int .i64 (readN (kindI s) bs), .int .i64 (readC (kindI s) bs)]) ∧ Below w.heap.size w w'
def WriteP : Prop := ∀ (s : ByteArray) (n m : Int) (w : World), I64r n → I64r m →
  Calls Tryd.prog 14 #[.string s, .int .i64 n, .int .i64 m] w fun e w' => ∃ x, e = .returned (.tuple #[x, .int .i64 (writeC (kindI s) n m)]) ∧ BytesV w' x (writeR (kindI s) n m) ∧ Below w.heap.size w w'
/-! the same, as the laws call them -/
def AwC6 : Prop := ∀ x, Calls Tryd.prog 7 #[] x fun e w' => e = .returned (.bool true) ∧ Below x.heap.size x w'
def RdAt (w : World) (s : ByteArray) (v : Value) (N E : Int) : Prop := ∀ x, Below w.heap.size w x → Calls Tryd.prog 8 #[.string s, v] x fun e w' => e = .returned (.tuple #[.int .i64 N, .int .i64 E]) ∧ Below x.heap.size x w'
def RdOf (s : ByteArray) (bs : List Nat) (N E : Int) : Prop := ∀ x v, BytesV x v bs → Calls Tryd.prog 8 #[.string s, v] x fun e w' => e = .returned (.tuple #[.int .i64 N, .int .i64 E]) ∧ Below x.heap.size x w'
def EnC (s : ByteArray) (n X Y : Int) : Prop := ∀ x, Calls Tryd.prog 9 #[.string s, .int .i64 n] x fun e w' => e = .returned (.tuple #[.int .i64 X, .int .i64 Y]) ∧ Below x.heap.size x w'
def RgC (s : ByteArray) (n : Int) (R : Bool) : Prop := ∀ x, Calls Tryd.prog 11 #[.string s, .int .i64 n] x fun e w' => e = .returned (.bool R) ∧ Below x.heap.size x w'
def rRgC (s : ByteArray) (n : Int) (R : Bool) : Prop := ∀ x, Calls Tryd.prog 10 #[.string s, .int .i64 n] x fun e w' => e = .returned (.bool R) ∧ Below x.heap.size x w'
def rEnC (s : ByteArray) (n X Y : Int) : Prop := ∀ x, Calls Tryd.prog 12 #[.string s, .int .i64 n] x fun e w' => e = .returned (.tuple #[.int .i64 X, .int .i64 Y]) ∧ Below x.heap.size x w'
def rRdAt (w : World) (s : ByteArray) (v : Value) (N : Int) (R : Bool) : Prop := ∀ x, Below w.heap.size w x → Calls Tryd.prog 13 #[.string s, v] x fun e w' => e = .returned (.tuple #[.int .i64 N, .bool R]) ∧ Below x.heap.size x w'
def WrC (s : ByteArray) (n m E : Int) (L : List Nat) : Prop := ∀ x, Calls Tryd.prog 14 #[.string s, .int .i64 n, .int .i64 m] x fun e w' => ∃ y, e = .returned (.tuple #[y, .int .i64 E]) ∧ BytesV w' y L ∧ Below x.heap.size x w'
theorem same_b {f : FuncId} {args : Array Value} {x : World} {v : Value} (h : Calls Tryd.prog f args x fun e w' => e = .returned v ∧ w' = x) : Calls Tryd.prog f args x fun e w' => e = .returned v ∧ Below x.heap.size x w' :=
  h.mono fun _ _ ⟨a, b⟩ => ⟨a, by rw [b]; exact Below.refl _ _⟩
theorem rRg (s : ByteArray) {n : Int} (hn : I64r n) : rRgC s n (rgtB (kindI s) n) := fun x => same_b (bright_any s n x hn)
theorem rEn (s : ByteArray) {n : Int} (h : rgtB (kindI s) n = true) : rEnC s n (loK (kindI s) n.toNat) (hiK (kindI s) n.toNat) := fun x => same_b (bends_any s n x h)

set_option maxRecDepth 100000 in
set_option maxHeartbeats 4000000 in
theorem awake6 (h : ReadP) : AwC6 := fun w => by
  have f : Hid (Calls Tryd.prog 8 #[.string kSle, .slice (some ⟨w.heap.size, 0, none⟩) 2 2] (w.alloc (.cells #[.int .u8 254, .int .u8 255] 5)) fun e w' => e = .returned (.tuple #[.int .i64 (-2), .int .i64 0]) ∧ Below (w.alloc (.cells #[.int .u8 254, .int .u8 255] 5)).heap.size (w.alloc (.cells #[.int .u8 254, .int .u8 255] 5)) w') := by
    have k := h kSle _ [254, 255] _ (new_bytesV w [254, 255] #[.int .u8 254, .int .u8 255] rfl (by unfold maxLen; decide)) (by decide) (by unfold AllBytes; decide)
    rw [kind_sle, show readN 3 [254, 255] = -2 by kernel_rfl, show readC 3 [254, 255] = 0 by kernel_rfl] at k
    exact k
  clear h
  go_enter Tryd.func7, Tryd.ntmps7
  go_wp2_with fail
  refine f.out.mono ?_
  rintro e w1 ⟨rfl, hb⟩
  have B : Hid (Below w.heap.size w w1) := belowT ((Below.refl _ _).alloc (Nat.le_refl _) _) hb
  clear hb f
  go_wp2
  go_ret
  exact ⟨rfl, B.out⟩
end Go.Proofs.YtiimmebcmehnhaaDoor
