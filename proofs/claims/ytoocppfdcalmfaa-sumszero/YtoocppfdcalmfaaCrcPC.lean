/-
  What the program's own sums keep from byte to byte (layer 4). No conditions but those that each says.
-/
import Derived.Test.YtoocppfdcalmfaaCrcPB
import Derived.Test.YtoocppfdcalmfaaCrcRefD
namespace Go.Proofs.Ytoocppfdcalmfaa
open Go.RowKit
set_option linter.unusedVariables false

theorem mixN_lt {w r c : Nat} (hw : 8 ≤ w) (hr : r < 2 ^ w) (hc : c < 256) : mixN w r c < 2 ^ w := by
  refine Nat.xor_lt_two_pow hr ?_
  have e : 2 ^ w = 256 * 2 ^ (w - 8) := by rw [show (256 : Nat) = 2 ^ 8 from rfl, ← Nat.pow_add]; congr 1; omega
  rw [e]
  exact Nat.mul_lt_mul_of_pos_right hc (Nat.two_pow_pos _)
theorem byN_lt {w p r c : Nat} (hw : 8 ≤ w) (hp : p < 2 ^ w) (hr : r < 2 ^ w) (hc : c < 256) : byN w p r c < 2 ^ w := itN_lt (by omega) hp 8 (mixN_lt hw hr hc)
/-- a byte, turned if told so -/
def bcN (t : Bool) (c : Nat) : Nat := if t = true then turnL c 8 else c
theorem bcN_lt {t : Bool} {c : Nat} (h : c < 256) : bcN t c < 256 := by
  unfold bcN
  cases t
  · exact h
  · exact turn_lt c 8
/-- what is left to do behind k bytes -/
def LeftN (W p : Nat) (t : Bool) (bs : List Nat) (x k T : Nat) : Prop := ((bs.drop k).map (bcN t)).foldl (byN W p) x = T
theorem LeftN.next {W p : Nat} {t : Bool} {bs : List Nat} {x k T : Nat} (h : LeftN W p t bs x k T) (hk : k < bs.length) : LeftN W p t bs (byN W p x (bcN t bs[k])) (k + 1) T := by
  unfold LeftN at *
  rw [List.drop_eq_getElem_cons hk] at h
  exact h
theorem LeftN.done {W p : Nat} {t : Bool} {bs : List Nat} {x T : Nat} (h : LeftN W p t bs x bs.length T) : x = T := by
  unfold LeftN at h; rw [List.drop_length] at h; exact h
theorem sumN_of (W p f : Nat) (t : Bool) (z : Nat) (bs : List Nat) : ∃ T, LeftN W p t bs f 0 T ∧ sumN W p f t z bs = (if t = true then turnL T W else T) ^^^ z := ⟨_, rfl, rfl⟩
/-- the kind lies in the first new block -/
structure KSt (w x : World) (kc : Array Value) : Prop where
  k : x.heap[w.heap.size]? = some (.cells kc 56 (0, 0))
  b : Below w.heap.size w x
theorem KSt.first (w : World) (kc : Array Value) : KSt w (w.alloc (.cells kc 56)) kc := ⟨World.alloc_heap_new w _, (Below.refl _ _).alloc (Nat.le_refl _) _⟩
theorem KSt.drewN {w x : World} {kc : Array Value} (h : KSt w x kc) (n : Nat) : KSt w (x.drewN n) kc := ⟨h.k, below_drN h.b n⟩
theorem KSt.cells {w x : World} {W p f : Nat} {t : Bool} {z : Nat} (h : KSt w x (kcs W p f t z)) : x.cell? ⟨w.heap.size, 0, none⟩ = some (.int .i64 (W : Int)) ∧ x.cell? ⟨w.heap.size, 1, none⟩ = some (.int .u32 (p : Int)) ∧ x.cell? ⟨w.heap.size, 3, none⟩ = some (.bool t) ∧ x.cell? ⟨w.heap.size, 4, none⟩ = some (.int .u32 (z : Int)) := by
  simp [World.cell?, h.k]
/-- what the program's Turn returns here -/
def TurnC (c d : Nat) (n : Int) : Prop := ∀ w, Calls Try.prog 34 #[.int .u32 (c : Int), .int .i64 n] w fun e w' => e = .returned (.int .u32 (d : Int)) ∧ w' = w
theorem turnC {c n : Nat} (hc : c < 4294967296) (h1 : 1 ≤ n) (h2 : n ≤ 32) : TurnC c (turnL c n) (n : Int) := fun w => by
  have h := turn_any c (n : Int) w hc ⟨by omega, by omega⟩
  have e : turnV c (n : Int) = turnL c n := by unfold turnV; rw [if_pos ⟨by omega, by omega⟩, Int.toNat_natCast]
  rw [e] at h
  exact h
theorem ret_pair {a b : Nat} {e : Int} (h : a = b) : Ending.returned (.tuple #[.int .u32 (a : Int), .int .i64 e]) = .returned (.tuple #[.int .u32 (b : Int), .int .i64 e]) := by rw [h]
end Go.Proofs.Ytoocppfdcalmfaa
