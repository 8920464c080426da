/-
  What the program's own text returns (layer 6): a number's decimal text, with blanks ahead. Conditions: a width from one to eight, a number that has a place there.
-/
import Derived.Test.YtiimmebcmehnhaaDoorBitPJ
import Derived.Lib.ConvBytes
import Derived.Laws.AppendOwn
namespace Go.Proofs.YtiimmebcmehnhaaDoor
open Go.RowKit Go.Shelf
set_option linter.unusedVariables false

theorem dec_more : ∀ f n : Nat, n < 10 ^ (f + 1) → dec (f + 1) n = dec f n
  | 0, n, h => by
    have : n < 10 := by simpa using h
    show (if n < 10 then [dig n] else dec 0 (n / 10) ++ [dig n]) = [dig n]
    rw [if_pos this]
  | f + 1, n, h => by
    rw [dec]
    conv => rhs; rw [dec]
    by_cases hn : n < 10
    · rw [if_pos hn, if_pos hn]
    · rw [if_neg hn, if_neg hn, dec_more f (n / 10) (by rw [Nat.pow_succ] at h; omega)]
theorem dec_187 {n : Nat} (h : n < 100000000) : dec 18 n = dec 7 n := by
  have k : ∀ d, dec (7 + d) n = dec 7 n := by
    intro d
    induction d with
    | zero => rfl
    | succ d ih =>
      rw [← Nat.add_assoc, dec_more (7 + d) n ?_, ih]
      refine Nat.lt_of_lt_of_le h ?_
      have : 10 ^ 8 ≤ 10 ^ (7 + d + 1) := Nat.pow_le_pow_right (by omega) (by omega)
      omega
  exact k 11
theorem textL_decT {n : Int} (h : n.natAbs < 100000000) : (textL n).map UInt8.toNat = decT n := by
  unfold textL decT dgs
  by_cases hn : n < 0
  · rw [if_pos hn, if_pos hn, dec_187 h]; rfl
  · rw [if_neg hn, if_neg hn, dec_187 h]
theorem below_bytes (w : World) (e : TypeId) (s : ByteArray) : Below w.heap.size w (Lib.bytesWorld w e s) :=
  ⟨rfl, rfl, rfl, by rw [Lib.bytesWorld_size]; omega, fun k hk => Lib.bytesWorld_at_old w e s k hk⟩
theorem bytesW_at (w : World) (s : ByteArray) (bs : List Nat) (hs : s.data.toList.map UInt8.toNat = bs) (hm : s.size ≤ maxLen) : BytesV (Lib.bytesWorld w 5 s) (.slice (some ⟨w.heap.size, 0, none⟩) s.size (grownCap w s.size 0 5)) bs := by
  have hl : bs.length = s.size := by rw [← hs, List.length_map]; rfl
  refine .inr ⟨w.heap.size, 0, grownCap w s.size 0 5, by rw [hl], by rw [hl]; exact grownCap_ge _ _ _ _, grownCap_le_maxLen _ _ _ _ hm, fun j hj => ?_, by rw [Lib.bytesWorld_size]; omega⟩
  have hj' : j < s.size := by omega
  rw [Nat.zero_add, Lib.bytesWorld_cell w _ s j hj']
  have hj2 : j < s.data.toList.length := hj'
  have e : bs[j] = (s.data.toList[j]).toNat := by
    have : (s.data.toList.map UInt8.toNat)[j]'(by rw [List.length_map]; exact hj2) = (s.data.toList[j]).toNat := List.getElem_map _
    rw [← this]
    congr 1
    exact hs.symm
  rw [e, List.getD_eq_getElem?_getD, List.getElem?_eq_getElem hj2]
  rfl

set_option maxRecDepth 100000 in
set_option maxHeartbeats 4000000 in
theorem ptext_walk (w : World) (L k : Nat) (n : Int) (S : ByteArray) (hL : 1 ≤ (L : Int) ∧ (L : Int) ≤ 8) (hk7 : k ≤ 7) (hk : (L : Int) - (S.size : Int) = (k : Int)) (hS : (S.size : Int) ≤ 8) (hB : ((blanks k).size : Int) ≤ 8)
    (cT : Hid (Calls Tryd.prog 25 #[.int .i64 n] w fun e w' => e = .returned (.string S) ∧ Below w.heap.size w w')) :
    Calls Tryd.prog 19 #[.int .i64 (L : Int), .int .i64 n] w fun e w' => ∃ w1, e = .returned (.slice (some ⟨w1.heap.size, 0, none⟩) (blanks k ++ S).size (grownCap w1 (blanks k ++ S).size 0 5)) ∧ w' = Lib.bytesWorld w1 5 (blanks k ++ S) ∧ Below w.heap.size w w1 := by
  go_enter Tryd.func19, Tryd.ntmps19
  go_wp2_with fail
  refine cT.out.mono ?_
  rintro e w1 ⟨rfl, hb⟩
  have B : Hid (Below w.heap.size w w1) := hb
  clear hb cT
  go_wp2_with fail
  refine (rep_any hk7 _).mono ?_
  rintro e w2 ⟨rfl, rfl⟩
  have kc := fun (s : ByteArray) (x : World) => Lib.run_convert_string_bytes (P := Tryd.prog) x 9 22 5 s Tryd.underlying9 Tryd.underlying22 Tryd.underlying5
  go_wp2
  go_ret
  exact ⟨w2, by rw [ByteArray.size_append]; rfl, rfl, B.out⟩
theorem ptext_any (w : World) (L : Nat) (n : Int) (hL : 1 ≤ L ∧ L ≤ 8) (hlo : 1 - ((10 ^ L / 10 : Nat) : Int) ≤ n) (hhi : n ≤ ((10 ^ L : Nat) : Int) - 1) :
    Calls Tryd.prog 19 #[.int .i64 (L : Int), .int .i64 n] w fun e w' => ∃ x, e = .returned x ∧ BytesV w' x (decL L n) ∧ Below w.heap.size w w' := by
  have p8 : 10 ^ L ≤ 10 ^ 8 := Nat.pow_le_pow_right (by omega) hL.2
  have hn : n.natAbs < 100000000 := by omega
  obtain ⟨_, hlen⟩ := dec_back hL.1 hL.2 hlo hhi
  have ht := textL_decT hn
  have htl : (textL n).length = (decT n).length := by rw [← ht, List.length_map]
  have hle : (decT n).length ≤ L := by unfold decL at hlen; rw [List.length_append, List.length_replicate] at hlen; omega
  have h1 : 1 ≤ (decT n).length := by
    unfold decT dgs
    split
    · simp
    · rw [List.length_map]; have := dec_ne 7 n.natAbs; exact List.length_pos_iff.2 this
  have hS : (ByteArray.mk (textL n).toArray).size = (textL n).length := by show (textL n).toArray.size = _; simp
  have hBs : (blanks (L - (decT n).length)).size = L - (decT n).length := by show (List.replicate _ (32 : UInt8)).toArray.size = _; simp
  refine (ptext_walk w L (L - (decT n).length) n ⟨(textL n).toArray⟩ ⟨by omega, by omega⟩ (by omega) (by rw [hS]; omega) (by rw [hS]; omega) (by rw [hBs]; omega) (btext_any n w ⟨by omega, by omega⟩)).mono ?_
  rintro e w' ⟨w1, rfl, rfl, hb⟩
  refine ⟨_, rfl, bytesW_at w1 _ _ ?_ ?_, belowT hb (below_bytes w1 _ _)⟩
  · rw [ByteArray.data_append]
    show ((List.replicate (L - (decT n).length) (32 : UInt8)).toArray ++ (textL n).toArray).toList.map UInt8.toNat = decL L n
    rw [Array.toList_append, List.map_append, ht]
    unfold decL
    congr 1
    simp
  · rw [ByteArray.size_append, hS, hBs]
    unfold maxLen
    omega
end Go.Proofs.YtiimmebcmehnhaaDoor
