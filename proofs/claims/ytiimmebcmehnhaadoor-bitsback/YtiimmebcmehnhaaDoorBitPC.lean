/-
  What the program's own places hands on (layer 6): the places of a number's bytes, from the lowest byte's on, each with what a 1 counts there. Conditions: as the contract of a range over a function has them.
-/
import Derived.Test.YtiimmebcmehnhaaDoorBitPA
namespace Go.Proofs.YtiimmebcmehnhaaDoor
open Go.RowKit Go.Shelf
set_option linter.unusedVariables false

attribute [local go_sem] Oper.semAt_some

/-- the place of the byte that is x-th from the lowest on -/
def atP (k L x : Nat) : Nat := if k = 1 ∨ k = 3 then x else L - 1 - x
theorem atP_lt {k L x : Nat} (h : x < L) : atP k L x < L := by unfold atP; split <;> omega
/-- two boxes lie as they lay -/
def KeepT (a b : Nat) (W W' : World) : Prop := W'.heap[a]? = W.heap[a]? ∧ W'.heap[b]? = W.heap[b]?
theorem KeepT.refl (a b : Nat) (W : World) : KeepT a b W W := ⟨rfl, rfl⟩
theorem KeepT.trans {a b : Nat} {U V W : World} (h : KeepT a b U V) (k : KeepT a b V W) : KeepT a b U W := ⟨k.1.trans h.1, k.2.trans h.2⟩
theorem KeepT.put {a b : Nat} {w : World} (ha : a < w.heap.size) (hb : b < w.heap.size) (W : World) (l : Nat) (o o' : Obj) (hl : w.heap.size ≤ l) : KeepT a b W (W.putObj l o') :=
  ⟨World.putObj_heap_other (by omega), World.putObj_heap_other (by omega)⟩
theorem fin_take {L k : Nat} (h : k < L) : (List.finRange L).take (k + 1) = (List.finRange L).take k ++ [⟨k, h⟩] := by
  rw [← List.take_append_getElem (by simpa using h)]; simp

set_option maxRecDepth 100000 in
set_option maxHeartbeats 4000000 in
theorem places_mk (F : Fence) (n : Nat) (hf : F.fn 20) (hro : F.round = none) (s : ByteArray) (t : Int) (w : World) : CallsIn F n Tryd.prog 20 #[.string s, .int .i64 t] w fun e w' =>
    e = .returned (.func (.func 27) #[] #[.pointer (some ⟨w.heap.size + 1, 0, none⟩), .pointer (some ⟨w.heap.size, 0, none⟩)]) ∧ w' = (w.alloc (.cells #[.string s] 9)).alloc (.cells #[.int .i64 t] 3) := by
  refine callsIn_of_wp Tryd.func20 rfl hf ?_ hro
  simp only [Tryd.ntmps20, List.size_toArray, List.length_cons, List.length_nil, Nat.reduceAdd, Nat.reduceSub, Array.replicate_succ, Array.replicate_zero, List.push_toArray, List.append_toArray, List.nil_append, List.cons_append]
  gi_wp2
  go_ret
  exact ⟨rfl, rfl⟩

set_option maxRecDepth 100000 in
set_option maxHeartbeats 4000000 in
theorem places_be (F : Fence) (n : Nat) (hf : F.fn 27) (hb : F.fn 18) (hro : F.round = none) (hn : 1 ≤ n) (L Bw Bk : Nat) (hL : L ≤ 4) (l : Nat) (J Jx : List (Fin L) → World → Prop) (W : World)
    (hw : W.cell? ⟨Bw, 0, none⟩ = some (.int .i64 (L : Int))) (hk : W.cell? ⟨Bk, 0, none⟩ = some (.string kBe))
    (hY : ∀ pre x W1, J pre W1 → pre.length < L → YieldAt F (n - 1) Tryd.prog l #[.int .i64 ((atP 0 L x.1 : Nat) : Int), .int .i64 ((256 ^ x.1 : Nat) : Int)] W1 fun e W' =>
      (e = .returned (.bool true) ∧ J (pre ++ [x]) W' ∧ KeepT Bw Bk W1 W') ∨ (e = .returned (.bool false) ∧ Jx (pre ++ [x]) W'))
    (h0 : J [] W) :
    CallsIn F n Tryd.prog 27 #[.func (.yield l) #[] #[], .pointer (some ⟨Bw, 0, none⟩), .pointer (some ⟨Bk, 0, none⟩)] W fun e W' => (∃ v, e = .returned v) ∧ ((∃ xs, xs = List.finRange L ∧ J xs W') ∨ (∃ pre, pre <+: List.finRange L ∧ Jx pre W')) := by
  refine callsIn_of_wp Tryd.func27 rfl hf ?_ hro
  simp only [Tryd.ntmps27, List.size_toArray, List.length_cons, List.length_nil, Nat.reduceAdd, Nat.reduceSub, Array.replicate_succ, Array.replicate_zero, List.push_toArray, List.append_toArray, List.nil_append, List.cons_append]
  gi_wp2
  gi_loopw [4, 8] (fun p q wr => ∃ j : Nat, j ≤ L ∧ p = .int .i64 ((256 ^ j : Nat) : Int) ∧ q = .int .i64 (j : Int) ∧ wr.cell? ⟨Bw, 0, none⟩ = some (.int .i64 (L : Int)) ∧ wr.cell? ⟨Bk, 0, none⟩ = some (.string kBe) ∧ J ((List.finRange L).take j) wr) (fun _ q _ => L - (intOf q).toNat)
  case atStart => exact ⟨0, Nat.zero_le _, rfl, rfl, hw, hk, h0⟩
  case round =>
    obtain ⟨j, hj, rfl, rfl, hw1, hk1, hJs⟩ := hrel
    by_cases hlt : j < L
    · have hlt' : (j : Int) < (L : Int) := by omega
      obtain ⟨fn, tmps, assign, body, hy, hR⟩ := hY _ ⟨j, hlt⟩ wr hJs (by rw [List.length_take, List.length_finRange]; omega)
      have e1 : ((atP 0 L j : Nat) : Int) = (L : Int) - 1 - (j : Int) := by unfold atP; simp <;> omega
      have p1 : 256 ^ j ≤ 256 ^ 3 := Nat.pow_le_pow_right (by omega) (by omega)
      have p2 : 256 ^ (j + 1) = 256 ^ j * 256 := Nat.pow_succ ..
      obtain ⟨p, hp⟩ : ∃ p : Nat, 256 ^ j = p := ⟨_, rfl⟩
      have hb1 : (p : Int) ≤ 16777216 := by omega
      dsimp only at hy
      rw [e1, hp] at hy
      rw [hp]
      clear p1
      gi_wp2
      refine hR.mono ?_
      rintro e W3 (⟨rfl, hJ3, hk3⟩ | ⟨rfl, hJx3⟩)
      · have hw3 : W3.cell? ⟨Bw, 0, none⟩ = some (.int .i64 (L : Int)) := by rw [← hw1]; unfold World.cell?; rw [hk3.1]
        have hk3' : W3.cell? ⟨Bk, 0, none⟩ = some (.string kBe) := by rw [← hk1]; unfold World.cell?; rw [hk3.2]
        gi_wp2_with (gi_at_call 18; refine (base_be F _ hb hro _).mono ?_; rintro e w' ⟨rfl, rfl⟩)
        go_roundw
        case rel => exact ⟨j + 1, by omega, by rw [p2, hp]; simp, by simp, hw3, hk3', by rw [fin_take hlt]; exact hJ3⟩
        case measure => simp [intOf]; omega
      · gi_wp2
        refine bodyPost_ret (results_none rfl _ _ _) rfl ?_
        exact ⟨⟨_, rfl⟩, .inr ⟨_, by rw [← fin_take hlt]; exact List.take_prefix _ _, hJx3⟩⟩
    · obtain rfl : j = L := by omega
      rw [List.take_of_length_le (by simp)] at hJs
      have hnl : ¬ (j : Int) < (j : Int) := by omega
      gi_wp2
      go_end0
      exact ⟨⟨_, rfl⟩, .inl hJs⟩
theorem pstops_be (F : Fence) (n : Nat) (hf : F.fn 27) (hb : F.fn 18) (hro : F.round = none) (hn : 1 ≤ n) (L Bw Bk : Nat) (hL : L ≤ 4) (w : World) (hw : Boxed w Bw 3 (.int .i64 (L : Int))) (hk : Boxed w Bk 9 (.string kBe)) :
    SeqStopsK F n Tryd.prog 27 #[.pointer (some ⟨Bw, 0, none⟩), .pointer (some ⟨Bk, 0, none⟩)] (fun x : Fin L => #[.int .i64 ((atP 0 L x.1 : Nat) : Int), .int .i64 ((256 ^ x.1 : Nat) : Int)]) (KeepT Bw Bk) (fun xs => xs = List.finRange L) (fun pre => pre <+: List.finRange L) L w := fun l J Jx W hbl hJ _ hY h0 =>
  places_be F n hf hb hro hn L Bw Bk hL l J Jx W ((hbl.cell (p := ⟨Bw, 0, none⟩) hw.lt).trans hw.cell) ((hbl.cell (p := ⟨Bk, 0, none⟩) hk.lt).trans hk.cell) hY h0

set_option maxRecDepth 100000 in
set_option maxHeartbeats 4000000 in
theorem places_le (F : Fence) (n : Nat) (hf : F.fn 27) (hb : F.fn 18) (hro : F.round = none) (hn : 1 ≤ n) (L Bw Bk : Nat) (hL : L ≤ 4) (l : Nat) (J Jx : List (Fin L) → World → Prop) (W : World)
    (hw : W.cell? ⟨Bw, 0, none⟩ = some (.int .i64 (L : Int))) (hk : W.cell? ⟨Bk, 0, none⟩ = some (.string kLe))
    (hY : ∀ pre x W1, J pre W1 → pre.length < L → YieldAt F (n - 1) Tryd.prog l #[.int .i64 ((atP 1 L x.1 : Nat) : Int), .int .i64 ((256 ^ x.1 : Nat) : Int)] W1 fun e W' =>
      (e = .returned (.bool true) ∧ J (pre ++ [x]) W' ∧ KeepT Bw Bk W1 W') ∨ (e = .returned (.bool false) ∧ Jx (pre ++ [x]) W'))
    (h0 : J [] W) :
    CallsIn F n Tryd.prog 27 #[.func (.yield l) #[] #[], .pointer (some ⟨Bw, 0, none⟩), .pointer (some ⟨Bk, 0, none⟩)] W fun e W' => (∃ v, e = .returned v) ∧ ((∃ xs, xs = List.finRange L ∧ J xs W') ∨ (∃ pre, pre <+: List.finRange L ∧ Jx pre W')) := by
  refine callsIn_of_wp Tryd.func27 rfl hf ?_ hro
  simp only [Tryd.ntmps27, List.size_toArray, List.length_cons, List.length_nil, Nat.reduceAdd, Nat.reduceSub, Array.replicate_succ, Array.replicate_zero, List.push_toArray, List.append_toArray, List.nil_append, List.cons_append]
  gi_wp2
  gi_loopw [4, 8] (fun p q wr => ∃ j : Nat, j ≤ L ∧ p = .int .i64 ((256 ^ j : Nat) : Int) ∧ q = .int .i64 (j : Int) ∧ wr.cell? ⟨Bw, 0, none⟩ = some (.int .i64 (L : Int)) ∧ wr.cell? ⟨Bk, 0, none⟩ = some (.string kLe) ∧ J ((List.finRange L).take j) wr) (fun _ q _ => L - (intOf q).toNat)
  case atStart => exact ⟨0, Nat.zero_le _, rfl, rfl, hw, hk, h0⟩
  case round =>
    obtain ⟨j, hj, rfl, rfl, hw1, hk1, hJs⟩ := hrel
    by_cases hlt : j < L
    · have hlt' : (j : Int) < (L : Int) := by omega
      obtain ⟨fn, tmps, assign, body, hy, hR⟩ := hY _ ⟨j, hlt⟩ wr hJs (by rw [List.length_take, List.length_finRange]; omega)
      have e1 : ((atP 1 L j : Nat) : Int) = (j : Int) := by unfold atP; simp
      have p1 : 256 ^ j ≤ 256 ^ 3 := Nat.pow_le_pow_right (by omega) (by omega)
      have p2 : 256 ^ (j + 1) = 256 ^ j * 256 := Nat.pow_succ ..
      obtain ⟨p, hp⟩ : ∃ p : Nat, 256 ^ j = p := ⟨_, rfl⟩
      have hb1 : (p : Int) ≤ 16777216 := by omega
      dsimp only at hy
      rw [e1, hp] at hy
      rw [hp]
      clear p1
      gi_wp2
      refine hR.mono ?_
      rintro e W3 (⟨rfl, hJ3, hk3⟩ | ⟨rfl, hJx3⟩)
      · have hw3 : W3.cell? ⟨Bw, 0, none⟩ = some (.int .i64 (L : Int)) := by rw [← hw1]; unfold World.cell?; rw [hk3.1]
        have hk3' : W3.cell? ⟨Bk, 0, none⟩ = some (.string kLe) := by rw [← hk1]; unfold World.cell?; rw [hk3.2]
        gi_wp2_with (gi_at_call 18; refine (base_le F _ hb hro _).mono ?_; rintro e w' ⟨rfl, rfl⟩)
        go_roundw
        case rel => exact ⟨j + 1, by omega, by rw [p2, hp]; simp, by simp, hw3, hk3', by rw [fin_take hlt]; exact hJ3⟩
        case measure => simp [intOf]; omega
      · gi_wp2
        refine bodyPost_ret (results_none rfl _ _ _) rfl ?_
        exact ⟨⟨_, rfl⟩, .inr ⟨_, by rw [← fin_take hlt]; exact List.take_prefix _ _, hJx3⟩⟩
    · obtain rfl : j = L := by omega
      rw [List.take_of_length_le (by simp)] at hJs
      have hnl : ¬ (j : Int) < (j : Int) := by omega
      gi_wp2
      go_end0
      exact ⟨⟨_, rfl⟩, .inl hJs⟩
theorem pstops_le (F : Fence) (n : Nat) (hf : F.fn 27) (hb : F.fn 18) (hro : F.round = none) (hn : 1 ≤ n) (L Bw Bk : Nat) (hL : L ≤ 4) (w : World) (hw : Boxed w Bw 3 (.int .i64 (L : Int))) (hk : Boxed w Bk 9 (.string kLe)) :
    SeqStopsK F n Tryd.prog 27 #[.pointer (some ⟨Bw, 0, none⟩), .pointer (some ⟨Bk, 0, none⟩)] (fun x : Fin L => #[.int .i64 ((atP 1 L x.1 : Nat) : Int), .int .i64 ((256 ^ x.1 : Nat) : Int)]) (KeepT Bw Bk) (fun xs => xs = List.finRange L) (fun pre => pre <+: List.finRange L) L w := fun l J Jx W hbl hJ _ hY h0 =>
  places_le F n hf hb hro hn L Bw Bk hL l J Jx W ((hbl.cell (p := ⟨Bw, 0, none⟩) hw.lt).trans hw.cell) ((hbl.cell (p := ⟨Bk, 0, none⟩) hk.lt).trans hk.cell) hY h0

set_option maxRecDepth 100000 in
set_option maxHeartbeats 4000000 in
theorem places_sbe (F : Fence) (n : Nat) (hf : F.fn 27) (hb : F.fn 18) (hro : F.round = none) (hn : 1 ≤ n) (L Bw Bk : Nat) (hL : L ≤ 4) (l : Nat) (J Jx : List (Fin L) → World → Prop) (W : World)
    (hw : W.cell? ⟨Bw, 0, none⟩ = some (.int .i64 (L : Int))) (hk : W.cell? ⟨Bk, 0, none⟩ = some (.string kSbe))
    (hY : ∀ pre x W1, J pre W1 → pre.length < L → YieldAt F (n - 1) Tryd.prog l #[.int .i64 ((atP 2 L x.1 : Nat) : Int), .int .i64 ((256 ^ x.1 : Nat) : Int)] W1 fun e W' =>
      (e = .returned (.bool true) ∧ J (pre ++ [x]) W' ∧ KeepT Bw Bk W1 W') ∨ (e = .returned (.bool false) ∧ Jx (pre ++ [x]) W'))
    (h0 : J [] W) :
    CallsIn F n Tryd.prog 27 #[.func (.yield l) #[] #[], .pointer (some ⟨Bw, 0, none⟩), .pointer (some ⟨Bk, 0, none⟩)] W fun e W' => (∃ v, e = .returned v) ∧ ((∃ xs, xs = List.finRange L ∧ J xs W') ∨ (∃ pre, pre <+: List.finRange L ∧ Jx pre W')) := by
  refine callsIn_of_wp Tryd.func27 rfl hf ?_ hro
  simp only [Tryd.ntmps27, List.size_toArray, List.length_cons, List.length_nil, Nat.reduceAdd, Nat.reduceSub, Array.replicate_succ, Array.replicate_zero, List.push_toArray, List.append_toArray, List.nil_append, List.cons_append]
  gi_wp2
  gi_loopw [4, 8] (fun p q wr => ∃ j : Nat, j ≤ L ∧ p = .int .i64 ((256 ^ j : Nat) : Int) ∧ q = .int .i64 (j : Int) ∧ wr.cell? ⟨Bw, 0, none⟩ = some (.int .i64 (L : Int)) ∧ wr.cell? ⟨Bk, 0, none⟩ = some (.string kSbe) ∧ J ((List.finRange L).take j) wr) (fun _ q _ => L - (intOf q).toNat)
  case atStart => exact ⟨0, Nat.zero_le _, rfl, rfl, hw, hk, h0⟩
  case round =>
    obtain ⟨j, hj, rfl, rfl, hw1, hk1, hJs⟩ := hrel
    by_cases hlt : j < L
    · have hlt' : (j : Int) < (L : Int) := by omega
      obtain ⟨fn, tmps, assign, body, hy, hR⟩ := hY _ ⟨j, hlt⟩ wr hJs (by rw [List.length_take, List.length_finRange]; omega)
      have e1 : ((atP 2 L j : Nat) : Int) = (L : Int) - 1 - (j : Int) := by unfold atP; simp <;> omega
      have p1 : 256 ^ j ≤ 256 ^ 3 := Nat.pow_le_pow_right (by omega) (by omega)
      have p2 : 256 ^ (j + 1) = 256 ^ j * 256 := Nat.pow_succ ..
      obtain ⟨p, hp⟩ : ∃ p : Nat, 256 ^ j = p := ⟨_, rfl⟩
      have hb1 : (p : Int) ≤ 16777216 := by omega
      dsimp only at hy
      rw [e1, hp] at hy
      rw [hp]
      clear p1
      gi_wp2
      refine hR.mono ?_
      rintro e W3 (⟨rfl, hJ3, hk3⟩ | ⟨rfl, hJx3⟩)
      · have hw3 : W3.cell? ⟨Bw, 0, none⟩ = some (.int .i64 (L : Int)) := by rw [← hw1]; unfold World.cell?; rw [hk3.1]
        have hk3' : W3.cell? ⟨Bk, 0, none⟩ = some (.string kSbe) := by rw [← hk1]; unfold World.cell?; rw [hk3.2]
        gi_wp2_with (gi_at_call 18; refine (base_sbe F _ hb hro _).mono ?_; rintro e w' ⟨rfl, rfl⟩)
        go_roundw
        case rel => exact ⟨j + 1, by omega, by rw [p2, hp]; simp, by simp, hw3, hk3', by rw [fin_take hlt]; exact hJ3⟩
        case measure => simp [intOf]; omega
      · gi_wp2
        refine bodyPost_ret (results_none rfl _ _ _) rfl ?_
        exact ⟨⟨_, rfl⟩, .inr ⟨_, by rw [← fin_take hlt]; exact List.take_prefix _ _, hJx3⟩⟩
    · obtain rfl : j = L := by omega
      rw [List.take_of_length_le (by simp)] at hJs
      have hnl : ¬ (j : Int) < (j : Int) := by omega
      gi_wp2
      go_end0
      exact ⟨⟨_, rfl⟩, .inl hJs⟩
theorem pstops_sbe (F : Fence) (n : Nat) (hf : F.fn 27) (hb : F.fn 18) (hro : F.round = none) (hn : 1 ≤ n) (L Bw Bk : Nat) (hL : L ≤ 4) (w : World) (hw : Boxed w Bw 3 (.int .i64 (L : Int))) (hk : Boxed w Bk 9 (.string kSbe)) :
    SeqStopsK F n Tryd.prog 27 #[.pointer (some ⟨Bw, 0, none⟩), .pointer (some ⟨Bk, 0, none⟩)] (fun x : Fin L => #[.int .i64 ((atP 2 L x.1 : Nat) : Int), .int .i64 ((256 ^ x.1 : Nat) : Int)]) (KeepT Bw Bk) (fun xs => xs = List.finRange L) (fun pre => pre <+: List.finRange L) L w := fun l J Jx W hbl hJ _ hY h0 =>
  places_sbe F n hf hb hro hn L Bw Bk hL l J Jx W ((hbl.cell (p := ⟨Bw, 0, none⟩) hw.lt).trans hw.cell) ((hbl.cell (p := ⟨Bk, 0, none⟩) hk.lt).trans hk.cell) hY h0

set_option maxRecDepth 100000 in
set_option maxHeartbeats 4000000 in
theorem places_sle (F : Fence) (n : Nat) (hf : F.fn 27) (hb : F.fn 18) (hro : F.round = none) (hn : 1 ≤ n) (L Bw Bk : Nat) (hL : L ≤ 4) (l : Nat) (J Jx : List (Fin L) → World → Prop) (W : World)
    (hw : W.cell? ⟨Bw, 0, none⟩ = some (.int .i64 (L : Int))) (hk : W.cell? ⟨Bk, 0, none⟩ = some (.string kSle))
    (hY : ∀ pre x W1, J pre W1 → pre.length < L → YieldAt F (n - 1) Tryd.prog l #[.int .i64 ((atP 3 L x.1 : Nat) : Int), .int .i64 ((256 ^ x.1 : Nat) : Int)] W1 fun e W' =>
      (e = .returned (.bool true) ∧ J (pre ++ [x]) W' ∧ KeepT Bw Bk W1 W') ∨ (e = .returned (.bool false) ∧ Jx (pre ++ [x]) W'))
    (h0 : J [] W) :
    CallsIn F n Tryd.prog 27 #[.func (.yield l) #[] #[], .pointer (some ⟨Bw, 0, none⟩), .pointer (some ⟨Bk, 0, none⟩)] W fun e W' => (∃ v, e = .returned v) ∧ ((∃ xs, xs = List.finRange L ∧ J xs W') ∨ (∃ pre, pre <+: List.finRange L ∧ Jx pre W')) := by
  refine callsIn_of_wp Tryd.func27 rfl hf ?_ hro
  simp only [Tryd.ntmps27, List.size_toArray, List.length_cons, List.length_nil, Nat.reduceAdd, Nat.reduceSub, Array.replicate_succ, Array.replicate_zero, List.push_toArray, List.append_toArray, List.nil_append, List.cons_append]
  gi_wp2
  gi_loopw [4, 8] (fun p q wr => ∃ j : Nat, j ≤ L ∧ p = .int .i64 ((256 ^ j : Nat) : Int) ∧ q = .int .i64 (j : Int) ∧ wr.cell? ⟨Bw, 0, none⟩ = some (.int .i64 (L : Int)) ∧ wr.cell? ⟨Bk, 0, none⟩ = some (.string kSle) ∧ J ((List.finRange L).take j) wr) (fun _ q _ => L - (intOf q).toNat)
  case atStart => exact ⟨0, Nat.zero_le _, rfl, rfl, hw, hk, h0⟩
  case round =>
    obtain ⟨j, hj, rfl, rfl, hw1, hk1, hJs⟩ := hrel
    by_cases hlt : j < L
    · have hlt' : (j : Int) < (L : Int) := by omega
      obtain ⟨fn, tmps, assign, body, hy, hR⟩ := hY _ ⟨j, hlt⟩ wr hJs (by rw [List.length_take, List.length_finRange]; omega)
      have e1 : ((atP 3 L j : Nat) : Int) = (j : Int) := by unfold atP; simp
      have p1 : 256 ^ j ≤ 256 ^ 3 := Nat.pow_le_pow_right (by omega) (by omega)
      have p2 : 256 ^ (j + 1) = 256 ^ j * 256 := Nat.pow_succ ..
      obtain ⟨p, hp⟩ : ∃ p : Nat, 256 ^ j = p := ⟨_, rfl⟩
      have hb1 : (p : Int) ≤ 16777216 := by omega
      dsimp only at hy
      rw [e1, hp] at hy
      rw [hp]
      clear p1
      gi_wp2
      refine hR.mono ?_
      rintro e W3 (⟨rfl, hJ3, hk3⟩ | ⟨rfl, hJx3⟩)
      · have hw3 : W3.cell? ⟨Bw, 0, none⟩ = some (.int .i64 (L : Int)) := by rw [← hw1]; unfold World.cell?; rw [hk3.1]
        have hk3' : W3.cell? ⟨Bk, 0, none⟩ = some (.string kSle) := by rw [← hk1]; unfold World.cell?; rw [hk3.2]
        gi_wp2_with (gi_at_call 18; refine (base_sle F _ hb hro _).mono ?_; rintro e w' ⟨rfl, rfl⟩)
        go_roundw
        case rel => exact ⟨j + 1, by omega, by rw [p2, hp]; simp, by simp, hw3, hk3', by rw [fin_take hlt]; exact hJ3⟩
        case measure => simp [intOf]; omega
      · gi_wp2
        refine bodyPost_ret (results_none rfl _ _ _) rfl ?_
        exact ⟨⟨_, rfl⟩, .inr ⟨_, by rw [← fin_take hlt]; exact List.take_prefix _ _, hJx3⟩⟩
    · obtain rfl : j = L := by omega
      rw [List.take_of_length_le (by simp)] at hJs
      have hnl : ¬ (j : Int) < (j : Int) := by omega
      gi_wp2
      go_end0
      exact ⟨⟨_, rfl⟩, .inl hJs⟩
theorem pstops_sle (F : Fence) (n : Nat) (hf : F.fn 27) (hb : F.fn 18) (hro : F.round = none) (hn : 1 ≤ n) (L Bw Bk : Nat) (hL : L ≤ 4) (w : World) (hw : Boxed w Bw 3 (.int .i64 (L : Int))) (hk : Boxed w Bk 9 (.string kSle)) :
    SeqStopsK F n Tryd.prog 27 #[.pointer (some ⟨Bw, 0, none⟩), .pointer (some ⟨Bk, 0, none⟩)] (fun x : Fin L => #[.int .i64 ((atP 3 L x.1 : Nat) : Int), .int .i64 ((256 ^ x.1 : Nat) : Int)]) (KeepT Bw Bk) (fun xs => xs = List.finRange L) (fun pre => pre <+: List.finRange L) L w := fun l J Jx W hbl hJ _ hY h0 =>
  places_sle F n hf hb hro hn L Bw Bk hL l J Jx W ((hbl.cell (p := ⟨Bw, 0, none⟩) hw.lt).trans hw.cell) ((hbl.cell (p := ⟨Bk, 0, none⟩) hk.lt).trans hk.cell) hY h0

set_option maxRecDepth 100000 in
set_option maxHeartbeats 4000000 in
theorem places_bcd (F : Fence) (n : Nat) (hf : F.fn 27) (hb : F.fn 18) (hro : F.round = none) (hn : 1 ≤ n) (L Bw Bk : Nat) (hL : L ≤ 4) (l : Nat) (J Jx : List (Fin L) → World → Prop) (W : World)
    (hw : W.cell? ⟨Bw, 0, none⟩ = some (.int .i64 (L : Int))) (hk : W.cell? ⟨Bk, 0, none⟩ = some (.string kBcd))
    (hY : ∀ pre x W1, J pre W1 → pre.length < L → YieldAt F (n - 1) Tryd.prog l #[.int .i64 ((atP 4 L x.1 : Nat) : Int), .int .i64 ((100 ^ x.1 : Nat) : Int)] W1 fun e W' =>
      (e = .returned (.bool true) ∧ J (pre ++ [x]) W' ∧ KeepT Bw Bk W1 W') ∨ (e = .returned (.bool false) ∧ Jx (pre ++ [x]) W'))
    (h0 : J [] W) :
    CallsIn F n Tryd.prog 27 #[.func (.yield l) #[] #[], .pointer (some ⟨Bw, 0, none⟩), .pointer (some ⟨Bk, 0, none⟩)] W fun e W' => (∃ v, e = .returned v) ∧ ((∃ xs, xs = List.finRange L ∧ J xs W') ∨ (∃ pre, pre <+: List.finRange L ∧ Jx pre W')) := by
  refine callsIn_of_wp Tryd.func27 rfl hf ?_ hro
  simp only [Tryd.ntmps27, List.size_toArray, List.length_cons, List.length_nil, Nat.reduceAdd, Nat.reduceSub, Array.replicate_succ, Array.replicate_zero, List.push_toArray, List.append_toArray, List.nil_append, List.cons_append]
  gi_wp2
  gi_loopw [4, 8] (fun p q wr => ∃ j : Nat, j ≤ L ∧ p = .int .i64 ((100 ^ j : Nat) : Int) ∧ q = .int .i64 (j : Int) ∧ wr.cell? ⟨Bw, 0, none⟩ = some (.int .i64 (L : Int)) ∧ wr.cell? ⟨Bk, 0, none⟩ = some (.string kBcd) ∧ J ((List.finRange L).take j) wr) (fun _ q _ => L - (intOf q).toNat)
  case atStart => exact ⟨0, Nat.zero_le _, rfl, rfl, hw, hk, h0⟩
  case round =>
    obtain ⟨j, hj, rfl, rfl, hw1, hk1, hJs⟩ := hrel
    by_cases hlt : j < L
    · have hlt' : (j : Int) < (L : Int) := by omega
      obtain ⟨fn, tmps, assign, body, hy, hR⟩ := hY _ ⟨j, hlt⟩ wr hJs (by rw [List.length_take, List.length_finRange]; omega)
      have e1 : ((atP 4 L j : Nat) : Int) = (L : Int) - 1 - (j : Int) := by unfold atP; simp <;> omega
      have p1 : 100 ^ j ≤ 100 ^ 3 := Nat.pow_le_pow_right (by omega) (by omega)
      have p2 : 100 ^ (j + 1) = 100 ^ j * 100 := Nat.pow_succ ..
      obtain ⟨p, hp⟩ : ∃ p : Nat, 100 ^ j = p := ⟨_, rfl⟩
      have hb1 : (p : Int) ≤ 1000000 := by omega
      dsimp only at hy
      rw [e1, hp] at hy
      rw [hp]
      clear p1
      gi_wp2
      refine hR.mono ?_
      rintro e W3 (⟨rfl, hJ3, hk3⟩ | ⟨rfl, hJx3⟩)
      · have hw3 : W3.cell? ⟨Bw, 0, none⟩ = some (.int .i64 (L : Int)) := by rw [← hw1]; unfold World.cell?; rw [hk3.1]
        have hk3' : W3.cell? ⟨Bk, 0, none⟩ = some (.string kBcd) := by rw [← hk1]; unfold World.cell?; rw [hk3.2]
        gi_wp2_with (gi_at_call 18; refine (base_bcd F _ hb hro _).mono ?_; rintro e w' ⟨rfl, rfl⟩)
        go_roundw
        case rel => exact ⟨j + 1, by omega, by rw [p2, hp]; simp, by simp, hw3, hk3', by rw [fin_take hlt]; exact hJ3⟩
        case measure => simp [intOf]; omega
      · gi_wp2
        refine bodyPost_ret (results_none rfl _ _ _) rfl ?_
        exact ⟨⟨_, rfl⟩, .inr ⟨_, by rw [← fin_take hlt]; exact List.take_prefix _ _, hJx3⟩⟩
    · obtain rfl : j = L := by omega
      rw [List.take_of_length_le (by simp)] at hJs
      have hnl : ¬ (j : Int) < (j : Int) := by omega
      gi_wp2
      go_end0
      exact ⟨⟨_, rfl⟩, .inl hJs⟩
theorem pstops_bcd (F : Fence) (n : Nat) (hf : F.fn 27) (hb : F.fn 18) (hro : F.round = none) (hn : 1 ≤ n) (L Bw Bk : Nat) (hL : L ≤ 4) (w : World) (hw : Boxed w Bw 3 (.int .i64 (L : Int))) (hk : Boxed w Bk 9 (.string kBcd)) :
    SeqStopsK F n Tryd.prog 27 #[.pointer (some ⟨Bw, 0, none⟩), .pointer (some ⟨Bk, 0, none⟩)] (fun x : Fin L => #[.int .i64 ((atP 4 L x.1 : Nat) : Int), .int .i64 ((100 ^ x.1 : Nat) : Int)]) (KeepT Bw Bk) (fun xs => xs = List.finRange L) (fun pre => pre <+: List.finRange L) L w := fun l J Jx W hbl hJ _ hY h0 =>
  places_bcd F n hf hb hro hn L Bw Bk hL l J Jx W ((hbl.cell (p := ⟨Bw, 0, none⟩) hw.lt).trans hw.cell) ((hbl.cell (p := ⟨Bk, 0, none⟩) hk.lt).trans hk.cell) hY h0

set_option maxRecDepth 100000 in
set_option maxHeartbeats 4000000 in
theorem places_dec (F : Fence) (n : Nat) (hf : F.fn 27) (hb : F.fn 18) (hro : F.round = none) (hn : 1 ≤ n) (L Bw Bk : Nat) (hL : L ≤ 8) (l : Nat) (J Jx : List (Fin L) → World → Prop) (W : World)
    (hw : W.cell? ⟨Bw, 0, none⟩ = some (.int .i64 (L : Int))) (hk : W.cell? ⟨Bk, 0, none⟩ = some (.string kDec))
    (hY : ∀ pre x W1, J pre W1 → pre.length < L → YieldAt F (n - 1) Tryd.prog l #[.int .i64 ((atP 5 L x.1 : Nat) : Int), .int .i64 ((10 ^ x.1 : Nat) : Int)] W1 fun e W' =>
      (e = .returned (.bool true) ∧ J (pre ++ [x]) W' ∧ KeepT Bw Bk W1 W') ∨ (e = .returned (.bool false) ∧ Jx (pre ++ [x]) W'))
    (h0 : J [] W) :
    CallsIn F n Tryd.prog 27 #[.func (.yield l) #[] #[], .pointer (some ⟨Bw, 0, none⟩), .pointer (some ⟨Bk, 0, none⟩)] W fun e W' => (∃ v, e = .returned v) ∧ ((∃ xs, xs = List.finRange L ∧ J xs W') ∨ (∃ pre, pre <+: List.finRange L ∧ Jx pre W')) := by
  refine callsIn_of_wp Tryd.func27 rfl hf ?_ hro
  simp only [Tryd.ntmps27, List.size_toArray, List.length_cons, List.length_nil, Nat.reduceAdd, Nat.reduceSub, Array.replicate_succ, Array.replicate_zero, List.push_toArray, List.append_toArray, List.nil_append, List.cons_append]
  gi_wp2
  gi_loopw [4, 8] (fun p q wr => ∃ j : Nat, j ≤ L ∧ p = .int .i64 ((10 ^ j : Nat) : Int) ∧ q = .int .i64 (j : Int) ∧ wr.cell? ⟨Bw, 0, none⟩ = some (.int .i64 (L : Int)) ∧ wr.cell? ⟨Bk, 0, none⟩ = some (.string kDec) ∧ J ((List.finRange L).take j) wr) (fun _ q _ => L - (intOf q).toNat)
  case atStart => exact ⟨0, Nat.zero_le _, rfl, rfl, hw, hk, h0⟩
  case round =>
    obtain ⟨j, hj, rfl, rfl, hw1, hk1, hJs⟩ := hrel
    by_cases hlt : j < L
    · have hlt' : (j : Int) < (L : Int) := by omega
      obtain ⟨fn, tmps, assign, body, hy, hR⟩ := hY _ ⟨j, hlt⟩ wr hJs (by rw [List.length_take, List.length_finRange]; omega)
      have e1 : ((atP 5 L j : Nat) : Int) = (L : Int) - 1 - (j : Int) := by unfold atP; simp <;> omega
      have p1 : 10 ^ j ≤ 10 ^ 7 := Nat.pow_le_pow_right (by omega) (by omega)
      have p2 : 10 ^ (j + 1) = 10 ^ j * 10 := Nat.pow_succ ..
      obtain ⟨p, hp⟩ : ∃ p : Nat, 10 ^ j = p := ⟨_, rfl⟩
      have hb1 : (p : Int) ≤ 10000000 := by omega
      dsimp only at hy
      rw [e1, hp] at hy
      rw [hp]
      clear p1
      gi_wp2
      refine hR.mono ?_
      rintro e W3 (⟨rfl, hJ3, hk3⟩ | ⟨rfl, hJx3⟩)
      · have hw3 : W3.cell? ⟨Bw, 0, none⟩ = some (.int .i64 (L : Int)) := by rw [← hw1]; unfold World.cell?; rw [hk3.1]
        have hk3' : W3.cell? ⟨Bk, 0, none⟩ = some (.string kDec) := by rw [← hk1]; unfold World.cell?; rw [hk3.2]
        gi_wp2_with (gi_at_call 18; refine (base_dec F _ hb hro _).mono ?_; rintro e w' ⟨rfl, rfl⟩)
        go_roundw
        case rel => exact ⟨j + 1, by omega, by rw [p2, hp]; simp, by simp, hw3, hk3', by rw [fin_take hlt]; exact hJ3⟩
        case measure => simp [intOf]; omega
      · gi_wp2
        refine bodyPost_ret (results_none rfl _ _ _) rfl ?_
        exact ⟨⟨_, rfl⟩, .inr ⟨_, by rw [← fin_take hlt]; exact List.take_prefix _ _, hJx3⟩⟩
    · obtain rfl : j = L := by omega
      rw [List.take_of_length_le (by simp)] at hJs
      have hnl : ¬ (j : Int) < (j : Int) := by omega
      gi_wp2
      go_end0
      exact ⟨⟨_, rfl⟩, .inl hJs⟩
theorem pstops_dec (F : Fence) (n : Nat) (hf : F.fn 27) (hb : F.fn 18) (hro : F.round = none) (hn : 1 ≤ n) (L Bw Bk : Nat) (hL : L ≤ 8) (w : World) (hw : Boxed w Bw 3 (.int .i64 (L : Int))) (hk : Boxed w Bk 9 (.string kDec)) :
    SeqStopsK F n Tryd.prog 27 #[.pointer (some ⟨Bw, 0, none⟩), .pointer (some ⟨Bk, 0, none⟩)] (fun x : Fin L => #[.int .i64 ((atP 5 L x.1 : Nat) : Int), .int .i64 ((10 ^ x.1 : Nat) : Int)]) (KeepT Bw Bk) (fun xs => xs = List.finRange L) (fun pre => pre <+: List.finRange L) L w := fun l J Jx W hbl hJ _ hY h0 =>
  places_dec F n hf hb hro hn L Bw Bk hL l J Jx W ((hbl.cell (p := ⟨Bw, 0, none⟩) hw.lt).trans hw.cell) ((hbl.cell (p := ⟨Bk, 0, none⟩) hk.lt).trans hk.cell) hY h0
end Go.Proofs.YtiimmebcmehnhaaDoor
