/-
  What the program's own Write returns of bcd (layer 6): the bytes, place by place. Conditions: a number that has a place in so many bytes.
-/
import Derived.Test.YtiimmebcmehnhaaDoorBitPL
namespace Go.Proofs.YtiimmebcmehnhaaDoor
open Go.RowKit Go.Shelf
set_option linter.unusedVariables false
attribute [local go_sem] Oper.semAt_some

set_option maxRecDepth 100000 in
set_option maxHeartbeats 4000000 in
theorem write_bcd (F : Fence) (n : Nat) (h1 : F.fn 14) (h2 : F.fn 20) (h3 : F.fn 27) (h4 : F.fn 18) (h5 : F.fn 21) (h6 : F.fn 11) (h7 : F.fn 9) (h8 : F.fn 17) (hro : F.round = none) (hn : 3 ≤ n) (w : World) (L N : Nat) (hL : 1 ≤ (L : Int) ∧ (L : Int) ≤ 4) (lo hi : Int) (hlo : lo ≤ (N : Int)) (hhi : (N : Int) ≤ hi) (hN : (N : Int) ≤ 4294967296)
    (cR : Hid (∀ j x, CallsIn F j Tryd.prog 11 #[.string kBcd, .int .i64 (L : Int)] x fun e w' => e = .returned (.bool true) ∧ w' = x))
    (cE : Hid (∀ j x, CallsIn F j Tryd.prog 9 #[.string kBcd, .int .i64 (L : Int)] x fun e w' => e = .returned (.tuple #[.int .i64 lo, .int .i64 hi]) ∧ w' = x)) :
    CallsIn F n Tryd.prog 14 #[.string kBcd, .int .i64 (L : Int), .int .i64 (N : Int)] w fun e w' => ∃ x, e = .returned (.tuple #[x, .int .i64 0]) ∧ BytesV w' x (rowP 4 100 L N (List.finRange L)) ∧ Below w.heap.size w w' := by
  have hn1 : 1 ≤ n := by omega
  have hmk : ∀ w, (Instr.makeSlice 22 (.int .i64 (L : Int)) (.int .i64 (L : Int))).run Tryd.prog w = .ok (.slice (some ⟨w.heap.size, 0, none⟩) L L) (w.alloc (.cells (madeCells #[.int .u8 0] L) 5)) := fun w => run_make_row' (P := Tryd.prog) 22 5 (.int .u8 0) 1 Tryd.underlying22 info_u8 rfl .i64 .i64 L (by omega) (by omega) w
  have hmx : Tryd.prog.follows .mixedOrders = true := by kernel_rfl
  refine callsIn_of_wp_marks Tryd.func14 rfl h1 ?_ hro
  simp only [Tryd.ntmps14, List.size_toArray, List.length_cons, List.length_nil, Nat.reduceAdd, Nat.reduceSub, Array.replicate_succ, Array.replicate_zero, List.push_toArray, List.append_toArray, List.nil_append, List.cons_append]
  gi_wp2_with (first | (gi_at_call 11; refine (cR.out _ _).mono ?_; rintro e w' ⟨rfl, rfl⟩) | (gi_at_call 9; refine (cE.out _ _).mono ?_; rintro e w' ⟨rfl, rfl⟩) | (gi_at_call 20; refine (places_mk F (n - 1) h2 hro _ _ _).mono ?_; rintro e w' ⟨rfl, rfl⟩))
  obtain ⟨W1, hW1⟩ : ∃ W1, ((w.alloc (.cells #[.string kBcd] 9)).alloc (.cells #[.int .i64 (N : Int)] 2)) = W1 := ⟨_, rfl⟩
  obtain ⟨bK, bN, hB1, hz1⟩ : Boxed W1 w.heap.size 9 (.string kBcd) ∧ Boxed W1 (w.heap.size + 1) 2 (.int .i64 (N : Int)) ∧ Below w.heap.size w W1 ∧ W1.heap.size = w.heap.size + 1 + 1 := by
    rw [← hW1]; exact two w kBcd (N : Int)
  rw [hW1]
  obtain ⟨W0, hW0, rB, bB, bk, bw, hB2, hsz⟩ := four W1 kBcd (w.heap.size + 1 + 1) L hz1 (by unfold maxLen; omega) (L : Int)
  rw [hW0]
  replace bK : Boxed W0 w.heap.size 9 (.string kBcd) := (hB2.block _ bK.lt).trans bK
  replace bN : Boxed W0 (w.heap.size + 1) 2 (.int .i64 (N : Int)) := (hB2.block _ bN.lt).trans bN
  have hB0 : Below w.heap.size w W0 := hB1.trans (hB2.mono (by omega))
  clear hW0 hW1 hB1 hB2 hz1 hmk cR cE
  refine range2 47 48 11 12 (fun x : Fin L => .int .i64 ((atP 4 L x.1 : Nat) : Int)) (fun x : Fin L => .int .i64 ((100 ^ x.1 : Nat) : Int)) hro hn1 (gf := 27) (lb := #[.pointer (some ⟨w.heap.size + 1 + 1 + 1 + 1 + 1, 0, none⟩), .pointer (some ⟨w.heap.size + 1 + 1 + 1 + 1, 0, none⟩)]) rfl h3 (enters_of Tryd.func27 (by kernel_rfl) rfl)
    (pstops_bcd F (n - 1) h3 h4 hro (by omega) L (w.heap.size + 1 + 1 + 1 + 1 + 1) (w.heap.size + 1 + 1 + 1 + 1) (by omega) W0 bw bk) KeepT.trans (fun W l o o' hl _ _ _ => KeepT.put (w := W0) (by omega) (by omega) W l o o' hl) (Below.refl _ _) rfl
    (fun pre W => (Boxed W (w.heap.size) 9 (.string kBcd) ∧ Boxed W (w.heap.size + 1) 2 (.int .i64 (N : Int)) ∧ Boxed W (w.heap.size + 1 + 1 + 1) 22 (.slice (some ⟨w.heap.size + 1 + 1, 0, none⟩) L L) ∧ RowU W (w.heap.size + 1 + 1) L (rowP 4 100 L N pre)) ∧ Below w.heap.size w W)
    (fun _ _ _ => False)
    (OwnFrom.and (OwnFrom.and (Own.from (boxed_own _ _ _) _) (OwnFrom.and (Own.from (boxed_own _ _ _) _) (OwnFrom.and (Own.from (boxed_own _ _ _) _) (Own.from (rowU_own _ _ _) _)))) (ownFrom_below (Nat.le_refl _) (by omega)))
    (fun c => ownFrom_pure _ _)
    ⟨⟨bK, bN, bB, rB⟩, hB0⟩
    ?assign ?body ?done ?stop (fun W => KeepT.refl _ _ W)
  case assign =>
    intro l x W K hK
    simp only [upd2, List.setIfInBounds_toArray, List.set_cons_zero, List.set_cons_succ] at hK
    gi_wp2
    exact hK
  case body =>
    rintro l pre x W ⟨⟨bK1, bN1, bB1, rB1⟩, hB1⟩ hlt
    simp only [upd2, List.setIfInBounds_toArray, List.set_cons_zero, List.set_cons_succ]
    have hd : 1 ≤ n - 1 - 1 := by omega
    have cK := bK1.cell
    have cN := bN1.cell
    have cB := bB1.cell
    have hA1 : atP 4 L x.1 < L := atP_lt x.2
    obtain ⟨ov, rc, rf⟩ : ∃ ov : Int, W.cell? ⟨w.heap.size + 1 + 1, atP 4 L x.1, none⟩ = some (.int .u8 ov) ∧ W.frozen? ⟨w.heap.size + 1 + 1, atP 4 L x.1, none⟩ = false := ⟨_, rB1.cell (atP 4 L x.1) (by rw [rowP_len]; exact hA1)⟩
    have hrs := rB1.set (atP 4 L x.1) (dgP 4 100 N x.1)
    rw [← rowP_snoc] at hrs
    obtain ⟨A, hA0⟩ : ∃ A, atP 4 L x.1 = A := ⟨_, rfl⟩
    rw [hA0] at hA1 rc rf hrs ⊢
    have hpp : 0 < 100 ^ x.1 := Nat.pow_pos (by omega)
    have hdg : dgP 4 100 N x.1 = digV 4 (N / 100 ^ x.1 % 100) := rfl
    obtain ⟨p0, hp0⟩ : ∃ p0 : Nat, 100 ^ x.1 = p0 := ⟨_, rfl⟩
    rw [hp0] at hpp hdg ⊢
    obtain ⟨q, hq⟩ : ∃ q : Nat, N / p0 = q := ⟨_, rfl⟩
    rw [hq] at hdg
    obtain ⟨d, hd0⟩ : ∃ d : Nat, q % 100 = d := ⟨_, rfl⟩
    rw [hd0] at hdg
    have hdb : d < 100 := by rw [← hd0]; exact Nat.mod_lt _ (by omega)
    have hqN : q ≤ N := by rw [← hq]; exact Nat.div_le_self _ _
    have q1 : (N : Int) / (p0 : Int) = (q : Int) := by rw [← hq]; rfl
    have q2 : Int.tdiv (N : Int) (p0 : Int) = (q : Int) := by rw [Int.tdiv_eq_ediv_of_nonneg (by omega)]; exact q1
    have d1 : (q : Int) % 100 = (d : Int) := by rw [← hd0]; rfl
    have hp1 : 1 ≤ (p0 : Int) := by omega
    have hA2 : (A : Int) < (L : Int) := by omega
    have hqb : (q : Int) ≤ 4294967296 := by omega
    have hbs : Hid (∀ m x, CallsIn F m Tryd.prog 18 #[.string kBcd] x fun e w' => e = .returned (.int .i64 100) ∧ w' = x) := fun m x => base_bcd F m h4 hro x
    have hds : Hid (∀ m x, CallsIn F m Tryd.prog 21 #[.string kBcd, .int .i64 (d : Int)] x fun e w' => e = .returned (.int .u8 ((digV 4 d : Nat) : Int)) ∧ w' = x) := fun m x => digit_bcd F m h5 hro d hdb x
    rw [hdg] at hrs
    replace hrs : Hid (RowU (W.setCell ⟨w.heap.size + 1 + 1, A, none⟩ (.int .u8 ((digV 4 d : Nat) : Int))) (w.heap.size + 1 + 1) L (rowP 4 100 L N (pre ++ [x]))) := hrs
    obtain ⟨dg, hdg0⟩ : ∃ dg, digV 4 d = dg := ⟨_, rfl⟩
    rw [hdg0] at hrs hds
    clear hdg hp0 hq hd0 hA0 hdg0
    gi_wp2
    refine region_last_round (by simp) hro hmx (by kernel_rfl) (by kernel_rfl) (by kernel_rfl) (by kernel_rfl) ?_
    simp only [List.dropLast_cons_cons, List.dropLast_singleton, List.getLast_cons_cons, List.getLast_singleton]
    repeat (gi_big_quiet_step ((first | (gi_at_call 18; exact CallsIn.quiet_of_same (hbs.out _ _)) | (gi_at_call 21; exact CallsIn.quiet_of_same (hds.out _ _)))))
    refine wpQuietIn_nil ?_
    intro _ hw'
    obtain ⟨nq, hw''⟩ := hw'
    subst hw''
    gi_wp2
    have far : ∀ j, j ≠ w.heap.size + 1 + 1 → ((W.drewN nq).setCell ⟨w.heap.size + 1 + 1, A, none⟩ (.int .u8 ((dg : Nat) : Int))).heap[j]? = W.heap[j]? := fun j hj => blk_far (W.drewN nq) _ _ j hj
    exact ⟨((keeps_dn W nq).trans (KeepsOthers.setCell _ _ _)).from _, ⟨far _ (by omega), far _ (by omega)⟩,
      ⟨(far _ (by omega)).trans bK1, (far _ (by omega)).trans bN1, (far _ (by omega)).trans bB1, hrs.out.block rfl⟩, (belowDn hB1 nq).setCell (p := ⟨w.heap.size + 1 + 1, A, none⟩) (by show w.heap.size ≤ w.heap.size + 1 + 1; omega) _⟩
  case done =>
    rintro D ys W hD rfl ⟨⟨bK1, bN1, bB1, rB1⟩, hB1⟩ hK
    have cB := bB1.cell
    gi_wp2
    have lt2 := rB1.lt
    have r3 : RowU (W.putObj D (.deferred none)) (w.heap.size + 1 + 1) L (rowP 4 100 L N (List.finRange L)) := rB1.block (World.putObj_heap_other (by omega))
    have v3 := r3.v
    rw [rowP_len] at v3
    refine ⟨by simp, .inl ⟨_, _, rfl, run_takeDeferred hK, ?_⟩⟩
    exact ⟨_, results_tmp2 rfl _ _ _, _, rfl, v3, hB1.trans (belowK_b (w := w) (Nat.le_refl _) W D _ _ (by omega) hK rfl rfl)⟩
  case stop =>
    rintro D c pre W _ _ h _
    exact h.elim
end Go.Proofs.YtiimmebcmehnhaaDoor
