/-
  What the program's own total returns of dec (layer 6). Conditions: bytes in memory that was there before, as many as the kind may have.
-/
import Derived.Test.YtiimmebcmehnhaaDoorBitPD
import Derived.Test.YtiimmebcmehnhaaDoorRoundQ
namespace Go.Proofs.YtiimmebcmehnhaaDoor
open Go.RowKit Go.Shelf
set_option linter.unusedVariables false

attribute [local go_sem] Oper.semAt_some

set_option maxRecDepth 100000 in
set_option maxHeartbeats 4000000 in
theorem total_dec (F : Fence) (n : Nat) (h1 : F.fn 16) (h2 : F.fn 20) (h3 : F.fn 27) (h4 : F.fn 18) (h5 : F.fn 24) (hro : F.round = none) (hn : 3 ≤ n) (w : World) (g o cap : Nat) (bs : List Nat) (hl : bs.length ≤ 8) (hg : g < w.heap.size) (hbs : AllBytes bs) (hb : BytesIn w g o bs) :
    CallsIn F n Tryd.prog 16 #[.string kDec, .slice (some ⟨g, o, none⟩) bs.length cap] w fun e w' => e = .returned (.tuple #[.int .i64 (totN 5 10 bs), .bool (okAll 5 bs)]) ∧ Below w.heap.size w w' := by
  have hn1 : 1 ≤ n := by omega
  refine callsIn_of_wp_marks Tryd.func16 rfl h1 ?_ hro
  simp only [Tryd.ntmps16, List.size_toArray, List.length_cons, List.length_nil, Nat.reduceAdd, Nat.reduceSub, Array.replicate_succ, Array.replicate_zero, List.push_toArray, List.append_toArray, List.nil_append, List.cons_append]
  gi_wp2_with (gi_at_call 20; refine (places_mk F (n - 1) h2 hro _ _ _).mono ?_; rintro e w' ⟨rfl, rfl⟩)
  obtain ⟨W0, hW0, bK, bV, bR, bO, bN, bk, bw, hB0, hsz⟩ := seven w kDec (.slice (some ⟨g, o, none⟩) bs.length cap) (bs.length : Int)
  rw [hW0]
  clear hW0
  refine wpIn_rangeFunc_ownG_of_H hro hn1 (gf := 27) (lb := #[.pointer (some ⟨w.heap.size + 1 + 1 + 1 + 1 + 1 + 1, 0, none⟩), .pointer (some ⟨w.heap.size + 1 + 1 + 1 + 1 + 1, 0, none⟩)]) rfl h3 (enters_of Tryd.func27 (by kernel_rfl) rfl)
    (pstops_dec F (n - 1) h3 h4 hro (by omega) bs.length (w.heap.size + 1 + 1 + 1 + 1 + 1 + 1) (w.heap.size + 1 + 1 + 1 + 1 + 1) (by omega) W0 bw bk) KeepT.trans (fun W l o o' hl _ _ _ => KeepT.put (w := W0) (by omega) (by omega) W l o o' hl) (Below.refl _ _) (fun _ => rfl)
    (fun pre W => (((∀ x ∈ pre, cntB 5 (byP 5 bs x.1) = true) ∧ Boxed W (w.heap.size) 9 (.string kDec) ∧ Boxed W (w.heap.size + 1) 22 (.slice (some ⟨g, o, none⟩) bs.length cap) ∧ Boxed W (w.heap.size + 1 + 1) 2 (.int .i64 0) ∧ Boxed W (w.heap.size + 1 + 1 + 1) 4 (.bool false) ∧ Boxed W (w.heap.size + 1 + 1 + 1 + 1) 2 (.int .i64 (sumP 5 10 bs pre))) ∧ Below w.heap.size w W))
    (fun c pre W => ((c = .ret ∧ ∃ x ∈ pre, cntB 5 (byP 5 bs x.1) = false) ∧ Boxed W (w.heap.size + 1 + 1) 2 (.int .i64 0) ∧ Boxed W (w.heap.size + 1 + 1 + 1) 4 (.bool false)) ∧ Below w.heap.size w W)
    (OwnFrom.and (OwnFrom.and (ownFrom_pure _ _) (OwnFrom.and (Own.from (boxed_own _ _ _) _) (OwnFrom.and (Own.from (boxed_own _ _ _) _) (OwnFrom.and (Own.from (boxed_own _ _ _) _) (OwnFrom.and (Own.from (boxed_own _ _ _) _) (Own.from (boxed_own _ _ _) _)))))) (ownFrom_below (Nat.le_refl _) (by omega)))
    (fun c => OwnFrom.and (OwnFrom.and (ownFrom_pure _ _) (OwnFrom.and (Own.from (boxed_own _ _ _) _) (Own.from (boxed_own _ _ _) _))) (ownFrom_below (Nat.le_refl _) (by omega)))
    ⟨⟨by simp, bK, bV, bR, bO, bN⟩, hB0⟩
    (fun x => { tmps := #[.string kDec, .slice (some ⟨g, o, none⟩) bs.length cap, .pointer (some ⟨w.heap.size, 0, none⟩), .pointer (some ⟨w.heap.size + 1, 0, none⟩), .pointer (some ⟨w.heap.size + 1 + 1, 0, none⟩), .pointer (some ⟨w.heap.size + 1 + 1 + 1, 0, none⟩), .pointer (some ⟨w.heap.size + 1 + 1 + 1 + 1, 0, none⟩), .int .i64 ((atP 5 bs.length x.1 : Nat) : Int), .int .i64 ((10 ^ x.1 : Nat) : Int), undef, undef, .string kDec, .slice (some ⟨g, o, none⟩) bs.length cap, .int .i64 (bs.length : Int), .func (.func 27) #[] #[.pointer (some ⟨w.heap.size + 1 + 1 + 1 + 1 + 1 + 1, 0, none⟩), .pointer (some ⟨w.heap.size + 1 + 1 + 1 + 1 + 1, 0, none⟩)], .int .i64 ((atP 5 bs.length x.1 : Nat) : Int), .int .i64 ((10 ^ x.1 : Nat) : Int), undef, undef, undef, undef, undef, undef, undef, undef, undef, undef, undef, undef, undef, undef, undef, undef, undef], defers := [] })
    ?assign ?body ?done ?stop (fun W => KeepT.refl _ _ W)
  case assign =>
    intro l x W K hK
    gi_wp2
    exact hK
  case body =>
    rintro l pre x W ⟨⟨hp, bK1, bV1, bR1, bO1, bN1⟩, hB1⟩ hlt
    have hd : 1 ≤ n - 1 - 1 := by omega
    have hmx : Tryd.prog.follows .mixedOrders = true := by kernel_rfl
    have cK := bK1.cell
    have cV := bV1.cell
    have cR := bR1.cell
    have fR := bR1.frozen
    have cO := bO1.cell
    have fO := bO1.frozen
    have cN := bN1.cell
    have fN := bN1.frozen
    obtain ⟨hj, hby⟩ := byP_get (k := 5) (bs := bs) x.2
    have hcell := hb.at hg hB1 (atP 5 bs.length x.1) hj
    have hcl : byP 5 bs x.1 < 256 := by rw [hby]; exact hbs _ (List.getElem_mem hj)
    rw [← hby] at hcell
    have hterm : termP 5 10 bs x.1 = cntV 5 (byP 5 bs x.1) * ((10 ^ x.1 : Nat) : Int) := rfl
    have hsn := sumP_snoc 5 10 bs pre x
    have hbd := fun h => cntV_bd (k := 5) hcl h
    have p1 : 10 ^ x.1 ≤ 10 ^ 7 := Nat.pow_le_pow_right (by omega) (by have := x.2; omega)
    have htb : ∀ y : Fin bs.length, cntB 5 (byP 5 bs y.1) = true → 0 ≤ termP 5 10 bs y.1 ∧ termP 5 10 bs y.1 ≤ ((10 ^ 8 : Nat) : Int) := fun y hy => by
      obtain ⟨hj', hby'⟩ := byP_get (k := 5) (bs := bs) y.2
      have hcl' : byP 5 bs y.1 < 256 := by rw [hby']; exact hbs _ (List.getElem_mem hj')
      have q := cntV_bd hcl' hy
      have p2 : 10 ^ y.1 ≤ 10 ^ 7 := Nat.pow_le_pow_right (by omega) (by have := y.2; omega)
      unfold termP
      obtain ⟨z, hz⟩ : ∃ z : Nat, cntV 5 (byP 5 bs y.1) = z := ⟨(cntV 5 (byP 5 bs y.1)).toNat, by omega⟩
      rw [hz] at q ⊢
      simp at q
      have p3 : z * 10 ^ y.1 ≤ 9 * 10 ^ 7 := Nat.mul_le_mul (by omega) p2
      rw [← Int.natCast_mul]
      omega
    have hsb := sum_bd (pre := pre) (M := 10 ^ 8) (fun y hy => htb y (hp y hy))
    have htx := htb x
    clear htb p1 hb hbs hby hterm
    have hA : ((atP 5 bs.length x.1 : Nat) : Int) < (bs.length : Int) := by omega
    obtain ⟨c, hc⟩ : ∃ c, byP 5 bs x.1 = c := ⟨_, rfl⟩
    obtain ⟨A, hA0⟩ : ∃ A, atP 5 bs.length x.1 = A := ⟨_, rfl⟩
    obtain ⟨p, hp0⟩ : ∃ p : Int, ((10 ^ x.1 : Nat) : Int) = p := ⟨_, rfl⟩
    obtain ⟨s, hs0⟩ : ∃ s : Int, sumP 5 10 bs pre = s := ⟨_, rfl⟩
    have hq0 : termP 5 10 bs x.1 = cntV 5 c * p := by rw [← hc, ← hp0]; rfl
    have hlen : (pre.length : Int) ≤ 7 := by omega
    have hcl' : c < 256 := by rw [← hc]; exact hcl
    obtain ⟨dv, hd0⟩ : ∃ dv : Int, cntV 5 c = dv := ⟨_, rfl⟩
    rw [hA0] at hcell hA ⊢
    rw [hc] at hcell
    rw [hp0]
    rw [hs0] at cN
    cases hok : cntB 5 c with
    | false =>
      have hcc : Hid (∀ m x, CallsIn F m Tryd.prog 24 #[.string kDec, .int .u8 (c : Int)] x fun e w' => e = .returned (.tuple #[.int .i64 dv, .bool false]) ∧ w' = x) := fun m x => by
        have := count_dec F m h5 hro c hcl' x
        rwa [hd0, hok] at this
      clear htx hsn hsb hq0 hbd hs0 hp0 hd0 cN fN
      gi_wp2
      refine wpIn_region_quiet_round hro hmx (by kernel_rfl) (by kernel_rfl) ?_
      repeat (gi_big_quiet_step ((gi_at_call 24; exact CallsIn.quiet_of_same (hcc.out _ _))))
      refine wpQuietIn_nil ?_
      intro _ hw'
      obtain ⟨nq, hw''⟩ := hw'
      subst hw''
      gi_wp2
      exact ⟨(((keeps_dn W nq).trans (KeepsOthers.setCell _ _ _)).trans (KeepsOthers.setCell _ _ _)).from _, ⟨⟨rfl, x, by simp, by rw [hc]; exact hok⟩, ((dn_box bR1 nq).set _).other (by omega) _, ((dn_box bO1 nq).other (by omega) _).set _⟩, ((belowDn hB1 nq).setCell (p := ⟨w.heap.size + 1 + 1, 0, none⟩) (by show w.heap.size ≤ w.heap.size + 1 + 1; omega) _).setCell (p := ⟨w.heap.size + 1 + 1 + 1, 0, none⟩) (by show w.heap.size ≤ w.heap.size + 1 + 1 + 1; omega) _⟩
    | true =>
      have hcc : Hid (∀ m x, CallsIn F m Tryd.prog 24 #[.string kDec, .int .u8 (c : Int)] x fun e w' => e = .returned (.tuple #[.int .i64 dv, .bool true]) ∧ w' = x) := fun m x => by
        have := count_dec F m h5 hro c hcl' x
        rwa [hd0, hok] at this
      rw [hc] at htx
      have htx := htx hok
      rw [hq0] at htx hsn
      rw [hd0] at htx hsn
      obtain ⟨q, hq⟩ : ∃ q : Int, dv * p = q := ⟨_, rfl⟩
      rw [hq] at htx hsn
      rw [hs0] at hsb hsn
      have hs1 : 0 ≤ s ∧ s ≤ 700000000 := by
        refine ⟨hsb.1, Int.le_trans hsb.2 ?_⟩
        have : (pre.length : Int) * ((10 ^ 8 : Nat) : Int) ≤ 7 * ((10 ^ 8 : Nat) : Int) := Int.mul_le_mul_of_nonneg_right hlen (by omega)
        omega
      have hq1 : 0 ≤ q ∧ q ≤ 100000000 := ⟨htx.1, by omega⟩
      replace hsn : Hid (sumP 5 10 bs (pre ++ [x]) = s + q) := hsn
      clear htx hsb hq0 hbd hs0 hp0 hd0 cR fR cO fO
      gi_wp2
      refine wpIn_region_quiet_round hro hmx (by kernel_rfl) (by kernel_rfl) ?_
      repeat (gi_big_quiet_step ((gi_at_call 24; exact CallsIn.quiet_of_same (hcc.out _ _))))
      refine wpQuietIn_nil ?_
      intro _ hw'
      obtain ⟨nq, hw''⟩ := hw'
      subst hw''
      gi_wp2
      exact ⟨((keeps_dn W nq).trans (KeepsOthers.setCell _ _ _)).from _, ⟨blk_far (W.drewN nq) _ _ _ (by show w.heap.size + 1 + 1 + 1 + 1 + 1 + 1 ≠ w.heap.size + 1 + 1 + 1 + 1; omega), blk_far (W.drewN nq) _ _ _ (by show w.heap.size + 1 + 1 + 1 + 1 + 1 ≠ w.heap.size + 1 + 1 + 1 + 1; omega)⟩,
        ⟨fun y hy => (List.mem_append.1 hy).elim (hp y) (fun e => by rw [List.mem_singleton.1 e, hc]; exact hok), (dn_box bK1 nq).other (by omega) _, (dn_box bV1 nq).other (by omega) _, (dn_box bR1 nq).other (by omega) _, (dn_box bO1 nq).other (by omega) _, by rw [hsn.out]; exact (dn_box bN1 nq).set _⟩, (belowDn hB1 nq).setCell (p := ⟨w.heap.size + 1 + 1 + 1 + 1, 0, none⟩) (by show w.heap.size ≤ w.heap.size + 1 + 1 + 1 + 1; omega) _⟩
  case done =>
    rintro D ys W hD rfl ⟨⟨hp, bK1, bV1, bR1, bO1, bN1⟩, hB1⟩ hK
    have hz : Hid (okAll 5 bs = true ∧ totN 5 10 bs = sumP 5 10 bs (List.finRange bs.length)) := ⟨ok_all hp, if_pos (ok_all hp)⟩
    clear hp
    obtain ⟨S, hS⟩ : ∃ S, sumP 5 10 bs (List.finRange bs.length) = S := ⟨_, rfl⟩
    rw [hS] at bN1 hz
    clear hS
    have cR := bR1.cell
    have fR := bR1.frozen
    have cO := bO1.cell
    have fO := bO1.frozen
    have cN := bN1.cell
    gi_wp2
    have hK' := ((KeepsOthers.setCell W ⟨w.heap.size + 1 + 1, 0, none⟩ (.int .i64 S)).trans (KeepsOthers.setCell _ ⟨w.heap.size + 1 + 1 + 1, 0, none⟩ (.bool true))).same D _ hK rfl
    have R3 : Boxed (((W.setCell ⟨w.heap.size + 1 + 1, 0, none⟩ (.int .i64 S)).setCell ⟨w.heap.size + 1 + 1 + 1, 0, none⟩ (.bool true)).putObj D (.deferred none)) (w.heap.size + 1 + 1) 2 (.int .i64 S) := ((bR1.set _).other (by omega) _).kept (grownBy_putObj' _ D _) (fun e => by injection e with e; omega)
    have O3 : Boxed (((W.setCell ⟨w.heap.size + 1 + 1, 0, none⟩ (.int .i64 S)).setCell ⟨w.heap.size + 1 + 1 + 1, 0, none⟩ (.bool true)).putObj D (.deferred none)) (w.heap.size + 1 + 1 + 1) 4 (.bool true) := ((bO1.other (by omega) _).set _).kept (grownBy_putObj' _ D _) (fun e => by injection e with e; omega)
    have X : Below w.heap.size w (((W.setCell ⟨w.heap.size + 1 + 1, 0, none⟩ (.int .i64 S)).setCell ⟨w.heap.size + 1 + 1 + 1, 0, none⟩ (.bool true)).putObj D (.deferred none)) := ((hB1.setCell (p := ⟨w.heap.size + 1 + 1, 0, none⟩) (by show w.heap.size ≤ w.heap.size + 1 + 1; omega) _).setCell (p := ⟨w.heap.size + 1 + 1 + 1, 0, none⟩) (by show w.heap.size ≤ w.heap.size + 1 + 1 + 1; omega) _).trans (belowK_b (w := w) (Nat.le_refl _) _ D _ _ (by omega) hK' rfl rfl)
    refine ⟨by simp, .inl ⟨_, _, rfl, run_takeDeferred hK', ?_⟩⟩
    refine ⟨.tuple #[.int .i64 S, .bool true], ?_, by rw [hz.out.1, hz.out.2], X⟩
    have c2 := R3.cell
    have c3 := O3.cell
    simp [results, Tryd.f16, go_sem, c2, c3]
  case stop =>
    rintro D c pre W hD hpre ⟨⟨⟨rfl, x, hx, hbad⟩, bR1, bO1⟩, hB1⟩ hK
    have hz : Hid (okAll 5 bs = false ∧ totN 5 10 bs = 0) := ⟨ok_not hbad, if_neg (by rw [ok_not hbad]; decide)⟩
    gi_wp2
    have R3 : Boxed (W.putObj D (.deferred none)) (w.heap.size + 1 + 1) 2 (.int .i64 0) := bR1.kept (grownBy_putObj' _ D _) (fun e => by injection e with e; omega)
    have O3 : Boxed (W.putObj D (.deferred none)) (w.heap.size + 1 + 1 + 1) 4 (.bool false) := bO1.kept (grownBy_putObj' _ D _) (fun e => by injection e with e; omega)
    refine ⟨by simp, .inl ⟨_, _, rfl, run_takeDeferred hK, ?_⟩⟩
    refine ⟨.tuple #[.int .i64 0, .bool false], ?_, by rw [hz.out.1, hz.out.2], hB1.trans (belowK_b (w := w) (Nat.le_refl _) W D _ _ (by omega) hK rfl rfl)⟩
    have c2 := R3.cell
    have c3 := O3.cell
    simp [results, Tryd.f16, go_sem, c2, c3]

set_option maxRecDepth 100000 in
set_option maxHeartbeats 4000000 in
theorem total_dec_nil (F : Fence) (n : Nat) (h1 : F.fn 16) (h2 : F.fn 20) (h3 : F.fn 27) (h4 : F.fn 18) (h5 : F.fn 24) (hro : F.round = none) (hn : 3 ≤ n) (w : World) :
    CallsIn F n Tryd.prog 16 #[.string kDec, .slice none 0 0] w fun e w' => e = .returned (.tuple #[.int .i64 (totN 5 10 ([] : List Nat)), .bool (okAll 5 ([] : List Nat))]) ∧ Below w.heap.size w w' := by
  have hn1 : 1 ≤ n := by omega
  refine callsIn_of_wp_marks Tryd.func16 rfl h1 ?_ hro
  simp only [Tryd.ntmps16, List.size_toArray, List.length_cons, List.length_nil, Nat.reduceAdd, Nat.reduceSub, Array.replicate_succ, Array.replicate_zero, List.push_toArray, List.append_toArray, List.nil_append, List.cons_append]
  gi_wp2_with (gi_at_call 20; refine (places_mk F (n - 1) h2 hro _ _ _).mono ?_; rintro e w' ⟨rfl, rfl⟩)
  obtain ⟨W0, hW0, bK, bV, bR, bO, bN, bk, bw, hB0, hsz⟩ := seven w kDec (.slice none 0 0) 0
  rw [hW0]
  clear hW0
  refine wpIn_rangeFunc_ownG_of_H hro hn1 (gf := 27) (lb := #[.pointer (some ⟨w.heap.size + 1 + 1 + 1 + 1 + 1 + 1, 0, none⟩), .pointer (some ⟨w.heap.size + 1 + 1 + 1 + 1 + 1, 0, none⟩)]) rfl h3 (enters_of Tryd.func27 (by kernel_rfl) rfl)
    (pstops_dec F (n - 1) h3 h4 hro (by omega) 0 (w.heap.size + 1 + 1 + 1 + 1 + 1 + 1) (w.heap.size + 1 + 1 + 1 + 1 + 1) (by omega) W0 bw bk) KeepT.trans (fun W l o o' hl _ _ _ => KeepT.put (w := W0) (by omega) (by omega) W l o o' hl) (Below.refl _ _) (fun _ => rfl)
    (fun pre W => (((∀ x ∈ pre, cntB 5 (byP 5 ([] : List Nat) x.1) = true) ∧ Boxed W (w.heap.size) 9 (.string kDec) ∧ Boxed W (w.heap.size + 1) 22 (.slice none 0 0) ∧ Boxed W (w.heap.size + 1 + 1) 2 (.int .i64 0) ∧ Boxed W (w.heap.size + 1 + 1 + 1) 4 (.bool false) ∧ Boxed W (w.heap.size + 1 + 1 + 1 + 1) 2 (.int .i64 (sumP 5 10 ([] : List Nat) pre))) ∧ Below w.heap.size w W))
    (fun c pre W => ((c = .ret ∧ ∃ x ∈ pre, cntB 5 (byP 5 ([] : List Nat) x.1) = false) ∧ Boxed W (w.heap.size + 1 + 1) 2 (.int .i64 0) ∧ Boxed W (w.heap.size + 1 + 1 + 1) 4 (.bool false)) ∧ Below w.heap.size w W)
    (OwnFrom.and (OwnFrom.and (ownFrom_pure _ _) (OwnFrom.and (Own.from (boxed_own _ _ _) _) (OwnFrom.and (Own.from (boxed_own _ _ _) _) (OwnFrom.and (Own.from (boxed_own _ _ _) _) (OwnFrom.and (Own.from (boxed_own _ _ _) _) (Own.from (boxed_own _ _ _) _)))))) (ownFrom_below (Nat.le_refl _) (by omega)))
    (fun c => OwnFrom.and (OwnFrom.and (ownFrom_pure _ _) (OwnFrom.and (Own.from (boxed_own _ _ _) _) (Own.from (boxed_own _ _ _) _))) (ownFrom_below (Nat.le_refl _) (by omega)))
    ⟨⟨by simp, bK, bV, bR, bO, bN⟩, hB0⟩
    (fun x => { tmps := #[.string kDec, .slice none 0 0, .pointer (some ⟨w.heap.size, 0, none⟩), .pointer (some ⟨w.heap.size + 1, 0, none⟩), .pointer (some ⟨w.heap.size + 1 + 1, 0, none⟩), .pointer (some ⟨w.heap.size + 1 + 1 + 1, 0, none⟩), .pointer (some ⟨w.heap.size + 1 + 1 + 1 + 1, 0, none⟩), .int .i64 ((atP 5 0 x.1 : Nat) : Int), .int .i64 ((10 ^ x.1 : Nat) : Int), undef, undef, .string kDec, .slice none 0 0, .int .i64 0, .func (.func 27) #[] #[.pointer (some ⟨w.heap.size + 1 + 1 + 1 + 1 + 1 + 1, 0, none⟩), .pointer (some ⟨w.heap.size + 1 + 1 + 1 + 1 + 1, 0, none⟩)], .int .i64 ((atP 5 0 x.1 : Nat) : Int), .int .i64 ((10 ^ x.1 : Nat) : Int), undef, undef, undef, undef, undef, undef, undef, undef, undef, undef, undef, undef, undef, undef, undef, undef, undef], defers := [] })
    ?assign ?body ?done ?stop (fun W => KeepT.refl _ _ W)
  case assign =>
    intro l x W K hK
    gi_wp2
    exact hK
  case body =>
    rintro l pre x W ⟨⟨hp, bK1, bV1, bR1, bO1, bN1⟩, hB1⟩ hlt
    exact x.elim0
  case done =>
    rintro D ys W hD rfl ⟨⟨hp, bK1, bV1, bR1, bO1, bN1⟩, hB1⟩ hK
    have hz : Hid (okAll 5 ([] : List Nat) = true ∧ totN 5 10 ([] : List Nat) = sumP 5 10 ([] : List Nat) (List.finRange 0)) := ⟨rfl, rfl⟩
    clear hp
    obtain ⟨S, hS⟩ : ∃ S, sumP 5 10 ([] : List Nat) (List.finRange 0) = S := ⟨_, rfl⟩
    rw [hS] at bN1 hz
    clear hS
    have cR := bR1.cell
    have fR := bR1.frozen
    have cO := bO1.cell
    have fO := bO1.frozen
    have cN := bN1.cell
    gi_wp2
    have hK' := ((KeepsOthers.setCell W ⟨w.heap.size + 1 + 1, 0, none⟩ (.int .i64 S)).trans (KeepsOthers.setCell _ ⟨w.heap.size + 1 + 1 + 1, 0, none⟩ (.bool true))).same D _ hK rfl
    have R3 : Boxed (((W.setCell ⟨w.heap.size + 1 + 1, 0, none⟩ (.int .i64 S)).setCell ⟨w.heap.size + 1 + 1 + 1, 0, none⟩ (.bool true)).putObj D (.deferred none)) (w.heap.size + 1 + 1) 2 (.int .i64 S) := ((bR1.set _).other (by omega) _).kept (grownBy_putObj' _ D _) (fun e => by injection e with e; omega)
    have O3 : Boxed (((W.setCell ⟨w.heap.size + 1 + 1, 0, none⟩ (.int .i64 S)).setCell ⟨w.heap.size + 1 + 1 + 1, 0, none⟩ (.bool true)).putObj D (.deferred none)) (w.heap.size + 1 + 1 + 1) 4 (.bool true) := ((bO1.other (by omega) _).set _).kept (grownBy_putObj' _ D _) (fun e => by injection e with e; omega)
    have X : Below w.heap.size w (((W.setCell ⟨w.heap.size + 1 + 1, 0, none⟩ (.int .i64 S)).setCell ⟨w.heap.size + 1 + 1 + 1, 0, none⟩ (.bool true)).putObj D (.deferred none)) := ((hB1.setCell (p := ⟨w.heap.size + 1 + 1, 0, none⟩) (by show w.heap.size ≤ w.heap.size + 1 + 1; omega) _).setCell (p := ⟨w.heap.size + 1 + 1 + 1, 0, none⟩) (by show w.heap.size ≤ w.heap.size + 1 + 1 + 1; omega) _).trans (belowK_b (w := w) (Nat.le_refl _) _ D _ _ (by omega) hK' rfl rfl)
    refine ⟨by simp, .inl ⟨_, _, rfl, run_takeDeferred hK', ?_⟩⟩
    refine ⟨.tuple #[.int .i64 S, .bool true], ?_, by rw [hz.out.1, hz.out.2], X⟩
    have c2 := R3.cell
    have c3 := O3.cell
    simp [results, Tryd.f16, go_sem, c2, c3]
  case stop =>
    rintro D c pre W hD hpre ⟨⟨⟨rfl, x, hx, hbad⟩, bR1, bO1⟩, hB1⟩ hK
    have hz : Hid (okAll 5 ([] : List Nat) = false ∧ totN 5 10 ([] : List Nat) = 0) := x.elim0
    gi_wp2
    have R3 : Boxed (W.putObj D (.deferred none)) (w.heap.size + 1 + 1) 2 (.int .i64 0) := bR1.kept (grownBy_putObj' _ D _) (fun e => by injection e with e; omega)
    have O3 : Boxed (W.putObj D (.deferred none)) (w.heap.size + 1 + 1 + 1) 4 (.bool false) := bO1.kept (grownBy_putObj' _ D _) (fun e => by injection e with e; omega)
    refine ⟨by simp, .inl ⟨_, _, rfl, run_takeDeferred hK, ?_⟩⟩
    refine ⟨.tuple #[.int .i64 0, .bool false], ?_, by rw [hz.out.1, hz.out.2], hB1.trans (belowK_b (w := w) (Nat.le_refl _) W D _ _ (by omega) hK rfl rfl)⟩
    have c2 := R3.cell
    have c3 := O3.cell
    simp [results, Tryd.f16, go_sem, c2, c3]
end Go.Proofs.YtiimmebcmehnhaaDoor
