/-
  What the program's own unstuffed hands on (layer 11): byte by byte, and what is wrong. Conditions: as the contract of a range over a function has them; at most 4000 bytes.
-/
import Derived.Test.YtdnlobcfmibeoaaStIt
import Derived.Test.YtdnlobcfmibeoaaStUm
namespace Go.Proofs.Ytdnlobcfmibeoaa
open Go.RowKit Go.Shelf
set_option linter.unusedVariables false

attribute [local go_sem] Oper.semAt_some

theorem unstuffed_mk (w : World) (s e x : Nat) (p : Option Addr) (n c : Nat) : Calls Try.prog 17 #[.agg #[.int .u8 (s : Int), .int .u8 (e : Int), .int .u8 (x : Int)], .slice p n c] w fun E w' =>
    E = .returned (.func (.func 19) #[] #[.pointer (some ⟨w.heap.size + 1, 0, none⟩), .pointer (some ⟨w.heap.size, 0, none⟩)]) ∧ w' = (w.alloc (.cells #[.int .u8 (s : Int), .int .u8 (e : Int), .int .u8 (x : Int)] 24)).alloc (.cells #[.slice p n c] 22) := by
  go_enter Try.func17, Try.ntmps17
  go_wp2
  go_ret
  exact ⟨rfl, rfl⟩
theorem drop_at {α : Type} {L : List α} {P : Nat} {a : α} {r : List α} (h : L.drop P = a :: r) : ∃ hP : P < L.length, L[P] = a ∧ L.drop (P + 1) = r := by
  have hP : P < L.length := by
    rcases Nat.lt_or_ge P L.length with q | q
    · exact q
    · rw [List.drop_eq_nil_of_le q] at h; cases h
  rw [List.drop_eq_getElem_cons hP] at h
  injection h with h1 h2
  exact ⟨hP, h1, h2⟩
theorem drop_end {α : Type} {L : List α} {P : Nat} (hP : P ≤ L.length) (h : L.drop P = []) : P = L.length := by
  have := List.drop_eq_nil_iff.1 h
  omega
set_option maxRecDepth 100000 in
set_option maxHeartbeats 4000000 in
theorem unstuffed_in (F : Fence) (n : Nat) (hf : F.fn 19) (hro : F.round = none) (hn : 1 ≤ n) (s e x : Nat) (hs : s < 256) (he : e < 256) (hx : x < 256) (bs : List Nat) (hbs : AllBytes bs) (hl : bs.length ≤ 4000)
    (L : List (Nat × Nat)) (hL : unsW s e x false bs = L) (Bb Bm G : Nat) (p : Option Addr) (cap : Nat) (l : Nat) (J Jx : List (Fin L.length) → World → Prop) (W : World) (hJ : AbidesFrom W.heap.size J)
    (hw : W.cell? ⟨Bb, 0, none⟩ = some (.slice p bs.length cap)) (hm : MkB W Bm s e x) (hg : ByG W G p bs)
    (hY : ∀ pre y W1, J pre W1 → pre.length < L.length → YieldAt F (n - 1) Try.prog l #[.int .u8 ((L[y.1].1 : Nat) : Int), .int .i64 ((L[y.1].2 : Nat) : Int)] W1 fun E W' =>
      (E = .returned (.bool true) ∧ J (pre ++ [y]) W' ∧ KeepD G Bm W1 W') ∨ (E = .returned (.bool false) ∧ Jx (pre ++ [y]) W'))
    (h0 : J [] W) :
    CallsIn F n Try.prog 19 #[.func (.yield l) #[] #[], .pointer (some ⟨Bb, 0, none⟩), .pointer (some ⟨Bm, 0, none⟩)] W fun E W' => (∃ v, E = .returned v) ∧ ((∃ xs, xs = List.finRange L.length ∧ J xs W') ∨ (∃ pre, pre <+: List.finRange L.length ∧ Jx pre W')) := by
  refine callsIn_of_wp Try.func19 rfl hf ?_ hro
  simp only [Try.ntmps19, List.size_toArray, List.length_cons, List.length_nil, Nat.reduceAdd, Nat.reduceSub, Array.replicate_succ, Array.replicate_zero, List.push_toArray, List.append_toArray, List.nil_append, List.cons_append]
  gi_wp2
  gi_loopw [4, 9] (fun q4 q wr => ∃ (j P : Nat) (esc : Bool), j ≤ bs.length ∧ q4 = .bool esc ∧ q = .int .i64 (j : Int) ∧ P ≤ L.length ∧ L.drop P = unsW s e x esc (bs.drop j) ∧ MkB wr Bm s e x ∧ ByG wr G p bs ∧ J ((List.finRange L.length).take P) wr) (fun _ q _ => bs.length - (intOf q).toNat)
  case atStart => exact ⟨0, 0, false, Nat.zero_le _, rfl, rfl, Nat.zero_le _, by rw [List.drop_zero, List.drop_zero, hL], hm, hg, h0⟩
  case round =>
    obtain ⟨j, P, esc, hj, rfl, rfl, hPl, hd, hm1, hg1, hJs⟩ := hrel
    clear h0 hw hm hg hL
    by_cases hlt : j < bs.length
    · have hlt' : (j : Int) < (bs.length : Int) := by omega
      obtain ⟨o, rfl, hc⟩ := hg1.cell hlt
      obtain ⟨m0, m1, m2⟩ := hm1.cells
      rw [List.drop_eq_getElem_cons hlt] at hd
      have hcb : bs[j] < 256 := hbs _ (List.getElem_mem _)
      obtain ⟨c, hc0⟩ : ∃ c, bs[j] = c := ⟨_, rfl⟩
      rw [hc0] at hc hcb hd
      by_cases hbs1 : c = s
      · subst hbs1
        rw [unsW_start] at hd
        obtain ⟨hP, hLP, hdn⟩ := drop_at hd
        have hend := drop_end (show P + 1 ≤ L.length by omega) hdn
        obtain ⟨fn, tmps, assign, body, hy, hR⟩ := hY _ ⟨P, hP⟩ wr hJs (by rw [List.length_take, List.length_finRange]; omega)
        dsimp only at hy
        rw [hLP] at hy
        dsimp only at hy
        rw [show ((0 : Nat) : Int) = 0 from rfl, show ((10 : Nat) : Int) = 10 from rfl] at hy
        clear hY hd hdn
        gi_wp2
        refine hR.mono ?_
        rintro E W3 (⟨rfl, hJ3, hk3⟩ | ⟨rfl, hJx3⟩)
        · rw [← finD_take hP, hend, List.take_of_length_le (by simp)] at hJ3
          gi_wp2
          refine bodyPost_ret (results_none rfl _ _ _) rfl ?_
          exact ⟨⟨_, rfl⟩, .inl ⟨_, rfl, hJ3⟩⟩
        · gi_wp2
          refine bodyPost_ret (results_none rfl _ _ _) rfl ?_
          exact ⟨⟨_, rfl⟩, .inr ⟨_, by rw [← finD_take hP]; exact List.take_prefix _ _, hJx3⟩⟩
      · have hcs : ((c : Int) == (s : Int)) = false := by rw [beq_eq_false_iff_ne]; omega
        cases esc with
        | false =>
          by_cases hce : c = e
          · rw [unsW_esc s e x hbs1 hce] at hd
            subst hce
            clear hY
            gi_wp2
            go_roundw
            case rel => exact ⟨j + 1, P, true, by omega, rfl, by simp, hPl, hd, hm1, hg1, hJs⟩
            case measure => simp [intOf]; omega
          · rw [unsW_one s e x hbs1 hce] at hd
            have hce' : ((c : Int) == (e : Int)) = false := by rw [beq_eq_false_iff_ne]; omega
            obtain ⟨hP, hLP, hdn⟩ := drop_at hd
            obtain ⟨fn, tmps, assign, body, hy, hR⟩ := hY _ ⟨P, hP⟩ wr hJs (by rw [List.length_take, List.length_finRange]; omega)
            dsimp only at hy
            rw [hLP] at hy
            dsimp only at hy
            rw [show ((0 : Nat) : Int) = 0 from rfl] at hy
            clear hY hd
            gi_wp2
            refine hR.mono ?_
            rintro E W3 (⟨rfl, hJ3, hk3⟩ | ⟨rfl, hJx3⟩)
            · have hm3 := hm1.block hk3.2
              have hg3 := hg1.block hk3.1
              rw [← finD_take hP] at hJ3
              gi_wp2
              go_roundw
              case rel => exact ⟨j + 1, P + 1, false, by omega, rfl, by simp, by omega, hdn, hm3, hg3, hJ3⟩
              case measure => simp [intOf]; omega
            · gi_wp2
              refine bodyPost_ret (results_none rfl _ _ _) rfl ?_
              exact ⟨⟨_, rfl⟩, .inr ⟨_, by rw [← finD_take hP]; exact List.take_prefix _ _, hJx3⟩⟩
        | true =>
          rw [unsW_two s e x hbs1] at hd
          have hx1 : bits .xor .u8 (c : Int) (x : Int) = ((c ^^^ x : Nat) : Int) := u8_xor_nat _ _ hcb hx
          obtain ⟨d, hdx⟩ : ∃ d, c ^^^ x = d := ⟨_, rfl⟩
          rw [hdx] at hx1 hd
          obtain ⟨hP, hLP, hdn⟩ := drop_at hd
          obtain ⟨fn, tmps, assign, body, hy, hR⟩ := hY _ ⟨P, hP⟩ wr hJs (by rw [List.length_take, List.length_finRange]; omega)
          dsimp only at hy
          rw [hLP] at hy
          dsimp only at hy
          rw [show ((0 : Nat) : Int) = 0 from rfl] at hy
          clear hY hd hdx
          by_cases hce : c = e
          · subst hce
            gi_wp2
            refine hR.mono ?_
            rintro E W3 (⟨rfl, hJ3, hk3⟩ | ⟨rfl, hJx3⟩)
            · have hm3 := hm1.block hk3.2
              have hg3 := hg1.block hk3.1
              rw [← finD_take hP] at hJ3
              gi_wp2
              go_roundw
              case rel => exact ⟨j + 1, P + 1, false, by omega, rfl, by simp, by omega, hdn, hm3, hg3, hJ3⟩
              case measure => simp [intOf]; omega
            · gi_wp2
              refine bodyPost_ret (results_none rfl _ _ _) rfl ?_
              exact ⟨⟨_, rfl⟩, .inr ⟨_, by rw [← finD_take hP]; exact List.take_prefix _ _, hJx3⟩⟩
          · have hce' : ((c : Int) == (e : Int)) = false := by rw [beq_eq_false_iff_ne]; omega
            gi_wp2
            refine hR.mono ?_
            rintro E W3 (⟨rfl, hJ3, hk3⟩ | ⟨rfl, hJx3⟩)
            · have hm3 := hm1.block hk3.2
              have hg3 := hg1.block hk3.1
              rw [← finD_take hP] at hJ3
              gi_wp2
              go_roundw
              case rel => exact ⟨j + 1, P + 1, false, by omega, rfl, by simp, by omega, hdn, hm3, hg3, hJ3⟩
              case measure => simp [intOf]; omega
            · gi_wp2
              refine bodyPost_ret (results_none rfl _ _ _) rfl ?_
              exact ⟨⟨_, rfl⟩, .inr ⟨_, by rw [← finD_take hP]; exact List.take_prefix _ _, hJx3⟩⟩
    · obtain rfl : j = bs.length := by omega
      rw [List.drop_length] at hd
      have hnl : ¬ (bs.length : Int) < (bs.length : Int) := by omega
      cases esc with
      | false =>
        have hend := drop_end hPl hd
        rw [hend, List.take_of_length_le (by simp)] at hJs
        gi_wp2
        go_end0
        exact ⟨⟨_, rfl⟩, .inl hJs⟩
      | true =>
        rw [unsW, if_pos rfl] at hd
        obtain ⟨hP, hLP, hdn⟩ := drop_at hd
        have hend := drop_end (show P + 1 ≤ L.length by omega) hdn
        obtain ⟨fn, tmps, assign, body, hy, hR⟩ := hY _ ⟨P, hP⟩ wr hJs (by rw [List.length_take, List.length_finRange]; omega)
        dsimp only at hy
        rw [hLP] at hy
        dsimp only at hy
        rw [show ((0 : Nat) : Int) = 0 from rfl, show ((6 : Nat) : Int) = 6 from rfl] at hy
        clear hY hd hdn
        gi_wp2
        refine hR.mono ?_
        rintro E W3 (⟨rfl, hJ3, hk3⟩ | ⟨rfl, hJx3⟩)
        · rw [← finD_take hP, hend, List.take_of_length_le (by simp)] at hJ3
          gi_wp2
          go_end0
          exact ⟨⟨_, rfl⟩, .inl ⟨_, rfl, hJ3⟩⟩
        · gi_wp2
          go_end0
          exact ⟨⟨_, rfl⟩, .inr ⟨_, by rw [← finD_take hP]; exact List.take_prefix _ _, hJx3⟩⟩
theorem unstuffed_stops (n : Nat) (hn : 1 ≤ n) (s e x : Nat) (hs : s < 256) (he : e < 256) (hx : x < 256) (bs : List Nat) (hbs : AllBytes bs) (hl : bs.length ≤ 4000)
    (L : List (Nat × Nat)) (hL : unsW s e x false bs = L) (Bb Bm G : Nat) (p : Option Addr) (cap : Nat) (w : World) (hB : Bb < w.heap.size) (hM : Bm < w.heap.size) (hG : G < w.heap.size) (hw : w.cell? ⟨Bb, 0, none⟩ = some (.slice p bs.length cap)) (hm : MkB w Bm s e x) (hg : ByG w G p bs) :
    SeqStopsK Fence.wide n Try.prog 19 #[.pointer (some ⟨Bb, 0, none⟩), .pointer (some ⟨Bm, 0, none⟩)] (fun y : Fin L.length => #[.int .u8 ((L[y.1].1 : Nat) : Int), .int .i64 ((L[y.1].2 : Nat) : Int)]) (KeepD G Bm) (fun xs => xs = List.finRange L.length) (fun pre => pre <+: List.finRange L.length) L.length w := fun l J Jx W hbl hJ _ hY h0 =>
  unstuffed_in Fence.wide n trivial rfl hn s e x hs he hx bs hbs hl L hL Bb Bm G p cap l J Jx W hJ ((hbl.cell (p := ⟨Bb, 0, none⟩) hB).trans hw) (hm.block (hbl.block _ hM)) (hg.block (hbl.block _ hG)) hY h0
end Go.Proofs.Ytdnlobcfmibeoaa
