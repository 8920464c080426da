/-
  What the document's own Stuff and Unstuff return (layer 11). Conditions: marks are bytes; at most 4000 bytes.
-/
import Derived.Handy
import Derived.Maps.AppendAt
import Derived.Laws.BitsAllLaws
import Derived.Test.YtdnlobcfmibeoaaStMath
namespace Go.Proofs.Ytdnlobcfmibeoaa
open Go.RowKit
set_option linter.unusedVariables false

theorem BytesAt.cellp {w : World} {p : Option Addr} {n c : Nat} {bs : List Nat} (h : BytesAt w (.slice p n c) bs) {j : Nat} (hj : j < bs.length) : ∃ g o, p = some ⟨g, o, none⟩ ∧ w.cell? ⟨g, o + j, none⟩ = some (.int .u8 (bs[j] : Int)) := by
  rcases h with ⟨_, rfl⟩ | ⟨g, o, cap, h1, h2, h3⟩
  · exact absurd hj (by simp)
  · injection h1 with h1 _ _
    exact ⟨g, o, h1, h2 j hj⟩
theorem BytesAt.slice {w : World} {v : Value} {bs : List Nat} (h : BytesAt w v bs) : ∃ p cap, v = .slice p bs.length cap := by
  rcases h with ⟨rfl, rfl⟩ | ⟨g, o, cap, h1, _⟩
  · exact ⟨_, _, rfl⟩
  · exact ⟨_, _, h1⟩
theorem stuL_take (s e x : Nat) (bs : List Nat) {j : Nat} (h : j < bs.length) : stuL s e x (bs.take (j + 1)) = stuL s e x (bs.take j) ++ stuB s e x bs[j] := by
  rw [← List.take_append_getElem h, stu_snoc]
theorem stuL_take_len (s e x : Nat) (bs : List Nat) (j : Nat) : (stuL s e x (bs.take j)).length ≤ 2 * bs.length := by
  have h := (stu_most s e x (bs.take j)).2
  rw [List.length_take] at h
  omega
set_option maxRecDepth 100000 in
set_option maxHeartbeats 4000000 in
theorem rstuff_any (w : World) (s e x : Nat) (hs : s < 256) (he : e < 256) (hx : x < 256) (v : Value) (bs : List Nat) (h : BytesAt w v bs) (hb : AllBytes bs) (hl : bs.length ≤ 2000) :
    Calls Try.prog 15 #[.int .u8 (s : Int), .int .u8 (e : Int), .int .u8 (x : Int), v] w fun E w' => ∃ y, E = .returned y ∧ RowB w' w.heap.size y (stuL s e x bs) ∧ Below w.heap.size w w' := by
  obtain ⟨i0, hi, hz0, hz1, hz2⟩ := info_parts info_u8
  obtain ⟨p, cap, rfl⟩ := h.slice
  have hl2 : (bs.length : Int) ≤ 2000 := by omega
  go_enter Try.func15, Try.ntmps15
  go_wp2
  go_loopw [9, 10] (fun v i wr => ∃ (j : Nat) (q : Value), q = v ∧ j ≤ bs.length ∧ i = .int .i64 (j : Int) ∧ Hid (RowB wr w.heap.size q (stuL s e x (bs.take j))) ∧ Hid (Below w.heap.size w wr)) (fun _ i _ => bs.length - (intOf i).toNat)
  case atStart => exact ⟨0, _, rfl, Nat.zero_le _, rfl, World.ownsRow_nil _ _ _ _, Below.refl _ _⟩
  case round =>
    obtain ⟨j, q, rfl, hj, rfl, hrow, hB⟩ := hrel
    by_cases hlt : j < bs.length
    · have hlt' : (j : Int) < (bs.length : Int) := by omega
      obtain ⟨g, o, rfl, hc⟩ := (h.below hB.out).cellp hlt
      have hnx : Hid _ := stuL_take s e x bs hlt
      have hcl : Hid _ := stuL_take_len s e x bs j
      have hcb : bs[j] < 256 := hb _ (List.getElem_mem _)
      have hsz := hB.out.size
      obtain ⟨c, hc0⟩ : ∃ c, bs[j] = c := ⟨_, rfl⟩
      rw [hc0] at hc hnx hcb
      replace hnx : Hid (stuL s e x (bs.take (j + 1)) = stuL s e x (bs.take j) ++ stuB s e x c) := hnx
      clear hc0
      have hfin : Hid (∀ (y : World) (v' : Value) (tmp : Obj) (L2 : List Nat) (hL2 : stuB s e x c = L2), y.ownsRow w.heap.size 5 1 v' ((stuL s e x (bs.take j)).length + L2.length) (u8v (stuL s e x (bs.take j)) ++ u8v L2) → (wr.alloc tmp).grownBy y q.ownBlock → Hid (RowB y w.heap.size v' (stuL s e x (bs.take (j + 1)))) ∧ Hid (Below w.heap.size w y)) := by
        intro y v' tmp L2 hL2 hO hG
        refine ⟨?_, ?_⟩
        · unfold Hid RowB
          rw [hnx.out, hL2, List.length_append, u8v, List.map_append]
          exact hO
        · exact (hB.out.alloc hsz tmp).grown hG (by simp; omega) (fun k ek => (World.ownsRow.lt hrow.out k ek).1)
      clear hnx
      have hlr : (stuL s e x (bs.take j)).length ≤ 4000 := by have := hcl.out; omega
      obtain ⟨l, hl0⟩ : ∃ l, stuL s e x (bs.take j) = l := ⟨_, rfl⟩
      rw [hl0] at hrow hlr
      replace hrow : Hid (RowB wr w.heap.size q l) := hrow
      replace hfin : Hid (∀ (y : World) (v' : Value) (tmp : Obj) (L2 : List Nat) (hL2 : stuB s e x c = L2), y.ownsRow w.heap.size 5 1 v' (l.length + L2.length) (u8v l ++ u8v L2) → (wr.alloc tmp).grownBy y q.ownBlock → Hid (RowB y w.heap.size v' (stuL s e x (bs.take (j + 1)))) ∧ Hid (Below w.heap.size w y)) := by rw [← hl0]; exact hfin
      have hx1 : bits .xor .u8 (c : Int) (x : Int) = ((c ^^^ x : Nat) : Int) := u8_xor_nat _ _ hcb hx
      obtain ⟨d, hdx⟩ : ∃ d, c ^^^ x = d := ⟨_, rfl⟩
      rw [hdx] at hx1
      clear hl0 hcl
      by_cases hbs1 : c = s
      · have hst : Hid (stuB s e x c = [e, d]) := by show _ = _; unfold stuB; rw [if_pos (.inl hbs1), hdx]
        clear hdx
        subst hbs1
        go_wp2_with (at_builtin; refine wpList_append_own _ rfl _ _ 22 rfl w.heap.size 5 i0 (.int .u8 0) 1 1 Try.underlying22 hi hz0 hz1 hz2 rfl (by decide) _ _ _ rfl (World.ownsRow.alloc hrow.out _) ⟨wr.heap.size, 0, none⟩ 2 2 [.int .u8 (e : Int), .int .u8 (d : Int)] rfl rfl (cell_two_new _ _ _ _) (by simp [Value.oneCell']) (by unfold maxLen; omega) (by omega) (by simp; omega) ?_; intro v' w1 hown' hgrow _; obtain ⟨hr1, hB1⟩ := hfin.out w1 v' _ _ hst.out hown' hgrow)
        exact ⟨⟨j + 1, _, rfl, by omega, by simp, hr1, hB1⟩, by simp [intOf]; omega⟩
      · have hcs : ((c : Int) == (s : Int)) = false := by rw [beq_eq_false_iff_ne]; omega
        by_cases hce : c = e
        · have hst : Hid (stuB s e x c = [e, d]) := by show _ = _; unfold stuB; rw [if_pos (.inr hce), hdx]
          clear hdx
          subst hce
          go_wp2_with (at_builtin; refine wpList_append_own _ rfl _ _ 22 rfl w.heap.size 5 i0 (.int .u8 0) 1 1 Try.underlying22 hi hz0 hz1 hz2 rfl (by decide) _ _ _ rfl (World.ownsRow.alloc hrow.out _) ⟨wr.heap.size, 0, none⟩ 2 2 [.int .u8 (c : Int), .int .u8 (d : Int)] rfl rfl (cell_two_new _ _ _ _) (by simp [Value.oneCell']) (by unfold maxLen; omega) (by omega) (by simp; omega) ?_; intro v' w1 hown' hgrow _; obtain ⟨hr1, hB1⟩ := hfin.out w1 v' _ _ hst.out hown' hgrow)
          exact ⟨⟨j + 1, _, rfl, by omega, by simp, hr1, hB1⟩, by simp [intOf]; omega⟩
        · have hce1 : ((c : Int) == (e : Int)) = false := by rw [beq_eq_false_iff_ne]; omega
          have hst : Hid (stuB s e x c = [c]) := by show _ = _; unfold stuB; rw [if_neg (fun k => k.elim hbs1 hce)]
          clear hdx
          go_wp2_with (at_builtin; refine wpList_append_own _ rfl _ _ 22 rfl w.heap.size 5 i0 (.int .u8 0) 1 1 Try.underlying22 hi hz0 hz1 hz2 rfl (by decide) _ _ _ rfl (World.ownsRow.alloc hrow.out _) ⟨wr.heap.size, 0, none⟩ 1 1 [.int .u8 (c : Int)] rfl rfl (cell_one_new _ _ _) (by simp [Value.oneCell']) (by unfold maxLen; omega) (by omega) (by simp; omega) ?_; intro v' w1 hown' hgrow _; obtain ⟨hr1, hB1⟩ := hfin.out w1 v' _ _ hst.out hown' hgrow)
          exact ⟨⟨j + 1, _, rfl, by omega, by simp, hr1, hB1⟩, by simp [intOf]; omega⟩
    · obtain rfl : j = bs.length := by omega
      rw [List.take_length] at hrow
      go_wp2
      go_ret
      exact ⟨_, rfl, hrow.out, hB.out⟩
theorem uns_last {s e x : Nat} (h : ¬ e = s) : unsL s e x [e] = ([], true) := by
  rw [show unsL s e x [e] = (if e = s then ([], false) else if e = e then ([], true) else ([e], false)) from rfl, if_neg h, if_pos rfl]
theorem uns_esc_start {s e x : Nat} (h : ¬ e = s) (r : List Nat) : unsL s e x (e :: s :: r) = ([], true) := by
  rw [unsL, if_neg h, if_pos rfl, if_pos rfl]
set_option maxRecDepth 100000 in
set_option maxHeartbeats 4000000 in
theorem runstuff_any (w : World) (s e x : Nat) (hs : s < 256) (he : e < 256) (hx : x < 256) (v : Value) (bs : List Nat) (h : BytesAt w v bs) (hb : AllBytes bs) (hl : bs.length ≤ 4000) :
    Calls Try.prog 14 #[.int .u8 (s : Int), .int .u8 (e : Int), .int .u8 (x : Int), v] w fun E w' => ∃ y, E = .returned (.tuple #[y, .bool (unsL s e x bs).2]) ∧ RowB w' w.heap.size y (unsL s e x bs).1 ∧ Below w.heap.size w w' := by
  obtain ⟨i0, hi, hz0, hz1, hz2⟩ := info_parts info_u8
  obtain ⟨p, cap, rfl⟩ := h.slice
  have hl2 : (bs.length : Int) ≤ 4000 := by omega
  go_enter Try.func14, Try.ntmps14
  go_wp2
  go_loopw [10, 11] (fun v i wr => ∃ (j : Nat) (q : Value) (l : List Nat), q = v ∧ j ≤ bs.length ∧ i = .int .i64 (j : Int) ∧ l.length ≤ j ∧ Hid (unsL s e x bs = (l ++ (unsL s e x (bs.drop j)).1, (unsL s e x (bs.drop j)).2)) ∧ Hid (RowB wr w.heap.size q l) ∧ Hid (Below w.heap.size w wr)) (fun _ i _ => bs.length - (intOf i).toNat)
  case atStart => exact ⟨0, _, [], rfl, Nat.zero_le _, rfl, Nat.zero_le _, rfl, World.ownsRow_nil _ _ _ _, Below.refl _ _⟩
  case round =>
    obtain ⟨j, q, l, rfl, hj, rfl, hlj, hU, hrow, hB⟩ := hrel
    by_cases hlt : j < bs.length
    · have hlt' : (j : Int) < (bs.length : Int) := by omega
      obtain ⟨g, o, rfl, hc⟩ := (h.below hB.out).cellp hlt
      have hcb : bs[j] < 256 := hb _ (List.getElem_mem _)
      have hsz := hB.out.size
      have hat := fun k (hk : k < bs.length) => (h.below hB.out).cellp hk
      have hdr : Hid (bs.drop j = bs[j] :: bs.drop (j + 1)) := List.drop_eq_getElem_cons hlt
      obtain ⟨c, hc0⟩ : ∃ c, bs[j] = c := ⟨_, rfl⟩
      rw [hc0] at hc hcb hdr
      replace hdr : Hid (bs.drop j = c :: bs.drop (j + 1)) := hdr
      clear hc0
      have hfin : Hid (∀ (y : World) (v' : Value) (tmp : Obj) (u k : Nat), unsL s e x (bs.drop j) = (u :: (unsL s e x (bs.drop k)).1, (unsL s e x (bs.drop k)).2) → y.ownsRow w.heap.size 5 1 v' (l.length + 1) (u8v l ++ [.int .u8 (u : Int)]) → (wr.alloc tmp).grownBy y q.ownBlock → Hid (unsL s e x bs = ((l ++ [u]) ++ (unsL s e x (bs.drop k)).1, (unsL s e x (bs.drop k)).2)) ∧ Hid (RowB y w.heap.size v' (l ++ [u])) ∧ Hid (Below w.heap.size w y)) := by
        intro y v' tmp u k hu hO hG
        refine ⟨?_, ?_, ?_⟩
        · show _ = _
          rw [hU.out, hu, List.append_assoc]; rfl
        · unfold Hid RowB
          rw [List.length_append, u8v, List.map_append]
          exact hO
        · exact (hB.out.alloc hsz tmp).grown hG (by simp; omega) (fun k ek => (World.ownsRow.lt hrow.out k ek).1)
      by_cases hbs1 : c = s
      · have hend : Hid ((unsL s e x bs).1 = l ∧ (unsL s e x bs).2 = false) := by
          refine ⟨?_, ?_⟩ <;> rw [hU.out, hdr.out, hbs1, uns_start] 
          simp
        clear hU hdr hfin hat
        subst hbs1
        go_wp2
        (try simp only [Exit.inBlock, Exit.then]); refine bodyPost_ret (results_tmp2 rfl _ _ _) rfl ?_
        exact ⟨q, by rw [hend.out.2]; rfl, by rw [hend.out.1]; exact hrow.out, hB.out⟩
      · have hcs : ((c : Int) == (s : Int)) = false := by rw [beq_eq_false_iff_ne]; omega
        have hcs2 : ((c : Int) != (s : Int)) = true := by rw [bne, hcs]; rfl
        by_cases hce : c = e
        · subst hce
          by_cases hlt2 : j + 1 < bs.length
          · have hlt3 : (j : Int) + 1 < (bs.length : Int) := by omega
            obtain ⟨g2, o2, hg2, hc2⟩ := hat (j + 1) hlt2
            obtain ⟨rfl, rfl⟩ : g = g2 ∧ o = o2 := by
              injection hg2 with hg2; injection hg2 with h1 h2; exact ⟨h1, h2⟩
            have hcb2 : bs[j + 1] < 256 := hb _ (List.getElem_mem _)
            have hdr2 : Hid (bs.drop (j + 1) = bs[j + 1] :: bs.drop (j + 2)) := List.drop_eq_getElem_cons hlt2
            obtain ⟨c2, hc20⟩ : ∃ c2, bs[j + 1] = c2 := ⟨_, rfl⟩
            rw [hc20] at hc2 hcb2 hdr2
            replace hdr2 : Hid (bs.drop (j + 1) = c2 :: bs.drop (j + 2)) := hdr2
            clear hc20 hat hg2
            by_cases hc2s : c2 = s
            · have hend : Hid ((unsL s c x bs).1 = l ∧ (unsL s c x bs).2 = true) := by
                refine ⟨?_, ?_⟩ <;> rw [hU.out, hdr.out, hdr2.out, hc2s, uns_esc_start hbs1]
                simp
              clear hU hdr hdr2 hfin
              subst hc2s
              go_wp2
              (try simp only [Exit.inBlock, Exit.then]); refine bodyPost_ret (results_tmp2 rfl _ _ _) rfl ?_
              exact ⟨q, by rw [hend.out.2]; rfl, by rw [hend.out.1]; exact hrow.out, hB.out⟩
            · have hc2s1 : ((c2 : Int) == (s : Int)) = false := by rw [beq_eq_false_iff_ne]; omega
              have hx1 : bits .xor .u8 (c2 : Int) (x : Int) = ((c2 ^^^ x : Nat) : Int) := u8_xor_nat _ _ hcb2 hx
              have hst : Hid (unsL s c x (bs.drop j) = ((c2 ^^^ x) :: (unsL s c x (bs.drop (j + 2))).1, (unsL s c x (bs.drop (j + 2))).2)) := by
                show _ = _
                rw [hdr.out, hdr2.out, uns_esc (fun k => hbs1 k.symm) hc2s]
              obtain ⟨d, hdx⟩ : ∃ d, c2 ^^^ x = d := ⟨_, rfl⟩
              rw [hdx] at hx1 hst
              replace hst : Hid (unsL s c x (bs.drop j) = (d :: (unsL s c x (bs.drop (j + 2))).1, (unsL s c x (bs.drop (j + 2))).2)) := hst
              clear hdx hU hdr hdr2
              have hlb : l.length ≤ 4000 := by omega
              go_wp2_with (at_builtin; refine wpList_append_own _ rfl _ _ 22 rfl w.heap.size 5 i0 (.int .u8 0) 1 1 Try.underlying22 hi hz0 hz1 hz2 rfl (by decide) _ _ _ rfl (World.ownsRow.alloc hrow.out _) ⟨wr.heap.size, 0, none⟩ 1 1 [.int .u8 (d : Int)] rfl rfl (cell_one_new _ _ _) (by simp [Value.oneCell']) (by unfold maxLen; omega) (by omega) (by simp; omega) ?_; intro v' w1 hown' hgrow _; obtain ⟨hU1, hr1, hB1⟩ := hfin.out w1 v' _ _ _ hst.out hown' hgrow)
              exact ⟨⟨j + 2, _, _, rfl, by omega, by simp, by simp; omega, hU1, hr1, hB1⟩, by simp [intOf]; omega⟩
          · have hlt3 : ¬ (j : Int) + 1 < (bs.length : Int) := by omega
            have hend : Hid ((unsL s c x bs).1 = l ∧ (unsL s c x bs).2 = true) := by
              refine ⟨?_, ?_⟩ <;> rw [hU.out, hdr.out, List.drop_eq_nil_of_le (by omega : bs.length ≤ j + 1), uns_last hbs1]
              simp
            clear hU hdr hfin hat
            go_wp2
            (try simp only [Exit.inBlock, Exit.then]); refine bodyPost_ret (results_tmp2 rfl _ _ _) rfl ?_
            exact ⟨q, by rw [hend.out.2]; rfl, by rw [hend.out.1]; exact hrow.out, hB.out⟩
        · have hce1 : ((c : Int) == (e : Int)) = false := by rw [beq_eq_false_iff_ne]; omega
          have hst : Hid (unsL s e x (bs.drop j) = (c :: (unsL s e x (bs.drop (j + 1))).1, (unsL s e x (bs.drop (j + 1))).2)) := by
            show _ = _
            rw [hdr.out, uns_one hbs1 hce]
          clear hU hdr hat
          have hlb : l.length ≤ 4000 := by omega
          go_wp2_with (at_builtin; refine wpList_append_own _ rfl _ _ 22 rfl w.heap.size 5 i0 (.int .u8 0) 1 1 Try.underlying22 hi hz0 hz1 hz2 rfl (by decide) _ _ _ rfl (World.ownsRow.alloc hrow.out _) ⟨wr.heap.size, 0, none⟩ 1 1 [.int .u8 (c : Int)] rfl rfl (cell_one_new _ _ _) (by simp [Value.oneCell']) (by unfold maxLen; omega) (by omega) (by simp; omega) ?_; intro v' w1 hown' hgrow _; obtain ⟨hU1, hr1, hB1⟩ := hfin.out w1 v' _ _ _ hst.out hown' hgrow)
          exact ⟨⟨j + 1, _, _, rfl, by omega, by simp, by simp; omega, hU1, hr1, hB1⟩, by simp [intOf]; omega⟩
    · obtain rfl : j = bs.length := by omega
      have hnl : ¬ (bs.length : Int) < (bs.length : Int) := by omega
      have hend : Hid ((unsL s e x bs).1 = l ∧ (unsL s e x bs).2 = false) := by
        refine ⟨?_, ?_⟩ <;> rw [hU.out, List.drop_length]
        · simp [unsL]
        · rfl
      clear hU
      go_wp2
      (try simp only [Exit.inBlock, Exit.then]); refine bodyPost_ret (results_tmp2 rfl _ _ _) rfl ?_
      exact ⟨q, by rw [hend.out.2]; rfl, by rw [hend.out.1]; exact hrow.out, hB.out⟩
end Go.Proofs.Ytdnlobcfmibeoaa
