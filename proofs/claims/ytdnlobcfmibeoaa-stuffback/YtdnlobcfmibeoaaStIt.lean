/-
  What the program's own stuffed hands on (layer 11): the bytes that bytes are stuffed to. Conditions: as the contract of a range over a function has them; at most 2000 bytes.
-/
import Derived.RangeFuncNested
import Derived.RangeFuncBound
import Derived.RangeFuncCalls
import Derived.RangeFuncLeaves
import Derived.RangeFuncBox
import Derived.Shelf.Abstract
import Derived.Shelf.RegionOpen
import Derived.WalkKit
import Derived.OwnWalkIn
import Derived.TacticsInMore
import Derived.LoopNIn
import Derived.LoopIn
import Derived.Laws.BitsAllLaws
import Derived.Test.YtdnlobcfmibeoaaStMath
namespace Go.Proofs.Ytdnlobcfmibeoaa
open Go.RowKit Go.Shelf
set_option linter.unusedVariables false

attribute [local go_sem] Oper.semAt_some

/-- two blocks lie as they lay -/
def KeepD (a b : Nat) (W W' : World) : Prop := W'.heap[a]? = W.heap[a]? ∧ W'.heap[b]? = W.heap[b]?
theorem KeepD.refl (a b : Nat) (W : World) : KeepD a b W W := ⟨rfl, rfl⟩
theorem KeepD.trans {a b : Nat} {U V W : World} (h : KeepD a b U V) (k : KeepD a b V W) : KeepD a b U W := ⟨k.1.trans h.1, k.2.trans h.2⟩
theorem KeepD.put {a b : Nat} {w : World} (ha : a < w.heap.size) (hb : b < w.heap.size) (W : World) (l : Nat) (o o' : Obj) (hl : w.heap.size ≤ l) : KeepD a b W (W.putObj l o') :=
  ⟨World.putObj_heap_other (by omega), World.putObj_heap_other (by omega)⟩
theorem finD_take {L k : Nat} (h : k < L) : (List.finRange L).take (k + 1) = (List.finRange L).take k ++ [⟨k, h⟩] := by
  rw [← List.take_append_getElem (by simpa using h)]; simp
/-- the marks in a block of their own -/
def MkB (W : World) (Bm s e x : Nat) : Prop := W.heap[Bm]? = some (.cells #[.int .u8 (s : Int), .int .u8 (e : Int), .int .u8 (x : Int)] 24)
theorem MkB.cells {W : World} {Bm s e x : Nat} (h : MkB W Bm s e x) : W.cell? ⟨Bm, 0, none⟩ = some (.int .u8 (s : Int)) ∧ W.cell? ⟨Bm, 1, none⟩ = some (.int .u8 (e : Int)) ∧ W.cell? ⟨Bm, 2, none⟩ = some (.int .u8 (x : Int)) := by
  unfold MkB at h
  refine ⟨?_, ?_, ?_⟩ <;> simp [World.cell?, h]
theorem MkB.block {W W' : World} {Bm s e x : Nat} (h : MkB W Bm s e x) (k : W'.heap[Bm]? = W.heap[Bm]?) : MkB W' Bm s e x := Eq.trans k h
/-- bytes, wherever they lie: in block G, unless there are none -/
def ByG (W : World) (G : Nat) (p : Option Addr) (bs : List Nat) : Prop :=
  (p = none ∧ bs = []) ∨ ∃ o, p = some ⟨G, o, none⟩ ∧ BytesIn W G o bs
theorem ByG.block {W W' : World} {G : Nat} {p : Option Addr} {bs : List Nat} (h : ByG W G p bs) (e : W'.heap[G]? = W.heap[G]?) : ByG W' G p bs := by
  rcases h with h | ⟨o, h1, h2⟩
  · exact .inl h
  · exact .inr ⟨o, h1, fun j hj => by rw [← h2 j hj]; unfold World.cell?; rw [e]⟩
theorem ByG.cell {W : World} {G : Nat} {p : Option Addr} {bs : List Nat} (h : ByG W G p bs) {j : Nat} (hj : j < bs.length) : ∃ o, p = some ⟨G, o, none⟩ ∧ W.cell? ⟨G, o + j, none⟩ = some (.int .u8 (bs[j] : Int)) := by
  rcases h with ⟨_, rfl⟩ | ⟨o, h1, h2⟩
  · exact absurd hj (by simp)
  · exact ⟨o, h1, h2 j hj⟩
theorem BytesAt.byG {w : World} {v : Value} {bs : List Nat} (h : BytesAt w v bs) : ∃ G p cap, v = .slice p bs.length cap ∧ ByG w G p bs ∧ (G < w.heap.size ∨ bs = []) := by
  rcases h with ⟨rfl, rfl⟩ | ⟨g, o, cap, h1, h2, h3⟩
  · exact ⟨w.heap.size, none, 0, rfl, .inl ⟨rfl, rfl⟩, .inr rfl⟩
  · exact ⟨g, _, cap, h1, .inr ⟨o, rfl, h2⟩, .inl h3⟩
theorem stuffed_mk (w : World) (s e x : Nat) (p : Option Addr) (n c : Nat) : Calls Try.prog 16 #[.agg #[.int .u8 (s : Int), .int .u8 (e : Int), .int .u8 (x : Int)], .slice p n c] w fun E w' =>
    E = .returned (.func (.func 18) #[] #[.pointer (some ⟨w.heap.size + 1, 0, none⟩), .pointer (some ⟨w.heap.size, 0, none⟩)]) ∧ w' = (w.alloc (.cells #[.int .u8 (s : Int), .int .u8 (e : Int), .int .u8 (x : Int)] 24)).alloc (.cells #[.slice p n c] 22) := by
  go_enter Try.func16, Try.ntmps16
  go_wp2
  go_ret
  exact ⟨rfl, rfl⟩
/-- how many come of the first bytes -/
def cntP (s e x : Nat) (bs : List Nat) (j : Nat) : Nat := (stuL s e x (bs.take j)).length
theorem stu_drop (s e x : Nat) (bs : List Nat) {j : Nat} (h : j < bs.length) : stuL s e x bs = stuL s e x (bs.take j) ++ (stuB s e x bs[j] ++ stuL s e x (bs.drop (j + 1))) := by
  conv => lhs; rw [← List.take_append_drop j bs, stu_app, List.drop_eq_getElem_cons h, stuL]
theorem cnt_next (s e x : Nat) (bs : List Nat) {j : Nat} (h : j < bs.length) : cntP s e x bs (j + 1) = cntP s e x bs j + (stuB s e x bs[j]).length := by
  unfold cntP
  rw [← List.take_append_getElem h, stu_snoc, List.length_append]
theorem cnt_all (s e x : Nat) (bs : List Nat) : cntP s e x bs bs.length = (stuL s e x bs).length := by
  unfold cntP; rw [List.take_length]
theorem cnt_le (s e x : Nat) (bs : List Nat) {j : Nat} (h : j < bs.length) : cntP s e x bs j + (stuB s e x bs[j]).length ≤ (stuL s e x bs).length := by
  conv => rhs; rw [stu_drop s e x bs h]
  unfold cntP
  rw [List.length_append, List.length_append]; omega
theorem cnt_one (s e x : Nat) (bs : List Nat) {j : Nat} (h : j < bs.length) (hb : ¬ (bs[j] = s ∨ bs[j] = e)) (hL : cntP s e x bs j < (stuL s e x bs).length) : (stuL s e x bs)[cntP s e x bs j] = bs[j] := by
  have q := stu_drop s e x bs h
  unfold stuB at q
  rw [if_neg hb] at q
  have k : (stuL s e x bs)[cntP s e x bs j]? = some bs[j] := by
    rw [q, List.getElem?_append_right (by unfold cntP; omega), show cntP s e x bs j - (stuL s e x (bs.take j)).length = 0 from Nat.sub_self _]
    rfl
  rw [List.getElem?_eq_getElem hL] at k
  exact Option.some.inj k
theorem cnt_two (s e x : Nat) (bs : List Nat) {j : Nat} (h : j < bs.length) (hb : bs[j] = s ∨ bs[j] = e) (hL : cntP s e x bs j + 1 < (stuL s e x bs).length) :
    (stuL s e x bs)[cntP s e x bs j]'(by omega) = e ∧ (stuL s e x bs)[cntP s e x bs j + 1] = bs[j] ^^^ x := by
  have q := stu_drop s e x bs h
  unfold stuB at q
  rw [if_pos hb] at q
  have k1 : (stuL s e x bs)[cntP s e x bs j]? = some e := by
    rw [q, List.getElem?_append_right (by unfold cntP; omega), show cntP s e x bs j - (stuL s e x (bs.take j)).length = 0 from Nat.sub_self _]
    rfl
  have k2 : (stuL s e x bs)[cntP s e x bs j + 1]? = some (bs[j] ^^^ x) := by
    rw [q, List.getElem?_append_right (by unfold cntP; omega), show cntP s e x bs j + 1 - (stuL s e x (bs.take j)).length = 1 from by unfold cntP; omega]
    rfl
  rw [List.getElem?_eq_getElem (by omega)] at k1
  rw [List.getElem?_eq_getElem hL] at k2
  exact ⟨Option.some.inj k1, Option.some.inj k2⟩
set_option maxRecDepth 100000 in
set_option maxHeartbeats 4000000 in
theorem stuffed_in (F : Fence) (n : Nat) (hf : F.fn 18) (hro : F.round = none) (hn : 1 ≤ n) (s e x : Nat) (hs : s < 256) (he : e < 256) (hx : x < 256) (bs : List Nat) (hbs : AllBytes bs) (hl : bs.length ≤ 2000)
    (L : List Nat) (hL : stuL s e x bs = L) (Bb Bm G : Nat) (p : Option Addr) (cap : Nat) (l : Nat) (J Jx : List (Fin L.length) → World → Prop) (W : World) (hJ : AbidesFrom W.heap.size J)
    (hw : W.cell? ⟨Bb, 0, none⟩ = some (.slice p bs.length cap)) (hm : MkB W Bm s e x) (hg : ByG W G p bs)
    (hY : ∀ pre y W1, J pre W1 → pre.length < L.length → YieldAt F (n - 1) Try.prog l #[.int .u8 ((L[y.1] : Nat) : Int)] W1 fun E W' =>
      (E = .returned (.bool true) ∧ J (pre ++ [y]) W' ∧ KeepD G Bm W1 W') ∨ (E = .returned (.bool false) ∧ Jx (pre ++ [y]) W'))
    (h0 : J [] W) :
    CallsIn F n Try.prog 18 #[.func (.yield l) #[] #[], .pointer (some ⟨Bb, 0, none⟩), .pointer (some ⟨Bm, 0, none⟩)] W fun E W' => (∃ v, E = .returned v) ∧ ((∃ xs, xs = List.finRange L.length ∧ J xs W') ∨ (∃ pre, pre <+: List.finRange L.length ∧ Jx pre W')) := by
  refine callsIn_of_wp Try.func18 rfl hf ?_ hro
  simp only [Try.ntmps18, List.size_toArray, List.length_cons, List.length_nil, Nat.reduceAdd, Nat.reduceSub, Array.replicate_succ, Array.replicate_zero, List.push_toArray, List.append_toArray, List.nil_append, List.cons_append]
  gi_wp2
  have hP0 : cntP s e x bs 0 = 0 := rfl
  have hPn := cnt_all s e x bs
  rw [hL] at hPn
  gi_loopw [8] (fun q wr => ∃ j : Nat, j ≤ bs.length ∧ q = .int .i64 (j : Int) ∧ MkB wr Bm s e x ∧ ByG wr G p bs ∧ J ((List.finRange L.length).take (cntP s e x bs j)) wr) (fun q _ => bs.length - (intOf q).toNat)
  case atStart => exact ⟨0, Nat.zero_le _, rfl, hm, hg, by rw [hP0]; exact h0⟩
  case round =>
    obtain ⟨j, hj, rfl, hm1, hg1, hJs⟩ := hrel
    clear h0 hw hm hg
    by_cases hlt : j < bs.length
    · have hlt' : (j : Int) < (bs.length : Int) := by omega
      obtain ⟨o, rfl, hc⟩ := hg1.cell hlt
      obtain ⟨m0, m1, m2⟩ := hm1.cells
      have hnx := cnt_next s e x bs hlt
      have hle := cnt_le s e x bs hlt
      have h1 := fun hb => cnt_one s e x bs hlt hb
      have h2 := fun hb => cnt_two s e x bs hlt hb
      rw [hL] at hle
      simp only [hL] at h1 h2
      have hcb : bs[j] < 256 := hbs _ (List.getElem_mem _)
      obtain ⟨c, hc0⟩ : ∃ c, bs[j] = c := ⟨_, rfl⟩
      rw [hc0] at hc hnx hle h1 h2 hcb
      obtain ⟨P, hP⟩ : ∃ P, cntP s e x bs j = P := ⟨_, rfl⟩
      simp only [hP] at h1 h2
      rw [hP] at hJs hle hnx
      by_cases hbe : c = s ∨ c = e
      · unfold stuB at hnx hle
        rw [if_pos hbe] at hnx hle
        simp only [List.length_cons, List.length_nil, Nat.reduceAdd] at hnx hle
        obtain ⟨hL1, hL2⟩ := h2 hbe (by omega)
        by_cases hbs1 : c = s
        · subst hbs1
          obtain ⟨fn, tmps, assign, body, hy, hR⟩ := hY _ ⟨P, by omega⟩ wr hJs (by rw [List.length_take, List.length_finRange]; omega)
          dsimp only at hy
          rw [hL1] at hy
          have hx1 : bits .xor .u8 (c : Int) (x : Int) = ((c ^^^ x : Nat) : Int) := u8_xor_nat _ _ hcb hx
          obtain ⟨d, hd⟩ : ∃ d, c ^^^ x = d := ⟨_, rfl⟩
          rw [hd] at hx1 hL2
          clear h1 h2
          gi_wp2
          refine hR.mono ?_
          rintro E W3 (⟨rfl, hJ3, hk3⟩ | ⟨rfl, hJx3⟩)
          · have hm3 := hm1.block hk3.2
            have hg3 := hg1.block hk3.1
            obtain ⟨m0, m1, m2⟩ := hm3.cells
            clear hm1 hg1 hy hR hc
            rw [← finD_take (show P < L.length by omega)] at hJ3
            obtain ⟨fn, tmps, assign, body, hy, hR⟩ := hY _ ⟨P + 1, by omega⟩ W3 hJ3 (by rw [List.length_take, List.length_finRange]; omega)
            dsimp only at hy
            rw [hL2] at hy
            clear hY
            gi_wp2
            refine hR.mono ?_
            rintro E W4 (⟨rfl, hJ4, hk4⟩ | ⟨rfl, hJx4⟩)
            · have hm4 := hm3.block hk4.2
              have hg4 := hg3.block hk4.1
              gi_wp2
              go_roundw
              case rel => exact ⟨j + 1, by omega, by simp, hm4, hg4, by rw [hnx, finD_take (show P + 1 < L.length by omega)]; exact hJ4⟩
              case measure => simp [intOf]; omega
            · gi_wp2
              refine bodyPost_ret (results_none rfl _ _ _) rfl ?_
              exact ⟨⟨_, rfl⟩, .inr ⟨_, by rw [← finD_take (show P + 1 < L.length by omega)]; exact List.take_prefix _ _, hJx4⟩⟩
          · gi_wp2
            refine bodyPost_ret (results_none rfl _ _ _) rfl ?_
            exact ⟨⟨_, rfl⟩, .inr ⟨_, by rw [← finD_take (show P < L.length by omega)]; exact List.take_prefix _ _, hJx3⟩⟩
        · have hcs : ((c : Int) == (s : Int)) = false := by rw [beq_eq_false_iff_ne]; omega
          obtain rfl : c = e := hbe.resolve_left hbs1
          obtain ⟨fn, tmps, assign, body, hy, hR⟩ := hY _ ⟨P, by omega⟩ wr hJs (by rw [List.length_take, List.length_finRange]; omega)
          dsimp only at hy
          rw [hL1] at hy
          have hx1 : bits .xor .u8 (c : Int) (x : Int) = ((c ^^^ x : Nat) : Int) := u8_xor_nat _ _ hcb hx
          obtain ⟨d, hd⟩ : ∃ d, c ^^^ x = d := ⟨_, rfl⟩
          rw [hd] at hx1 hL2
          clear h1 h2
          gi_wp2
          refine hR.mono ?_
          rintro E W3 (⟨rfl, hJ3, hk3⟩ | ⟨rfl, hJx3⟩)
          · have hm3 := hm1.block hk3.2
            have hg3 := hg1.block hk3.1
            obtain ⟨m0, m1, m2⟩ := hm3.cells
            clear hm1 hg1 hy hR hc
            rw [← finD_take (show P < L.length by omega)] at hJ3
            obtain ⟨fn, tmps, assign, body, hy, hR⟩ := hY _ ⟨P + 1, by omega⟩ W3 hJ3 (by rw [List.length_take, List.length_finRange]; omega)
            dsimp only at hy
            rw [hL2] at hy
            clear hY
            gi_wp2
            refine hR.mono ?_
            rintro E W4 (⟨rfl, hJ4, hk4⟩ | ⟨rfl, hJx4⟩)
            · have hm4 := hm3.block hk4.2
              have hg4 := hg3.block hk4.1
              gi_wp2
              go_roundw
              case rel => exact ⟨j + 1, by omega, by simp, hm4, hg4, by rw [hnx, finD_take (show P + 1 < L.length by omega)]; exact hJ4⟩
              case measure => simp [intOf]; omega
            · gi_wp2
              refine bodyPost_ret (results_none rfl _ _ _) rfl ?_
              exact ⟨⟨_, rfl⟩, .inr ⟨_, by rw [← finD_take (show P + 1 < L.length by omega)]; exact List.take_prefix _ _, hJx4⟩⟩
          · gi_wp2
            refine bodyPost_ret (results_none rfl _ _ _) rfl ?_
            exact ⟨⟨_, rfl⟩, .inr ⟨_, by rw [← finD_take (show P < L.length by omega)]; exact List.take_prefix _ _, hJx3⟩⟩
      · unfold stuB at hnx hle
        rw [if_neg hbe] at hnx hle
        simp only [List.length_cons, List.length_nil, Nat.reduceAdd] at hnx hle
        have hcs : ((c : Int) == (s : Int)) = false := by rw [beq_eq_false_iff_ne]; omega
        have hce : ((c : Int) == (e : Int)) = false := by rw [beq_eq_false_iff_ne]; omega
        have hL1 := h1 hbe (by omega)
        obtain ⟨fn, tmps, assign, body, hy, hR⟩ := hY _ ⟨P, by omega⟩ wr hJs (by rw [List.length_take, List.length_finRange]; omega)
        dsimp only at hy
        rw [hL1] at hy
        clear h1 h2 hY
        gi_wp2
        refine hR.mono ?_
        rintro E W3 (⟨rfl, hJ3, hk3⟩ | ⟨rfl, hJx3⟩)
        · have hm3 := hm1.block hk3.2
          have hg3 := hg1.block hk3.1
          gi_wp2
          go_roundw
          case rel => exact ⟨j + 1, by omega, by simp, hm3, hg3, by rw [hnx, finD_take (show P < L.length by omega)]; exact hJ3⟩
          case measure => simp [intOf]; omega
        · gi_wp2
          refine bodyPost_ret (results_none rfl _ _ _) rfl ?_
          exact ⟨⟨_, rfl⟩, .inr ⟨_, by rw [← finD_take (show P < L.length by omega)]; exact List.take_prefix _ _, hJx3⟩⟩
    · obtain rfl : j = bs.length := by omega
      rw [hPn, List.take_of_length_le (by simp)] at hJs
      have hnl : ¬ (bs.length : Int) < (bs.length : Int) := by omega
      gi_wp2
      go_end0
      exact ⟨⟨_, rfl⟩, .inl hJs⟩
end Go.Proofs.Ytdnlobcfmibeoaa
