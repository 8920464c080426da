/-
  What unit.walk returns over four steps (times, plus, plus, times): one step behind the other, up to the first one that fails. Conditions: the numbers are of 64 bits; the steps lie where they were laid.
-/
import Derived.Test.YtbojdlagacanoaaUnStep
namespace Go.Proofs.Ytbojdlagacanoaa
open Go.RowKit
set_option linter.unusedVariables false

/-- one step more, where none has failed: (numerator, denominator, what is wrong) -/
def stM (r : Int × Int × Int) (a b : Int) : Int × Int × Int := if r.2.2 = 0 then (mulN r.1 r.2.1 a b, mulD r.1 r.2.1 a b, mulE r.1 r.2.1 a b) else r
def stA (r : Int × Int × Int) (a b : Int) : Int × Int × Int := if r.2.2 = 0 then (addN r.1 r.2.1 a b, addD r.1 r.2.1 a b, addE r.1 r.2.1 a b) else r
/-- what is left to do behind k steps -/
def restT (a1 b1 a2 b2 a3 b3 a4 b4 : Int) : Nat → Int × Int × Int → Int × Int × Int
  | 0, r => stM (stA (stA (stM r a1 b1) a2 b2) a3 b3) a4 b4
  | 1, r => stM (stA (stA r a2 b2) a3 b3) a4 b4
  | 2, r => stM (stA r a3 b3) a4 b4
  | 3, r => stM r a4 b4
  | _, r => r
theorem stM_fail {x y e a b : Int} (h : e ≠ 0) : stM (x, y, e) a b = (x, y, e) := if_neg h
theorem stA_fail {x y e a b : Int} (h : e ≠ 0) : stA (x, y, e) a b = (x, y, e) := if_neg h
theorem stM_go {x y a b : Int} : stM (x, y, 0) a b = (mulN x y a b, mulD x y a b, mulE x y a b) := if_pos rfl
theorem stA_go {x y a b : Int} : stA (x, y, 0) a b = (addN x y a b, addD x y a b, addE x y a b) := if_pos rfl
theorem mul_zero {x y a b : Int} (h : mulE x y a b ≠ 0) : mulN x y a b = 0 ∧ mulD x y a b = 0 := by
  rcases mulE_ways x y a b with ⟨_, _, h3, h4⟩ | ⟨_, _, h3, h4⟩ | ⟨h1, _⟩
  · exact ⟨h3, h4⟩
  · exact ⟨h3, h4⟩
  · exact absurd h1 h
theorem add_zero' {x y a b : Int} (h : addE x y a b ≠ 0) : addN x y a b = 0 ∧ addD x y a b = 0 := by
  rcases addE_cases x y a b with ⟨_, _, h3, h4⟩ | ⟨_, _, h3, h4⟩ | ⟨h1, _⟩
  · exact ⟨h3, h4⟩
  · exact ⟨h3, h4⟩
  · exact absurd h1 h

/-- the round's state: what has come so far lies in its block, the answer's block is as it was laid -/
def St (w x : World) (n d : Int) : Prop := Has x w.heap.size (.int .i64 n) (.int .i64 d) ∧ Has x (w.heap.size + 1) (.int .i64 0) (.int .i64 0) ∧ Below w.heap.size w x
theorem St.step {w x y : World} {n d : Int} (h : St w x n d) (hb : Below x.heap.size x y) (N D : Int) (t : TypeId) :
    St w (((y.alloc (.cells #[.int .i64 N, .int .i64 D] t)).setCell ⟨w.heap.size, 0, none⟩ (.int .i64 N)).setCell ⟨w.heap.size, 1, none⟩ (.int .i64 D)) N D :=
  ⟨((h.1.below hb).alloc _).setOwn, ((h.2.1.below hb).alloc _).setFar (by omega), below_set2 ((below_trans h.2.2 hb).alloc (below_trans h.2.2 hb).size _) (Nat.le_refl _) (Nat.le_refl _)⟩

theorem restT_fail (a1 b1 a2 b2 a3 b3 a4 b4 : Int) {e : Int} (h : e ≠ 0) : ∀ k, restT a1 b1 a2 b2 a3 b3 a4 b4 k (0, 0, e) = (0, 0, e)
  | 0 => by simp only [restT, stM_fail h, stA_fail h]
  | 1 => by simp only [restT, stM_fail h, stA_fail h]
  | 2 => by simp only [restT, stM_fail h, stA_fail h]
  | 3 => by simp only [restT, stM_fail h]
  | k + 4 => rfl
theorem ret3 {T : Int × Int × Int} {x y e : Int} (h : T = (x, y, e)) : Ending.returned (.tuple #[rv x y, .int .i64 e]) = .returned (.tuple #[rv T.1 T.2.1, .int .i64 T.2.2]) := by rw [h]

set_option maxRecDepth 100000 in
set_option maxHeartbeats 4000000 in
theorem walk_any (n d a1 b1 a2 b2 a3 b3 a4 b4 : Int) (f1 f2 f3 f4 : Value) (b : Nat) (w : World) (hn : I64 n) (hd : I64 d)
    (i1 : I64 a1) (j1 : I64 b1) (i2 : I64 a2) (j2 : I64 b2) (i3 : I64 a3) (j3 : I64 b3) (i4 : I64 a4) (j4 : I64 b4)
    (hf1 : MulC w f1 a1 b1) (hf2 : AddC w f2 a2 b2) (hf3 : AddC w f3 a3 b3) (hf4 : MulC w f4 a4 b4)
    (hs : w.cell? ⟨b, 0, none⟩ = some f1 ∧ w.cell? ⟨b, 1, none⟩ = some f2 ∧ w.cell? ⟨b, 2, none⟩ = some f3 ∧ w.cell? ⟨b, 3, none⟩ = some f4) (T : Int × Int × Int) (hT : T = restT a1 b1 a2 b2 a3 b3 a4 b4 0 (n, d, 0)) :
    Calls Try.prog 21 #[rv n d, .slice (some ⟨b, 0, none⟩) 4 4] w fun e w' => e = .returned (.tuple #[rv T.1 T.2.1, .int .i64 T.2.2]) ∧ Below w.heap.size w w' := by
  obtain ⟨c1, rfl, hh1⟩ := hf1
  obtain ⟨c2, rfl, hh2⟩ := hf2
  obtain ⟨c3, rfl, hh3⟩ := hf3
  obtain ⟨c4, rfl, hh4⟩ := hf4
  have hbl : b < w.heap.size := block_lt_of_cell hs.1
  have S0 : Hid (St w ((w.alloc (.cells #[.int .i64 n, .int .i64 d] 25)).alloc (.cells #[.int .i64 0, .int .i64 0] 25)) n d) :=
    ⟨(has_new w _ _ _).alloc _, has_at _ _ _ (by simp), by go_grown⟩
  have HS : Hid (w.cell? ⟨b, 0, none⟩ = some (.func (.func 33) #[] #[.pointer (some ⟨c1, 0, none⟩)]) ∧ w.cell? ⟨b, 1, none⟩ = some (.func (.func 35) #[] #[.pointer (some ⟨c2, 0, none⟩)]) ∧ w.cell? ⟨b, 2, none⟩ = some (.func (.func 35) #[] #[.pointer (some ⟨c3, 0, none⟩)]) ∧ w.cell? ⟨b, 3, none⟩ = some (.func (.func 33) #[] #[.pointer (some ⟨c4, 0, none⟩)])) := hs
  have HT : Hid (T = restT a1 b1 a2 b2 a3 b3 a4 b4 0 (n, d, 0)) := hT
  have HF : Hid (Has w c1 (.int .i64 a1) (.int .i64 b1) ∧ Has w c2 (.int .i64 a2) (.int .i64 b2) ∧ Has w c3 (.int .i64 a3) (.int .i64 b3) ∧ Has w c4 (.int .i64 a4) (.int .i64 b4)) := ⟨hh1, hh2, hh3, hh4⟩
  have HI : Hid (I64 n ∧ I64 d) := ⟨hn, hd⟩
  clear hs hT hh1 hh2 hh3 hh4 hn hd
  go_enter Try.func21, Try.ntmps21
  go_wp2
  go_loopw [12] (fun i x => ∃ k : Nat, ∃ N D : Int, i = .int .i64 (k : Int) ∧ k ≤ 4 ∧ Hid (St w x N D) ∧ Hid (I64 N ∧ I64 D) ∧ Hid (T = restT a1 b1 a2 b2 a3 b3 a4 b4 k (N, D, 0))) (fun i _ => 4 - (intOf i).toNat)
  case atStart => exact ⟨0, n, d, rfl, by omega, S0, HI, HT⟩
  case round =>
    obtain ⟨k, N, D, rfl, hk, S, HN, TR⟩ := hrel
    match k, hk with
    | 0, _ =>
      have hbw := S.out.2.2
      obtain ⟨v0, v1, p0, p1, vl⟩ := S.out.1
      have cf := (hbw.cell (p := ⟨b, 0, none⟩) hbl).trans HS.out.1
      have g : Hid (Calls Try.prog 33 #[rv N D, .pointer (some ⟨c1, 0, none⟩)] wr fun e w' => e = .returned (.tuple #[rv (mulN N D a1 b1) (mulD N D a1 b1), .int .i64 (mulE N D a1 b1)]) ∧ Below wr.heap.size wr w') := times1_any N D a1 b1 c1 wr HN.out.1 HN.out.2 i1 j1 (HF.out.1.below hbw)
      have T1 : Hid (T = restT a1 b1 a2 b2 a3 b3 a4 b4 1 (mulN N D a1 b1, mulD N D a1 b1, mulE N D a1 b1)) := by
        show _ = _
        rw [TR.out]; simp only [restT, stM_go]
      have HN1 : Hid (I64 (mulN N D a1 b1) ∧ I64 (mulD N D a1 b1)) := mul_bd _ _ _ _
      have hz : mulE N D a1 b1 ≠ 0 → mulN N D a1 b1 = 0 ∧ mulD N D a1 b1 = 0 := mul_zero
      clear TR HN hbw
      generalize mulN N D a1 b1 = N1 at *
      generalize mulD N D a1 b1 = D1 at *
      generalize mulE N D a1 b1 = E1 at *
      by_cases he : E1 = 0
      · subst he
        clear hz
        go_wp2_with fail
        refine g.out.mono ?_
        rintro e y ⟨rfl, hb⟩
        obtain ⟨q0, q1, r0, r1, rl⟩ := (S.out.1.below hb).alloc (.cells #[.int .i64 N1, .int .i64 D1] 25)
        have SN : Hid _ := S.out.step hb N1 D1 25
        clear g cf v0 v1 p0 p1 vl S hb
        go_wp2
        go_roundw
        case rel => exact ⟨1, N1, D1, by simp, by omega, SN, HN1, T1⟩
        case measure => simp [intOf]
      · have hE : (E1 == 0) = false := by simp [he]
        obtain ⟨rfl, rfl⟩ := hz he
        have TF : Hid (T = (0, 0, E1)) := by
          show _ = _
          rw [T1.out]; exact restT_fail _ _ _ _ _ _ _ _ he 1
        clear hz T1
        go_wp2_with fail
        refine g.out.mono ?_
        rintro e y ⟨rfl, hb⟩
        have SB : Hid (Below w.heap.size w (y.alloc (.cells #[.int .i64 0, .int .i64 0] 25))) := (below_trans S.out.2.2 hb).alloc (below_trans S.out.2.2 hb).size _
        obtain ⟨q0, q1, r0, r1, rl⟩ := (S.out.2.1.below hb).alloc (.cells #[.int .i64 0, .int .i64 0] 25)
        have hq := fun x z => wrote2 (w := y.alloc (.cells #[.int .i64 0, .int .i64 0] 25)) (b := w.heap.size + 1) (x := x) (y := z) q0 q1
        clear g cf v0 v1 p0 p1 vl S hb
        go_wp2
        refine bodyPost_ret (res_pair Try.results21 rfl rfl (hq _ _).1 (hq _ _).2) rfl ?_
        exact ⟨ret3 TF.out, below_set2 SB.out (by simp) (by simp)⟩
    | 1, _ =>
      have hbw := S.out.2.2
      obtain ⟨v0, v1, p0, p1, vl⟩ := S.out.1
      have cf := (hbw.cell (p := ⟨b, 1, none⟩) hbl).trans HS.out.2.1
      have g : Hid (Calls Try.prog 35 #[rv N D, .pointer (some ⟨c2, 0, none⟩)] wr fun e w' => e = .returned (.tuple #[rv (addN N D a2 b2) (addD N D a2 b2), .int .i64 (addE N D a2 b2)]) ∧ Below wr.heap.size wr w') := plus1_any N D a2 b2 c2 wr HN.out.1 HN.out.2 i2 j2 (HF.out.2.1.below hbw)
      have T1 : Hid (T = restT a1 b1 a2 b2 a3 b3 a4 b4 2 (addN N D a2 b2, addD N D a2 b2, addE N D a2 b2)) := by
        show _ = _
        rw [TR.out]; simp only [restT, stA_go]
      have HN1 : Hid (I64 (addN N D a2 b2) ∧ I64 (addD N D a2 b2)) := add_bd _ _ _ _
      have hz : addE N D a2 b2 ≠ 0 → addN N D a2 b2 = 0 ∧ addD N D a2 b2 = 0 := add_zero'
      clear TR HN hbw
      generalize addN N D a2 b2 = N1 at *
      generalize addD N D a2 b2 = D1 at *
      generalize addE N D a2 b2 = E1 at *
      by_cases he : E1 = 0
      · subst he
        clear hz
        go_wp2_with fail
        refine g.out.mono ?_
        rintro e y ⟨rfl, hb⟩
        obtain ⟨q0, q1, r0, r1, rl⟩ := (S.out.1.below hb).alloc (.cells #[.int .i64 N1, .int .i64 D1] 25)
        have SN : Hid _ := S.out.step hb N1 D1 25
        clear g cf v0 v1 p0 p1 vl S hb
        go_wp2
        go_roundw
        case rel => exact ⟨2, N1, D1, by simp, by omega, SN, HN1, T1⟩
        case measure => simp [intOf]
      · have hE : (E1 == 0) = false := by simp [he]
        obtain ⟨rfl, rfl⟩ := hz he
        have TF : Hid (T = (0, 0, E1)) := by
          show _ = _
          rw [T1.out]; exact restT_fail _ _ _ _ _ _ _ _ he 2
        clear hz T1
        go_wp2_with fail
        refine g.out.mono ?_
        rintro e y ⟨rfl, hb⟩
        have SB : Hid (Below w.heap.size w (y.alloc (.cells #[.int .i64 0, .int .i64 0] 25))) := (below_trans S.out.2.2 hb).alloc (below_trans S.out.2.2 hb).size _
        obtain ⟨q0, q1, r0, r1, rl⟩ := (S.out.2.1.below hb).alloc (.cells #[.int .i64 0, .int .i64 0] 25)
        have hq := fun x z => wrote2 (w := y.alloc (.cells #[.int .i64 0, .int .i64 0] 25)) (b := w.heap.size + 1) (x := x) (y := z) q0 q1
        clear g cf v0 v1 p0 p1 vl S hb
        go_wp2
        refine bodyPost_ret (res_pair Try.results21 rfl rfl (hq _ _).1 (hq _ _).2) rfl ?_
        exact ⟨ret3 TF.out, below_set2 SB.out (by simp) (by simp)⟩
    | 2, _ =>
      have hbw := S.out.2.2
      obtain ⟨v0, v1, p0, p1, vl⟩ := S.out.1
      have cf := (hbw.cell (p := ⟨b, 2, none⟩) hbl).trans HS.out.2.2.1
      have g : Hid (Calls Try.prog 35 #[rv N D, .pointer (some ⟨c3, 0, none⟩)] wr fun e w' => e = .returned (.tuple #[rv (addN N D a3 b3) (addD N D a3 b3), .int .i64 (addE N D a3 b3)]) ∧ Below wr.heap.size wr w') := plus1_any N D a3 b3 c3 wr HN.out.1 HN.out.2 i3 j3 (HF.out.2.2.1.below hbw)
      have T1 : Hid (T = restT a1 b1 a2 b2 a3 b3 a4 b4 3 (addN N D a3 b3, addD N D a3 b3, addE N D a3 b3)) := by
        show _ = _
        rw [TR.out]; simp only [restT, stA_go]
      have HN1 : Hid (I64 (addN N D a3 b3) ∧ I64 (addD N D a3 b3)) := add_bd _ _ _ _
      have hz : addE N D a3 b3 ≠ 0 → addN N D a3 b3 = 0 ∧ addD N D a3 b3 = 0 := add_zero'
      clear TR HN hbw
      generalize addN N D a3 b3 = N1 at *
      generalize addD N D a3 b3 = D1 at *
      generalize addE N D a3 b3 = E1 at *
      by_cases he : E1 = 0
      · subst he
        clear hz
        go_wp2_with fail
        refine g.out.mono ?_
        rintro e y ⟨rfl, hb⟩
        obtain ⟨q0, q1, r0, r1, rl⟩ := (S.out.1.below hb).alloc (.cells #[.int .i64 N1, .int .i64 D1] 25)
        have SN : Hid _ := S.out.step hb N1 D1 25
        clear g cf v0 v1 p0 p1 vl S hb
        go_wp2
        go_roundw
        case rel => exact ⟨3, N1, D1, by simp, by omega, SN, HN1, T1⟩
        case measure => simp [intOf]
      · have hE : (E1 == 0) = false := by simp [he]
        obtain ⟨rfl, rfl⟩ := hz he
        have TF : Hid (T = (0, 0, E1)) := by
          show _ = _
          rw [T1.out]; exact restT_fail _ _ _ _ _ _ _ _ he 3
        clear hz T1
        go_wp2_with fail
        refine g.out.mono ?_
        rintro e y ⟨rfl, hb⟩
        have SB : Hid (Below w.heap.size w (y.alloc (.cells #[.int .i64 0, .int .i64 0] 25))) := (below_trans S.out.2.2 hb).alloc (below_trans S.out.2.2 hb).size _
        obtain ⟨q0, q1, r0, r1, rl⟩ := (S.out.2.1.below hb).alloc (.cells #[.int .i64 0, .int .i64 0] 25)
        have hq := fun x z => wrote2 (w := y.alloc (.cells #[.int .i64 0, .int .i64 0] 25)) (b := w.heap.size + 1) (x := x) (y := z) q0 q1
        clear g cf v0 v1 p0 p1 vl S hb
        go_wp2
        refine bodyPost_ret (res_pair Try.results21 rfl rfl (hq _ _).1 (hq _ _).2) rfl ?_
        exact ⟨ret3 TF.out, below_set2 SB.out (by simp) (by simp)⟩
    | 3, _ =>
      have hbw := S.out.2.2
      obtain ⟨v0, v1, p0, p1, vl⟩ := S.out.1
      have cf := (hbw.cell (p := ⟨b, 3, none⟩) hbl).trans HS.out.2.2.2
      have g : Hid (Calls Try.prog 33 #[rv N D, .pointer (some ⟨c4, 0, none⟩)] wr fun e w' => e = .returned (.tuple #[rv (mulN N D a4 b4) (mulD N D a4 b4), .int .i64 (mulE N D a4 b4)]) ∧ Below wr.heap.size wr w') := times1_any N D a4 b4 c4 wr HN.out.1 HN.out.2 i4 j4 (HF.out.2.2.2.below hbw)
      have T1 : Hid (T = restT a1 b1 a2 b2 a3 b3 a4 b4 4 (mulN N D a4 b4, mulD N D a4 b4, mulE N D a4 b4)) := by
        show _ = _
        rw [TR.out]; simp only [restT, stM_go]
      have HN1 : Hid (I64 (mulN N D a4 b4) ∧ I64 (mulD N D a4 b4)) := mul_bd _ _ _ _
      have hz : mulE N D a4 b4 ≠ 0 → mulN N D a4 b4 = 0 ∧ mulD N D a4 b4 = 0 := mul_zero
      clear TR HN hbw
      generalize mulN N D a4 b4 = N1 at *
      generalize mulD N D a4 b4 = D1 at *
      generalize mulE N D a4 b4 = E1 at *
      by_cases he : E1 = 0
      · subst he
        clear hz
        go_wp2_with fail
        refine g.out.mono ?_
        rintro e y ⟨rfl, hb⟩
        obtain ⟨q0, q1, r0, r1, rl⟩ := (S.out.1.below hb).alloc (.cells #[.int .i64 N1, .int .i64 D1] 25)
        have SN : Hid _ := S.out.step hb N1 D1 25
        clear g cf v0 v1 p0 p1 vl S hb
        go_wp2
        go_roundw
        case rel => exact ⟨4, N1, D1, by simp, by omega, SN, HN1, T1⟩
        case measure => simp [intOf]
      · have hE : (E1 == 0) = false := by simp [he]
        obtain ⟨rfl, rfl⟩ := hz he
        have TF : Hid (T = (0, 0, E1)) := by
          show _ = _
          rw [T1.out]; exact restT_fail _ _ _ _ _ _ _ _ he 4
        clear hz T1
        go_wp2_with fail
        refine g.out.mono ?_
        rintro e y ⟨rfl, hb⟩
        have SB : Hid (Below w.heap.size w (y.alloc (.cells #[.int .i64 0, .int .i64 0] 25))) := (below_trans S.out.2.2 hb).alloc (below_trans S.out.2.2 hb).size _
        obtain ⟨q0, q1, r0, r1, rl⟩ := (S.out.2.1.below hb).alloc (.cells #[.int .i64 0, .int .i64 0] 25)
        have hq := fun x z => wrote2 (w := y.alloc (.cells #[.int .i64 0, .int .i64 0] 25)) (b := w.heap.size + 1) (x := x) (y := z) q0 q1
        clear g cf v0 v1 p0 p1 vl S hb
        go_wp2
        refine bodyPost_ret (res_pair Try.results21 rfl rfl (hq _ _).1 (hq _ _).2) rfl ?_
        exact ⟨ret3 TF.out, below_set2 SB.out (by simp) (by simp)⟩
    | 4, _ =>
      obtain ⟨v0, v1, p0, p1, vl⟩ := S.out.1
      obtain ⟨q0, q1, r0, r1, rl⟩ := S.out.2.1
      have hq := fun x z => wrote2 (w := wr) (b := w.heap.size + 1) (x := x) (y := z) q0 q1
      have SB : Hid (Below w.heap.size w wr) := S.out.2.2
      clear S
      go_wp2
      refine bodyPost_ret (res_pair Try.results21 rfl rfl (hq _ _).1 (hq _ _).2) rfl ?_
      exact ⟨ret3 TR.out, below_set2 SB.out (by simp) (by simp)⟩
end Go.Proofs.Ytbojdlagacanoaa
