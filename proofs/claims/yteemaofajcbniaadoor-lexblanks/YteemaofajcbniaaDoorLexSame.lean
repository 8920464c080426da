/-
  What the law's own same returns of lines that are alike (layer 7). Conditions: rs1 it says.
-/
import Derived.Deep.CutRange
import Derived.BigQuiet
import Derived.Deep.QuietTactic
import Derived.Test.YteemaofajcbniaaDoorLexKit
namespace Go.Proofs.YteemaofajcbniaaDoor
open Go.RowKit
set_option linter.unusedVariables false

/-- lines alike; by their numbers too, if told so -/
def AlikeR (b : Bool) (rs1 rs2 : List Ln) : Prop := rs1.length = rs2.length ∧ ∀ i (h1 : i < rs1.length) (h2 : i < rs2.length), rs1[i].2 = rs2[i].2 ∧ (b = true → rs1[i].1 = rs2[i].1)
theorem drN2 (w : World) (a b : Nat) : (w.drewN a).drewN b = w.drewN (a + b) := by simp [World.drewN, Nat.add_assoc]
/-- no line is without words -/
def RowsOk (rs : List Ln) : Prop := ∀ r ∈ rs, ¬ r.2 = []
theorem strs_row {x : World} {v : Value} {ws : List Wd} (h : StrsAt x v ws) (hn : ¬ ws = []) : ∃ g o cap, v = .slice (some ⟨g, o, none⟩) ws.length cap ∧ StrsIn x g o ws := by
  rcases h with ⟨_, h⟩ | ⟨g, o, cap, h1, h2, _⟩
  · exact absurd h hn
  · exact ⟨g, o, cap, h1, h2⟩
/-- the cells of line i, its words' slice written out -/
theorem row_cells {x : World} {g o : Nat} {rs : List Ln} (h : ∀ j (h : j < rs.length), RowIn x g (o + 2 * j) rs[j]) (hok : RowsOk rs) {i : Nat} (hi : i < rs.length) :
    ∃ gu ou cu, x.cell? ⟨g, o + i * 2, none⟩ = some (.int .i64 (rs[i].1 : Int)) ∧ x.cell? ⟨g, o + i * 2 + 1, none⟩ = some (.slice (some ⟨gu, ou, none⟩) rs[i].2.length cu) ∧ StrsIn x gu ou rs[i].2 := by
  obtain ⟨h1, u, h2, h3⟩ := h i hi
  obtain ⟨gu, ou, cu, rfl, h4⟩ := strs_row h3 (hok _ (List.getElem_mem hi))
  rw [Nat.mul_comm 2 i] at h1 h2
  exact ⟨gu, ou, cu, h1, h2, h4⟩

set_option maxRecDepth 100000 in
set_option maxHeartbeats 8000000 in
theorem same_true (w : World) (ga oa ca gb ob cb n : Nat) (rs1 rs2 : List Ln) (hn : (n : Int) ≤ 4100) (hp : 0 < n) (HA : Hid (rs1.length = n ∧ rs2.length = n ∧ AlikeR true rs1 rs2 ∧ RowsOk rs1 ∧ RowsOk rs2)) (Hm : Hid (∀ r ∈ rs1, (r.2.length : Int) ≤ 4100))
    (HR : Hid ((∀ j (h : j < rs1.length), RowIn w ga (oa + 2 * j) rs1[j]) ∧ ∀ j (h : j < rs2.length), RowIn w gb (ob + 2 * j) rs2[j])) :
    Calls Tryd.prog 10 #[.slice (some ⟨ga, oa, none⟩) n ca, .slice (some ⟨gb, ob, none⟩) n cb, .bool true] w fun e w' => e = .returned (.int .i64 1) ∧ Below w.heap.size w w' := by
  go_enter Tryd.func10, Tryd.ntmps10
  go_wp2
  go_loopw [7] (fun vi wr => ∃ i d : Nat, (i : Int) ≤ (n : Int) ∧ vi = .int .i64 (i : Int) ∧ wr = w.drewN d) (fun vi _ => n - (intOf vi).toNat)
  case atStart => exact ⟨0, 0, by omega, rfl, rfl⟩
  case round =>
    obtain ⟨i, d, hi, rfl, rfl⟩ := hrel
    by_cases hlt : i < n
    · have hii : (i : Int) < (n : Int) := by omega
      obtain ⟨h1, h2, ⟨h3, h4⟩, h5, h6⟩ := HA.out
      have q1 : i < rs1.length := by omega
      have q2 : i < rs2.length := by omega
      obtain ⟨gu, ou, cu, a0, a1, a2⟩ := row_cells HR.out.1 h5 q1
      obtain ⟨gv, ov, cv, b0, b1, b2⟩ := row_cells HR.out.2 h6 q2
      obtain ⟨e1, e2⟩ := h4 i q1 q2
      rw [← e1] at b1 b2
      rw [← e2 rfl] at b0
      have hm := Hm.out _ (List.getElem_mem q1)
      replace a2 : Hid (StrsIn w gu ou rs1[i].2) := a2
      replace b2 : Hid (StrsIn w gv ov rs1[i].2) := b2
      clear h1 h2 h3 h4 h5 h6 e1 e2
      obtain ⟨L, eL⟩ : ∃ L : Int, (rs1[i].1 : Int) = L := ⟨_, rfl⟩
      rw [eL] at a0 b0
      clear eL
      generalize rs1[i].2 = ws at *
      obtain ⟨m, em⟩ : ∃ m : Nat, ws.length = m := ⟨_, rfl⟩
      rw [em] at a1 b1 hm
      replace em : Hid (ws.length = m) := em
      go_upto_region 6 with fail
      go_quiet (fail)
      go_wp2
      go_loopw [8] (fun vk wr => ∃ k d : Nat, (k : Int) ≤ (m : Int) ∧ vk = .int .i64 (k : Int) ∧ wr = w.drewN d) (fun vk _ => m - (intOf vk).toNat)
      case atStart => exact ⟨0, d + nq, by omega, rfl, drN2 _ _ _⟩
      case round =>
        obtain ⟨k, d2, hk, rfl, rfl⟩ := hrel
        by_cases hkl : k < m
        · have hki : (k : Int) < (m : Int) := by omega
          have x0 := a2.out k (by rw [em.out]; exact hkl)
          have y0 := b2.out k (by rw [em.out]; exact hkl)
          generalize txt (ws[k]'(by rw [em.out]; exact hkl)) = S at *
          go_upto_region 11 with fail
          go_quiet (fail)
          go_wp2
          exact ⟨⟨k + 1, _, by omega, by simp, rfl⟩, by simp [intOf]; omega⟩
        · obtain rfl : k = m := by omega
          go_wp2
          exact ⟨⟨i + 1, _, by omega, by simp, rfl⟩, by simp [intOf]; omega⟩
    · obtain rfl : i = n := by omega
      go_wp2
      go_ret
      exact ⟨rfl, below_dn _ _⟩

set_option maxRecDepth 100000 in
set_option maxHeartbeats 8000000 in
theorem same_false (w : World) (ga oa ca gb ob cb n : Nat) (rs1 rs2 : List Ln) (hn : (n : Int) ≤ 4100) (hp : 0 < n) (HA : Hid (rs1.length = n ∧ rs2.length = n ∧ AlikeR false rs1 rs2 ∧ RowsOk rs1 ∧ RowsOk rs2)) (Hm : Hid (∀ r ∈ rs1, (r.2.length : Int) ≤ 4100))
    (HR : Hid ((∀ j (h : j < rs1.length), RowIn w ga (oa + 2 * j) rs1[j]) ∧ ∀ j (h : j < rs2.length), RowIn w gb (ob + 2 * j) rs2[j])) :
    Calls Tryd.prog 10 #[.slice (some ⟨ga, oa, none⟩) n ca, .slice (some ⟨gb, ob, none⟩) n cb, .bool false] w fun e w' => e = .returned (.int .i64 1) ∧ Below w.heap.size w w' := by
  go_enter Tryd.func10, Tryd.ntmps10
  go_wp2
  go_loopw [7] (fun vi wr => ∃ i d : Nat, (i : Int) ≤ (n : Int) ∧ vi = .int .i64 (i : Int) ∧ wr = w.drewN d) (fun vi _ => n - (intOf vi).toNat)
  case atStart => exact ⟨0, 0, by omega, rfl, rfl⟩
  case round =>
    obtain ⟨i, d, hi, rfl, rfl⟩ := hrel
    by_cases hlt : i < n
    · have hii : (i : Int) < (n : Int) := by omega
      obtain ⟨h1, h2, ⟨h3, h4⟩, h5, h6⟩ := HA.out
      have q1 : i < rs1.length := by omega
      have q2 : i < rs2.length := by omega
      obtain ⟨gu, ou, cu, a0, a1, a2⟩ := row_cells HR.out.1 h5 q1
      obtain ⟨gv, ov, cv, b0, b1, b2⟩ := row_cells HR.out.2 h6 q2
      obtain ⟨e1, e2⟩ := h4 i q1 q2
      rw [← e1] at b1 b2
      have hm := Hm.out _ (List.getElem_mem q1)
      replace a2 : Hid (StrsIn w gu ou rs1[i].2) := a2
      replace b2 : Hid (StrsIn w gv ov rs1[i].2) := b2
      clear h1 h2 h3 h4 h5 h6 e1 e2
      obtain ⟨L, eL⟩ : ∃ L : Int, (rs1[i].1 : Int) = L := ⟨_, rfl⟩
      rw [eL] at a0
      clear eL
      generalize rs1[i].2 = ws at *
      obtain ⟨m, em⟩ : ∃ m : Nat, ws.length = m := ⟨_, rfl⟩
      rw [em] at a1 b1 hm
      replace em : Hid (ws.length = m) := em
      go_upto_region 6 with fail
      go_quiet (fail)
      go_wp2
      go_loopw [8] (fun vk wr => ∃ k d : Nat, (k : Int) ≤ (m : Int) ∧ vk = .int .i64 (k : Int) ∧ wr = w.drewN d) (fun vk _ => m - (intOf vk).toNat)
      case atStart => exact ⟨0, d + nq, by omega, rfl, drN2 _ _ _⟩
      case round =>
        obtain ⟨k, d2, hk, rfl, rfl⟩ := hrel
        by_cases hkl : k < m
        · have hki : (k : Int) < (m : Int) := by omega
          have x0 := a2.out k (by rw [em.out]; exact hkl)
          have y0 := b2.out k (by rw [em.out]; exact hkl)
          generalize txt (ws[k]'(by rw [em.out]; exact hkl)) = S at *
          go_upto_region 11 with fail
          go_quiet (fail)
          go_wp2
          exact ⟨⟨k + 1, _, by omega, by simp, rfl⟩, by simp [intOf]; omega⟩
        · obtain rfl : k = m := by omega
          go_wp2
          exact ⟨⟨i + 1, _, by omega, by simp, rfl⟩, by simp [intOf]; omega⟩
    · obtain rfl : i = n := by omega
      go_wp2
      go_ret
      exact ⟨rfl, below_dn _ _⟩

set_option maxRecDepth 100000 in
set_option maxHeartbeats 2000000 in
theorem same0_true_nn (w : World)  :
    Calls Tryd.prog 10 #[.slice none 0 0, .slice none 0 0, .bool true] w fun e w' => e = .returned (.int .i64 1) ∧ Below w.heap.size w w' := by
  go_enter Tryd.func10, Tryd.ntmps10
  go_wp2
  go_loop [7] (fun vi => vi = .int .i64 0) (fun _ => 0)
  case atStart => exact rfl
  case round =>
    obtain rfl := hrel
    go_wp2
    go_ret
    exact ⟨rfl, Below.refl _ _⟩

set_option maxRecDepth 100000 in
set_option maxHeartbeats 2000000 in
theorem same0_true_nr (w : World) (gb ob cb : Nat) :
    Calls Tryd.prog 10 #[.slice none 0 0, .slice (some ⟨gb, ob, none⟩) 0 cb, .bool true] w fun e w' => e = .returned (.int .i64 1) ∧ Below w.heap.size w w' := by
  go_enter Tryd.func10, Tryd.ntmps10
  go_wp2
  go_loop [7] (fun vi => vi = .int .i64 0) (fun _ => 0)
  case atStart => exact rfl
  case round =>
    obtain rfl := hrel
    go_wp2
    go_ret
    exact ⟨rfl, Below.refl _ _⟩

set_option maxRecDepth 100000 in
set_option maxHeartbeats 2000000 in
theorem same0_true_rn (w : World) (ga oa ca : Nat) :
    Calls Tryd.prog 10 #[.slice (some ⟨ga, oa, none⟩) 0 ca, .slice none 0 0, .bool true] w fun e w' => e = .returned (.int .i64 1) ∧ Below w.heap.size w w' := by
  go_enter Tryd.func10, Tryd.ntmps10
  go_wp2
  go_loop [7] (fun vi => vi = .int .i64 0) (fun _ => 0)
  case atStart => exact rfl
  case round =>
    obtain rfl := hrel
    go_wp2
    go_ret
    exact ⟨rfl, Below.refl _ _⟩

set_option maxRecDepth 100000 in
set_option maxHeartbeats 2000000 in
theorem same0_true_rr (w : World) (ga oa ca gb ob cb : Nat) :
    Calls Tryd.prog 10 #[.slice (some ⟨ga, oa, none⟩) 0 ca, .slice (some ⟨gb, ob, none⟩) 0 cb, .bool true] w fun e w' => e = .returned (.int .i64 1) ∧ Below w.heap.size w w' := by
  go_enter Tryd.func10, Tryd.ntmps10
  go_wp2
  go_loop [7] (fun vi => vi = .int .i64 0) (fun _ => 0)
  case atStart => exact rfl
  case round =>
    obtain rfl := hrel
    go_wp2
    go_ret
    exact ⟨rfl, Below.refl _ _⟩

set_option maxRecDepth 100000 in
set_option maxHeartbeats 2000000 in
theorem same0_false_nn (w : World)  :
    Calls Tryd.prog 10 #[.slice none 0 0, .slice none 0 0, .bool false] w fun e w' => e = .returned (.int .i64 1) ∧ Below w.heap.size w w' := by
  go_enter Tryd.func10, Tryd.ntmps10
  go_wp2
  go_loop [7] (fun vi => vi = .int .i64 0) (fun _ => 0)
  case atStart => exact rfl
  case round =>
    obtain rfl := hrel
    go_wp2
    go_ret
    exact ⟨rfl, Below.refl _ _⟩

set_option maxRecDepth 100000 in
set_option maxHeartbeats 2000000 in
theorem same0_false_nr (w : World) (gb ob cb : Nat) :
    Calls Tryd.prog 10 #[.slice none 0 0, .slice (some ⟨gb, ob, none⟩) 0 cb, .bool false] w fun e w' => e = .returned (.int .i64 1) ∧ Below w.heap.size w w' := by
  go_enter Tryd.func10, Tryd.ntmps10
  go_wp2
  go_loop [7] (fun vi => vi = .int .i64 0) (fun _ => 0)
  case atStart => exact rfl
  case round =>
    obtain rfl := hrel
    go_wp2
    go_ret
    exact ⟨rfl, Below.refl _ _⟩

set_option maxRecDepth 100000 in
set_option maxHeartbeats 2000000 in
theorem same0_false_rn (w : World) (ga oa ca : Nat) :
    Calls Tryd.prog 10 #[.slice (some ⟨ga, oa, none⟩) 0 ca, .slice none 0 0, .bool false] w fun e w' => e = .returned (.int .i64 1) ∧ Below w.heap.size w w' := by
  go_enter Tryd.func10, Tryd.ntmps10
  go_wp2
  go_loop [7] (fun vi => vi = .int .i64 0) (fun _ => 0)
  case atStart => exact rfl
  case round =>
    obtain rfl := hrel
    go_wp2
    go_ret
    exact ⟨rfl, Below.refl _ _⟩

set_option maxRecDepth 100000 in
set_option maxHeartbeats 2000000 in
theorem same0_false_rr (w : World) (ga oa ca gb ob cb : Nat) :
    Calls Tryd.prog 10 #[.slice (some ⟨ga, oa, none⟩) 0 ca, .slice (some ⟨gb, ob, none⟩) 0 cb, .bool false] w fun e w' => e = .returned (.int .i64 1) ∧ Below w.heap.size w w' := by
  go_enter Tryd.func10, Tryd.ntmps10
  go_wp2
  go_loop [7] (fun vi => vi = .int .i64 0) (fun _ => 0)
  case atStart => exact rfl
  case round =>
    obtain rfl := hrel
    go_wp2
    go_ret
    exact ⟨rfl, Below.refl _ _⟩

theorem same_any (b : Bool) (w : World) (v1 v2 : Value) (rs1 rs2 : List Ln) (h1 : RowsAt w v1 rs1) (h2 : RowsAt w v2 rs2) (hn : (rs1.length : Int) ≤ 4100) (hm : ∀ r ∈ rs1, (r.2.length : Int) ≤ 4100) (ha : AlikeR b rs1 rs2) (ok1 : RowsOk rs1) (ok2 : RowsOk rs2) :
    Calls Tryd.prog 10 #[v1, v2, .bool b] w fun e w' => e = .returned (.int .i64 1) ∧ Below w.heap.size w w' := by
  by_cases hz : rs1.length = 0
  · have e1 := List.length_eq_zero_iff.1 hz
    have e2 := List.length_eq_zero_iff.1 (ha.1.symm.trans hz)
    subst e1 e2
    rcases h1.form with ⟨rfl, _⟩ | ⟨ga, oa, ca, rfl⟩
    · rcases h2.form with ⟨rfl, _⟩ | ⟨gb, ob, cb, rfl⟩
      · cases b
        · exact same0_false_nn w
        · exact same0_true_nn w
      · cases b
        · exact same0_false_nr w gb ob cb
        · exact same0_true_nr w gb ob cb
    · rcases h2.form with ⟨rfl, _⟩ | ⟨gb, ob, cb, rfl⟩
      · cases b
        · exact same0_false_rn w ga oa ca
        · exact same0_true_rn w ga oa ca
      · cases b
        · exact same0_false_rr w ga oa ca gb ob cb
        · exact same0_true_rr w ga oa ca gb ob cb
  · have l2 := ha.1
    rcases h1 with ⟨_, rfl⟩ | ⟨ga, oa, ca, rfl, r1, _⟩
    · exact absurd rfl hz
    rcases h2 with ⟨_, rfl⟩ | ⟨gb, ob, cb, rfl, r2, _⟩
    · exact absurd l2 hz
    rw [← l2]
    cases b
    · exact same_false w ga oa ca gb ob cb _ rs1 rs2 hn (by omega) ⟨rfl, l2.symm, ha, ok1, ok2⟩ hm ⟨r1, r2⟩
    · exact same_true w ga oa ca gb ob cb _ rs1 rs2 hn (by omega) ⟨rfl, l2.symm, ha, ok1, ok2⟩ hm ⟨r1, r2⟩
end Go.Proofs.YteemaofajcbniaaDoor
