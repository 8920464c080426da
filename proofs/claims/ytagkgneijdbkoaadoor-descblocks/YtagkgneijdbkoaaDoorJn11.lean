/-
  Texts that belong together, one behind the other: RatWR. Conditions: as each says.
-/
import Derived.Lib.QuietBelow
import Derived.Test.YtagkgneijdbkoaaDoorJn10
import Derived.Test.YtagkgneijdbkoaaDoorJn6
import Derived.Test.YtagkgneijdbkoaaDoorJn7
import Derived.Test.YtagkgneijdbkoaaDoorJn9
/-
  What ratio.Read returns of any text. Condition: the text fits memory.
-/
namespace Go.Proofs.YtagkgneijdbkoaaDoor
open Go.RowKit
set_option linter.unusedVariables false

/-- what is wrong with a text of a fraction, and the fraction -/
def rdE (s : ByteArray) : Int :=
  if readE (cutU s).data.toList = 6 ∨ readE (cutV s).data.toList = 6 then 6 else if readE (cutU s).data.toList ≠ 0 ∨ readE (cutV s).data.toList ≠ 0 then 2 else if rightB (readV (cutU s).data.toList) (readV (cutV s).data.toList) = true then 0 else 1
def rdN (s : ByteArray) : Int := if rdE s = 0 then readV (cutU s).data.toList else 0
def rdD (s : ByteArray) : Int := if rdE s = 0 then readV (cutV s).data.toList else 0

theorem coreE_ways (t : List UInt8) (m : Bool) : coreE t m = 6 ∨ coreE t m = 2 ∨ coreE t m = 0 := by
  unfold coreE; split
  · exact .inl rfl
  · split
    · exact .inr (.inr rfl)
    · exact .inr (.inl rfl)
theorem readE_ways (t : List UInt8) : readE t = 6 ∨ readE t = 2 ∨ readE t = 0 := by
  unfold readE; split
  · exact coreE_ways _ _
  · exact coreE_ways _ _
theorem readV_i64 (t : List UInt8) : I64 (readV t) := by
  unfold readV coreV I64
  split <;> split <;> first | exact fitV_bd _ | omega

theorem rd_ways (s : ByteArray) : ∃ (e1 e2 : Int) (r : Bool), readE (cutU s).data.toList = e1 ∧ readE (cutV s).data.toList = e2 ∧ rightB (readV (cutU s).data.toList) (readV (cutV s).data.toList) = r ∧
    ((e1 = 6 ∧ rdN s = 0 ∧ rdD s = 0 ∧ rdE s = 6) ∨ (e1 = 2 ∧ e2 = 6 ∧ rdN s = 0 ∧ rdD s = 0 ∧ rdE s = 6) ∨ (e1 = 0 ∧ e2 = 6 ∧ rdN s = 0 ∧ rdD s = 0 ∧ rdE s = 6)
    ∨ (e1 = 2 ∧ e2 = 2 ∧ rdN s = 0 ∧ rdD s = 0 ∧ rdE s = 2) ∨ (e1 = 2 ∧ e2 = 0 ∧ rdN s = 0 ∧ rdD s = 0 ∧ rdE s = 2) ∨ (e1 = 0 ∧ e2 = 2 ∧ rdN s = 0 ∧ rdD s = 0 ∧ rdE s = 2)
    ∨ (e1 = 0 ∧ e2 = 0 ∧ r = false ∧ rdN s = 0 ∧ rdD s = 0 ∧ rdE s = 1)
    ∨ (e1 = 0 ∧ e2 = 0 ∧ r = true ∧ rdN s = readV (cutU s).data.toList ∧ rdD s = readV (cutV s).data.toList ∧ rdE s = 0)) := by
  refine ⟨_, _, _, rfl, rfl, rfl, ?_⟩
  unfold rdN rdD rdE
  rcases readE_ways (cutU s).data.toList with h1 | h1 | h1 <;> rcases readE_ways (cutV s).data.toList with h2 | h2 | h2 <;> cases h3 : rightB (readV (cutU s).data.toList) (readV (cutV s).data.toList) <;> simp [h1, h2]

set_option maxHeartbeats 2000000 in
theorem ratRead_any (s : ByteArray) (w : World) (hs : s.size ≤ maxLen) :
    Calls Tryd.prog 51 #[.string s] w fun e w' => e = .returned (.tuple #[rv (rdN s) (rdD s), .int .i64 (rdE s)]) ∧ Below w.heap.size w w' := by
  have fc : Hid (∀ w, Calls Tryd.prog 39 #[.string s, .string ⟨#[47]⟩] w fun e w' => e = .returned (.tuple #[.string (cutU s), .string (cutV s), .bool (cutB s)]) ∧ ∃ n, w' = w.drewN n) := fun w => scut_any s w hs
  have cs := cut_sizes s
  have fu : Hid (∀ w, Calls Tryd.prog 58 #[.string (cutU s)] w fun e w' => e = .returned (.tuple #[.int .i64 (readV (cutU s).data.toList), .int .i64 (readE (cutU s).data.toList)]) ∧ w' = w) := fun w => read_any _ w (Nat.le_trans cs.1 hs)
  have fv : Hid (∀ w, Calls Tryd.prog 58 #[.string (cutV s)] w fun e w' => e = .returned (.tuple #[.int .i64 (readV (cutV s).data.toList), .int .i64 (readE (cutV s).data.toList)]) ∧ w' = w) := fun w => read_any _ w (Nat.le_trans cs.2 hs)
  have fr : Hid (∀ w, Calls Tryd.prog 59 #[rv (readV (cutU s).data.toList) (readV (cutV s).data.toList)] w fun e w' => e = .returned (.bool (rightB (readV (cutU s).data.toList) (readV (cutV s).data.toList))) ∧ Below w.heap.size w w') := fun w => right_any _ _ w (readV_i64 _) (readV_i64 _)
  obtain ⟨e1, e2, r, q1, q2, q3, hw⟩ := rd_ways s
  rw [q1] at fu
  rw [q2] at fv
  rw [q3] at fr
  clear cs q1 q2 q3 hs
  generalize readV (cutU s).data.toList = x at *
  generalize readV (cutV s).data.toList = y at *
  generalize cutU s = u at *
  generalize cutV s = v at *
  generalize cutB s = b at *
  generalize rdN s = N at *
  generalize rdD s = D at *
  generalize rdE s = E at *
  rcases hw with ⟨rfl, rfl, rfl, rfl⟩ | ⟨rfl, rfl, rfl, rfl, rfl⟩ | ⟨rfl, rfl, rfl, rfl, rfl⟩ | ⟨rfl, rfl, rfl, rfl, rfl⟩ | ⟨rfl, rfl, rfl, rfl, rfl⟩ | ⟨rfl, rfl, rfl, rfl, rfl⟩ | ⟨rfl, rfl, rfl, rfl, rfl, rfl⟩ | ⟨rfl, rfl, rfl, rfl, rfl, rfl⟩
  all_goals
    go_enter Tryd.func51, Tryd.ntmps51
    go_wp2_with fail
    refine (fc.out _).mono ?_
    rintro e w' ⟨rfl, k, rfl⟩
    go_wp2_with fail
    refine (fu.out _).mono ?_
    rintro e w' ⟨rfl, rfl⟩
    go_wp2_with fail
    refine (fv.out _).mono ?_
    rintro e w' ⟨rfl, rfl⟩
    clear fc fu fv
  · clear fr
    go_wp2
    go_returns
    exact ⟨rfl, below_set2 (below_drewN (by go_grown) _) (by simp) (by simp)⟩
  · clear fr
    go_wp2
    go_returns
    exact ⟨rfl, below_set2 (below_drewN (by go_grown) _) (by simp) (by simp)⟩
  · clear fr
    go_wp2
    go_returns
    exact ⟨rfl, below_set2 (below_drewN (by go_grown) _) (by simp) (by simp)⟩
  · clear fr
    go_wp2
    go_returns
    exact ⟨rfl, below_set2 (below_drewN (by go_grown) _) (by simp) (by simp)⟩
  · clear fr
    go_wp2
    go_returns
    exact ⟨rfl, below_set2 (below_drewN (by go_grown) _) (by simp) (by simp)⟩
  · clear fr
    go_wp2
    go_returns
    exact ⟨rfl, below_set2 (below_drewN (by go_grown) _) (by simp) (by simp)⟩
  all_goals
    go_wp2_with fail
    refine (fr.out _).mono ?_
    rintro e w4 ⟨rfl, hb4⟩
    have HB4 : Hid (Below w.heap.size w w4) := below_trans (a := w) (Below.alloc (below_drewN (by go_grown) _) (by simp) _) hb4
    have R4 : Has w4 w.heap.size (.int .i64 0) (.int .i64 0) := Has.below (Has.alloc (has_drewN (has_new _ _ _ _) _) _) hb4
    have P4 := Has.below (b := w.heap.size + 1) (has_lit _ _ _ (by simp)) hb4
    clear hb4 fr
    obtain ⟨r0, r1, r2, r3, r4⟩ := R4
    obtain ⟨p0, p1, p2, p3, p4⟩ := P4
    go_wp2
    have hq := fun x y => wrote2 (x := x) (y := y) r0 r1
    refine bodyPost_ret (res_pair Tryd.results51 rfl rfl (hq _ _).1 (hq _ _).2) rfl ?_
    exact ⟨rfl, HB4.out.setCell (by simp) _ |>.setCell (by simp) _⟩
end Go.Proofs.YtagkgneijdbkoaaDoor
