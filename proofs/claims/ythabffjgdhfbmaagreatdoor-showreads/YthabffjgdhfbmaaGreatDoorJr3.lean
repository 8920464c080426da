/-
  Texts that belong together, one behind the other: Gcds, Fracs, RatAR, RatRR, HasK, QMoreK, RatWR, FracRd, DsMath, DsMem, MapStr, DsMap, LexWordNm. Conditions: as each says.
-/
import Derived.BigQuiet
import Derived.Deep.CutRange
import Derived.Deep.QuietTactic
import Derived.Deep.RegionWith
import Derived.Handy
import Derived.Laws.NewDeep
import Derived.Laws.ResultCell
import Derived.Lib.QuietBelow
import Derived.Maps.AppendAt
import Derived.Test.YthabffjgdhfbmaaGreatDoorJr1
import Derived.Test.YthabffjgdhfbmaaGreatDoorJr2
set_option maxRecDepth 100000
set_option maxHeartbeats 32000000
set_option linter.unusedVariables false
namespace Go.Proofs.YthabffjgdhfbmaaGreatDoor
open Go.RowKit
theorem rgcd_any (a b : Nat) (w : World) (ha : (a : Int) ≤ 18446744073709551615) (hb : (b : Int) ≤ 18446744073709551615) :
 Calls Tryz.prog 93 #[.int .u64 (a : Int), .int .u64 (b : Int)] w fun e w' => e = .returned (.int .u64 ((Nat.gcd a b : Nat) : Int)) ∧ ∃ n, w' = w.drewN n := by
 go_enter Tryz.func93, Tryz.ntmps93
 go_wp2
 go_loopw [0, 1] (fun u v wx => ∃ x y n : Nat, u = .int .u64 (x : Int) ∧ v = .int .u64 (y : Int) ∧ (x : Int) ≤ 18446744073709551615 ∧ (y : Int) ≤ 18446744073709551615 ∧ Hid (Nat.gcd x y = Nat.gcd a b) ∧ wx = w.drewN n) (fun _ v _ => (intOf v).toNat)
 case atStart => exact ⟨a, b, 0, rfl, rfl, ha, hb, rfl, rfl⟩
 case round =>
  obtain ⟨x, y, n, rfl, rfl, hx, hy, hg, rfl⟩ := hrel
  by_cases h0 : 0 < y
  · have hy0 : (0 : Int) < (y : Int) := by omega
    have hr : (x : Int) % (y : Int) < (y : Int) := Int.emod_lt_of_pos _ hy0
    have hr0 : 0 ≤ (x : Int) % (y : Int) := Int.emod_nonneg _ (by omega)
    go_wp2
    go_quiet (fail)
    go_wp2
    go_roundw
    case rel => exact ⟨y, x % y, _, rfl, by simp, hy, by simp; omega, by show _ = _; rw [← hg.out, Nat.gcd_comm y, ← Nat.gcd_rec, Nat.gcd_comm], by simp; rfl⟩
    case measure => simp [intOf]; omega
  · have hy1 : (y : Int) ≤ 0 := by omega
    go_wp2
    go_ret
    refine ⟨ret_n ?_, _, rfl⟩
    have : y = 0 := by omega
    subst this
    rw [← hg.out, Nat.gcd_zero_right]
theorem gcd_big {x : Nat} (h : (9223372036854775807 : Int) < (x : Int)) : fitV (x : Int) = 0 ∧ fitB (x : Int) = false := ⟨(fit_no (by omega)).2, (fit_no (by omega)).1⟩
theorem gcd_small {x : Nat} (h : (x : Int) ≤ 9223372036854775807) : fitV (x : Int) = (x : Int) ∧ fitB (x : Int) = true := ⟨(fit_yes (by omega)).2, (fit_yes (by omega)).1⟩
theorem gcd_any (a b : Int) (w : World) (ha : -9223372036854775808 ≤ a ∧ a ≤ 9223372036854775807) (hb : -9223372036854775808 ≤ b ∧ b ≤ 9223372036854775807) :
 Calls Tryz.prog 137 #[.int .i64 a, .int .i64 b] w fun e w' => e = .returned (.tuple #[.int .i64 (fitV ((Nat.gcd a.natAbs b.natAbs : Nat) : Int)), .bool (fitB ((Nat.gcd a.natAbs b.natAbs : Nat) : Int))]) ∧ ∃ n, w' = w.drewN n := by
 have fa : Hid (∀ w, Calls Tryz.prog 121 #[.int .i64 a] w fun e w' => e = .returned (.int .u64 (a.natAbs : Int)) ∧ w' = w) := fun w => size_any a w ha
 have fb : Hid (∀ w, Calls Tryz.prog 121 #[.int .i64 b] w fun e w' => e = .returned (.int .u64 (b.natAbs : Int)) ∧ w' = w) := fun w => size_any b w hb
 have hna : (a.natAbs : Int) ≤ 9223372036854775808 := by omega
 have hnb : (b.natAbs : Int) ≤ 9223372036854775808 := by omega
 generalize a.natAbs = p at *
 generalize b.natAbs = q at *
 clear ha hb
 go_enter Tryz.func137, Tryz.ntmps137
 go_wp2_with fail
 refine (fa.out _).mono ?_
 rintro e w' ⟨rfl, rfl⟩
 go_wp2_with fail
 refine (fb.out _).mono ?_
 rintro e w' ⟨rfl, rfl⟩
 clear fa fb
 go_wp2
 go_loopw [6, 7] (fun u v wx => ∃ x y n : Nat, u = .int .u64 (x : Int) ∧ v = .int .u64 (y : Int) ∧ (x : Int) ≤ 18446744073709551615 ∧ (y : Int) ≤ 18446744073709551615 ∧ Hid (Nat.gcd x y = Nat.gcd p q) ∧ wx = w'.drewN n) (fun _ v _ => (intOf v).toNat)
 case atStart => exact ⟨p, q, 0, rfl, rfl, by omega, by omega, rfl, rfl⟩
 case round =>
  obtain ⟨x, y, n, rfl, rfl, hx, hy, hg, rfl⟩ := hrel
  by_cases h0 : 0 < y
  · have hy0 : (0 : Int) < (y : Int) := by omega
    have hr : (x : Int) % (y : Int) < (y : Int) := Int.emod_lt_of_pos _ hy0
    have hr0 : 0 ≤ (x : Int) % (y : Int) := Int.emod_nonneg _ (by omega)
    go_wp2
    go_quiet (fail)
    go_wp2
    go_roundw
    case rel => exact ⟨y, x % y, _, rfl, by simp, hy, by simp; omega, by show _ = _; rw [← hg.out, Nat.gcd_comm y, ← Nat.gcd_rec, Nat.gcd_comm], by simp; rfl⟩
    case measure => simp [intOf]; omega
  · have hy1 : (y : Int) ≤ 0 := by omega
    have he : Hid (Nat.gcd p q = x) := by
     show _ = _
     have : y = 0 := by omega
     subst this
     rw [← hg.out, Nat.gcd_zero_right]
    clear hg
    go_wp2
    · go_ret2
      rw [he.out]
      exact ⟨ret_nb (gcd_big ‹_›), _, rfl⟩
    · go_ret2
      rw [he.out]
      exact ⟨ret_nb (gcd_small ‹_›), _, rfl⟩
end Go.Proofs.YthabffjgdhfbmaaGreatDoor
namespace Go.Proofs.YthabffjgdhfbmaaGreatDoor
open Go.RowKit (wrap64)
def I64 (n : Int) : Prop := -9223372036854775808 ≤ n ∧ n ≤ 9223372036854775807
def gcdN (n d : Int) : Nat := Nat.gcd n.natAbs d.natAbs
def rightB (n d : Int) : Bool := decide (0 < d) && decide (gcdN n d = 1)
end Go.Proofs.YthabffjgdhfbmaaGreatDoor
namespace Go.Proofs.YthabffjgdhfbmaaGreatDoor
open Go.RowKit
abbrev rv (n d : Int) : Value := .agg #[.int .i64 n, .int .i64 d]
theorem below_drewN {B : Nat} {a w : World} (h : Below B a w) (n : Nat) : Below B a (w.drewN n) := ⟨h.os, h.tape, h.output, h.size, h.block⟩
theorem below_set2 {B : Nat} {a w : World} (h : Below B a w) {p q : Addr} {u v : Value} (hp : B ≤ p.block) (hq : B ≤ q.block) : Below B a ((w.setCell p u).setCell q v) := (h.setCell hp u).setCell hq v
theorem ret_b {a b : Bool} (h : b = a) : Ending.returned (.bool a) = .returned (.bool b) := by rw [h]
theorem right_any (n d : Int) (w : World) (hn : I64 n) (hd : I64 d) :
 Calls Tryz.prog 115 #[rv n d] w fun e w' => e = .returned (.bool (rightB n d)) ∧ Below w.heap.size w w' := by
 have fg : Hid (∀ w, Calls Tryz.prog 137 #[.int .i64 n, .int .i64 d] w fun e w' => e = .returned (.tuple #[.int .i64 (fitV (gcdN n d : Int)), .bool (fitB (gcdN n d : Int))]) ∧ ∃ k, w' = w.drewN k) := fun w => gcd_any n d w hn hd
 have fr : Hid ((rightB n d = (decide (0 < d) && decide (fitV (gcdN n d : Int) = 1)))) := by
  show _ = _
  unfold rightB
  congr 1
  by_cases h : I64 (gcdN n d : Int)
  · rw [(fit_yes h).2]; simp only [decide_eq_decide]; omega
  · rw [(fit_no h).2]
    have : ¬ gcdN n d = 1 := by intro e; apply h; rw [e]; exact ⟨by omega, by omega⟩
    simp [this]
 clear hn hd
 generalize rightB n d = r at *
 generalize fitV (gcdN n d : Int) = g at *
 generalize fitB (gcdN n d : Int) = gb at *
 go_enter Tryz.func115, Tryz.ntmps115
 go_wp2_with fail
 refine (fg.out _).mono ?_
 rintro e w' ⟨rfl, k, rfl⟩
 go_wp2
 all_goals
  go_ret
  refine ⟨ret_b ?_, below_drewN (by go_grown) k⟩
  rw [fr.out, Bool.eq_iff_iff]
  simp
  omega
theorem natAbs_bd {n : Int} (h : I64 n) : (n.natAbs : Int) ≤ 18446744073709551615 := by unfold I64 at h; omega
theorem rright_any (n d : Int) (w : World) (hn : I64 n) (hd : I64 d) :
 Calls Tryz.prog 62 #[rv n d] w fun e w' => e = .returned (.bool (rightB n d)) ∧ Below w.heap.size w w' := by
 have fa : Hid (∀ w, Calls Tryz.prog 64 #[.int .i64 n] w fun e w' => e = .returned (.int .u64 (n.natAbs : Int)) ∧ w' = w) := fun w => rsize_any n w hn
 have fb : Hid (∀ w, Calls Tryz.prog 64 #[.int .i64 d] w fun e w' => e = .returned (.int .u64 (d.natAbs : Int)) ∧ w' = w) := fun w => rsize_any d w hd
 have fg : Hid (∀ w, Calls Tryz.prog 93 #[.int .u64 (n.natAbs : Int), .int .u64 (d.natAbs : Int)] w fun e w' => e = .returned (.int .u64 (gcdN n d : Int)) ∧ ∃ k, w' = w.drewN k) := fun w => rgcd_any _ _ w (natAbs_bd hn) (natAbs_bd hd)
 have H : Hid (rightB n d = (decide (0 < d) && ((gcdN n d : Int) == 1))) := by
  show _ = _
  unfold rightB
  congr 1
  rw [Bool.eq_iff_iff]; simp; omega
 generalize rightB n d = r at *
 generalize (gcdN n d : Int) = g at *
 generalize (n.natAbs : Int) = p at *
 generalize (d.natAbs : Int) = q at *
 by_cases h : 0 < d
 · replace H : Hid (r = (g == 1)) := by show _ = _; rw [H.out]; simp [h]
   clear hn hd
   go_enter Tryz.func62, Tryz.ntmps62
   go_wp2_with fail
   go_quiet (first
    | (go_at_call_of 64 n; refine Calls.quiet_of_same (fa.out _))
    | (go_at_call_of 64 d; refine Calls.quiet_of_same (fb.out _))
    | (go_at_call 93; refine Calls.quiet_of (fg.out _)))
   go_wp2
   go_ret
   exact ⟨ret_b H.out, below_drewN (by go_grown) _⟩
 · replace H : Hid (r = false) := by show _ = _; rw [H.out]; simp [h]
   have h2 : decide (0 < d) = false := by simp [h]
   clear hn hd
   go_enter Tryz.func62, Tryz.ntmps62
   go_wp2_with fail
   go_quiet (fail)
   go_wp2
   go_ret
   exact ⟨ret_b H.out, below_drewN (by go_grown) _⟩
theorem kept2 {w w' : World} {x y : Value} {b : Nat} (h : Below w.heap.size w w') (h0 : w.cell? ⟨b, 0, none⟩ = some x) (h1 : w.cell? ⟨b, 1, none⟩ = some y)
 (f0 : w.frozen? ⟨b, 0, none⟩ = false) (f1 : w.frozen? ⟨b, 1, none⟩ = false) :
 w'.cell? ⟨b, 0, none⟩ = some x ∧ w'.cell? ⟨b, 1, none⟩ = some y ∧ w'.frozen? ⟨b, 0, none⟩ = false ∧ w'.frozen? ⟨b, 1, none⟩ = false ∧ b < w'.heap.size := by
 have hb : b < w.heap.size := block_lt_of_cell h0
 exact ⟨(h.cell hb).trans h0, (h.cell hb).trans h1, (h.frozen hb).trans f0, (h.frozen hb).trans f1, Nat.lt_of_lt_of_le hb h.size⟩
def Has (w : World) (b : Nat) (x y : Value) : Prop :=
 w.cell? ⟨b, 0, none⟩ = some x ∧ w.cell? ⟨b, 1, none⟩ = some y ∧ w.frozen? ⟨b, 0, none⟩ = false ∧ w.frozen? ⟨b, 1, none⟩ = false ∧ b < w.heap.size
theorem Has.below {w w' : World} {b : Nat} {x y : Value} (h : Has w b x y) (hb : Below w.heap.size w w') : Has w' b x y := kept2 hb h.1 h.2.1 h.2.2.1 h.2.2.2.1
theorem has_new (w : World) (x y : Value) (t : TypeId) : Has (w.alloc (.cells #[x, y] t)) w.heap.size x y := by
 refine ⟨?_, ?_, ?_, ?_, ?_⟩ <;> simp
theorem Has.alloc {w : World} {b : Nat} {x y : Value} (h : Has w b x y) (o : Obj) : Has (w.alloc o) b x y :=
 h.below ((Below.refl _ _).alloc (Nat.le_refl _) _)
theorem below_trans {a b c : World} (h : Below a.heap.size a b) (k : Below b.heap.size b c) : Below a.heap.size a c := h.trans (k.mono h.size)
theorem res_pair {fn : Func} {p u : Tmp} (h : fn.results = #[.cell p 67, .tmp u]) {tmps : Array Value} {w : World} {b : Nat} {x y e : Value}
 (hp : tmps.getD p undef = .pointer (some ⟨b, 0, none⟩)) (hu : tmps.getD u undef = e) (h0 : w.cell? ⟨b, 0, none⟩ = some x) (h1 : w.cell? ⟨b, 1, none⟩ = some y) :
 (results fn tmps).run Tryz.prog w = .ok (.tuple #[.agg #[x, y], e]) w := by
 rw [results_cell_tmp h, hp, hu]
 simp only [asAddr]
 simp [go_sem, Result.andThen, h0, h1]
theorem wrote2 {w : World} {b : Nat} {x y u v : Value} (c0 : w.cell? ⟨b, 0, none⟩ = some u) (c1 : w.cell? ⟨b, 1, none⟩ = some v) :
 ((w.setCell ⟨b, 0, none⟩ x).setCell ⟨b, 1, none⟩ y).cell? ⟨b, 0, none⟩ = some x ∧ ((w.setCell ⟨b, 0, none⟩ x).setCell ⟨b, 1, none⟩ y).cell? ⟨b, 1, none⟩ = some y := by
 have n1 : (⟨b, 1, none⟩ : Addr) ≠ ⟨b, 0, none⟩ := by simp
 have n2 : (⟨b, 0, none⟩ : Addr) ≠ ⟨b, 1, none⟩ := by simp
 constructor
 · rw [World.cell?_setCell_other _ _ _ _ n1]; exact World.cell?_setCell_same _ _ _ c0
 · refine World.cell?_setCell_same _ _ _ (u := v) ?_
   rw [World.cell?_setCell_other _ _ _ _ n2]; exact c1
theorem has_lit {w : World} {b : Nat} (x y : Value) (t : TypeId) (h : b = w.heap.size) : Has (w.alloc (.cells #[x, y] t)) b x y := by subst h; exact has_new w x y t
theorem has_drewN {w : World} {b : Nat} {x y : Value} (h : Has w b x y) (k : Nat) : Has (w.drewN k) b x y := h.below (below_drewN (Below.refl _ _) k)
def rdE (s : ByteArray) : Int :=
 if readE (cutU s).data.toList = 6 ∨ readE (cutV s).data.toList = 6 then 6 else if readE (cutU s).data.toList ≠ 0 ∨ readE (cutV s).data.toList ≠ 0 then 2 else if rightB (readV (cutU s).data.toList) (readV (cutV s).data.toList) = true then 0 else 1
def rdN (s : ByteArray) : Int := if rdE s = 0 then readV (cutU s).data.toList else 0
def rdD (s : ByteArray) : Int := if rdE s = 0 then readV (cutV s).data.toList else 0
theorem coreE_ways (t : List UInt8) (m : Bool) : coreE t m = 6 ∨ coreE t m = 2 ∨ coreE t m = 0 := by
 unfold coreE; split
 · exact .inl rfl
 · split
   · exact .inr (.inr rfl)
   · exact .inr (.inl rfl)
theorem readE_ways (t : List UInt8) : readE t = 6 ∨ readE t = 2 ∨ readE t = 0 := by
 unfold readE; split
 · exact coreE_ways _ _
 · exact coreE_ways _ _
theorem readV_i64 (t : List UInt8) : I64 (readV t) := by
 unfold readV coreV I64
 split <;> split <;> first | exact fitV_bd _ | omega
theorem rd_ways (s : ByteArray) : ∃ (e1 e2 : Int) (r : Bool), readE (cutU s).data.toList = e1 ∧ readE (cutV s).data.toList = e2 ∧ rightB (readV (cutU s).data.toList) (readV (cutV s).data.toList) = r ∧
 ((e1 = 6 ∧ rdN s = 0 ∧ rdD s = 0 ∧ rdE s = 6) ∨ (e1 = 2 ∧ e2 = 6 ∧ rdN s = 0 ∧ rdD s = 0 ∧ rdE s = 6) ∨ (e1 = 0 ∧ e2 = 6 ∧ rdN s = 0 ∧ rdD s = 0 ∧ rdE s = 6)
 ∨ (e1 = 2 ∧ e2 = 2 ∧ rdN s = 0 ∧ rdD s = 0 ∧ rdE s = 2) ∨ (e1 = 2 ∧ e2 = 0 ∧ rdN s = 0 ∧ rdD s = 0 ∧ rdE s = 2) ∨ (e1 = 0 ∧ e2 = 2 ∧ rdN s = 0 ∧ rdD s = 0 ∧ rdE s = 2)
 ∨ (e1 = 0 ∧ e2 = 0 ∧ r = false ∧ rdN s = 0 ∧ rdD s = 0 ∧ rdE s = 1)
 ∨ (e1 = 0 ∧ e2 = 0 ∧ r = true ∧ rdN s = readV (cutU s).data.toList ∧ rdD s = readV (cutV s).data.toList ∧ rdE s = 0)) := by
 refine ⟨_, _, _, rfl, rfl, rfl, ?_⟩
 unfold rdN rdD rdE
 rcases readE_ways (cutU s).data.toList with h1 | h1 | h1 <;> rcases readE_ways (cutV s).data.toList with h2 | h2 | h2 <;> cases h3 : rightB (readV (cutU s).data.toList) (readV (cutV s).data.toList) <;> simp [h1, h2]
theorem ratRead_any (s : ByteArray) (w : World) (hs : s.size ≤ maxLen) :
 Calls Tryz.prog 129 #[.string s] w fun e w' => e = .returned (.tuple #[rv (rdN s) (rdD s), .int .i64 (rdE s)]) ∧ Below w.heap.size w w' := by
 have fc : Hid (∀ w, Calls Tryz.prog 98 #[.string s, .string ⟨#[47]⟩] w fun e w' => e = .returned (.tuple #[.string (cutU s), .string (cutV s), .bool (cutB s)]) ∧ ∃ n, w' = w.drewN n) := fun w => scut_any s w hs
 have cs := cut_sizes s
 have fu : Hid (∀ w, Calls Tryz.prog 144 #[.string (cutU s)] w fun e w' => e = .returned (.tuple #[.int .i64 (readV (cutU s).data.toList), .int .i64 (readE (cutU s).data.toList)]) ∧ w' = w) := fun w => read_any _ w (Nat.le_trans cs.1 hs)
 have fv : Hid (∀ w, Calls Tryz.prog 144 #[.string (cutV s)] w fun e w' => e = .returned (.tuple #[.int .i64 (readV (cutV s).data.toList), .int .i64 (readE (cutV s).data.toList)]) ∧ w' = w) := fun w => read_any _ w (Nat.le_trans cs.2 hs)
 have fr : Hid (∀ w, Calls Tryz.prog 115 #[rv (readV (cutU s).data.toList) (readV (cutV s).data.toList)] w fun e w' => e = .returned (.bool (rightB (readV (cutU s).data.toList) (readV (cutV s).data.toList))) ∧ Below w.heap.size w w') := fun w => right_any _ _ w (readV_i64 _) (readV_i64 _)
 obtain ⟨e1, e2, r, q1, q2, q3, hw⟩ := rd_ways s
 rw [q1] at fu
 rw [q2] at fv
 rw [q3] at fr
 clear cs q1 q2 q3 hs
 generalize readV (cutU s).data.toList = x at *
 generalize readV (cutV s).data.toList = y at *
 generalize cutU s = u at *
 generalize cutV s = v at *
 generalize cutB s = b at *
 generalize rdN s = N at *
 generalize rdD s = D at *
 generalize rdE s = E at *
 rcases hw with ⟨rfl, rfl, rfl, rfl⟩ | ⟨rfl, rfl, rfl, rfl, rfl⟩ | ⟨rfl, rfl, rfl, rfl, rfl⟩ | ⟨rfl, rfl, rfl, rfl, rfl⟩ | ⟨rfl, rfl, rfl, rfl, rfl⟩ | ⟨rfl, rfl, rfl, rfl, rfl⟩ | ⟨rfl, rfl, rfl, rfl, rfl, rfl⟩ | ⟨rfl, rfl, rfl, rfl, rfl, rfl⟩
 all_goals
  go_enter Tryz.func129, Tryz.ntmps129
  go_wp2_with fail
  refine (fc.out _).mono ?_
  rintro e w' ⟨rfl, k, rfl⟩
  go_wp2_with fail
  refine (fu.out _).mono ?_
  rintro e w' ⟨rfl, rfl⟩
  go_wp2_with fail
  refine (fv.out _).mono ?_
  rintro e w' ⟨rfl, rfl⟩
  clear fc fu fv
 · clear fr
   go_wp2
   go_returns
   exact ⟨rfl, below_set2 (below_drewN (by go_grown) _) (by simp) (by simp)⟩
 · clear fr
   go_wp2
   go_returns
   exact ⟨rfl, below_set2 (below_drewN (by go_grown) _) (by simp) (by simp)⟩
 · clear fr
   go_wp2
   go_returns
   exact ⟨rfl, below_set2 (below_drewN (by go_grown) _) (by simp) (by simp)⟩
 · clear fr
   go_wp2
   go_returns
   exact ⟨rfl, below_set2 (below_drewN (by go_grown) _) (by simp) (by simp)⟩
 · clear fr
   go_wp2
   go_returns
   exact ⟨rfl, below_set2 (below_drewN (by go_grown) _) (by simp) (by simp)⟩
 · clear fr
   go_wp2
   go_returns
   exact ⟨rfl, below_set2 (below_drewN (by go_grown) _) (by simp) (by simp)⟩
 all_goals
  go_wp2_with fail
  refine (fr.out _).mono ?_
  rintro e w4 ⟨rfl, hb4⟩
  have HB4 : Hid (Below w.heap.size w w4) := below_trans (a := w) (Below.alloc (below_drewN (by go_grown) _) (by simp) _) hb4
  have R4 : Has w4 w.heap.size (.int .i64 0) (.int .i64 0) := Has.below (Has.alloc (has_drewN (has_new _ _ _ _) _) _) hb4
  have P4 := Has.below (b := w.heap.size + 1) (has_lit _ _ _ (by simp)) hb4
  clear hb4 fr
  obtain ⟨r0, r1, r2, r3, r4⟩ := R4
  obtain ⟨p0, p1, p2, p3, p4⟩ := P4
  go_wp2
  have hq := fun x y => wrote2 (x := x) (y := y) r0 r1
  refine bodyPost_ret (res_pair Tryz.results129 rfl rfl (hq _ _).1 (hq _ _).2) rfl ?_
  exact ⟨rfl, HB4.out.setCell (by simp) _ |>.setCell (by simp) _⟩
def frB (w : Wd) : Bool := decide (rdE (txt w) = 0)
def frN (w : Wd) : Int := readV (cutU (txt w)).data.toList
def frD (w : Wd) : Int := readV (cutV (txt w)).data.toList
theorem fr_yes {w : Wd} (h : frB w = true) : rdE (txt w) = 0 ∧ rdN (txt w) = frN w ∧ rdD (txt w) = frD w := by
 have h0 : rdE (txt w) = 0 := by simpa [frB] using h
 exact ⟨h0, by unfold rdN frN; rw [if_pos h0], by unfold rdD frD; rw [if_pos h0]⟩
theorem fr_iff (w : Wd) : frB w = true ↔ (¬ Lib.indexByte w 47 = -1) ∧ readE (cutU (txt w)).data.toList = 0 ∧ readE (cutV (txt w)).data.toList = 0 ∧ rightB (frN w) (frD w) = true := by
 unfold frB frN frD
 rw [decide_eq_true_iff]
 have e : (txt w).data.toList = w := rfl
 constructor
 · intro h
   unfold rdE at h
   split at h
   · cases h
   split at h
   · cases h
   split at h
   · rename_i h1 h2 h3
     have h4 : readE (cutU (txt w)).data.toList = 0 ∧ readE (cutV (txt w)).data.toList = 0 := by
      constructor
      · exact Classical.byContradiction fun c => h2 (.inl c)
      · exact Classical.byContradiction fun c => h2 (.inr c)
     refine ⟨fun hc => ?_, h4.1, h4.2, h3⟩
     have h5 := h4.2
     unfold cutV at h5
     rw [e, if_pos hc] at h5
     revert h5
     decide
   · cases h
 · rintro ⟨_, h1, h2, h3⟩
   unfold rdE
   rw [h1, h2, if_neg (by decide), if_neg (by decide), if_pos h3]
def dv0 : Dv := ⟨[], 0, 0, 0, 0, [], [], [], 0, 0, 0, 0⟩
abbrev Lr := Int × List Wd
def kDev : Wd := [100, 101, 118, 105, 99, 101]
def kSta : Wd := [115, 116, 97, 114, 116]
def kEsc : Wd := [101, 115, 99, 97, 112, 101]
def kSiz : Wd := [115, 105, 122, 101]
def kSum : Wd := [115, 117, 109]
def kReq : Wd := [114, 101, 113, 117, 101, 115, 116]
def kPol : Wd := [112, 111, 108, 108]
def kTim : Wd := [116, 105, 109, 101, 111, 117, 116]
def kRet : Wd := [114, 101, 116, 114, 105, 101, 115]
def kAge : Wd := [97, 103, 101]
def kFie : Wd := [102, 105, 101, 108, 100]
def tenK : List Wd := [kDev, kSta, kEsc, kSiz, kSum, kReq, kPol, kTim, kRet, kAge]
def octO (w : Wd) : Option Nat :=
 match hexR w with
 | some [b] => some b
 | _ => none
def fldO (a : List Wd) : Option Fd :=
 match a with
 | [n, p, k, wd, s, o, u] =>
  if (nameB n = true ∧ nameB k = true ∧ nameB u = true) ∧ numB p 0 31 = true ∧ numB wd 1 8 = true ∧ frB s = true ∧ frB o = true
  then some ⟨n, readV p, k, readV wd, frN s, frD s, frN o, frD o, u⟩ else none
 | _ => none
def mName (a : List Wd) (k : Wd → Dv → Dv) : Option (Dv → Dv) :=
 match a with
 | [x] => if nameB x = true then some (k x) else none
 | _ => none
def mNum (a : List Wd) (lo hi : Int) (k : Int → Dv → Dv) : Option (Dv → Dv) :=
 match a with
 | [x] => if numB x lo hi = true then some (k (readV x)) else none
 | _ => none
def mSta (a : List Wd) : Option (Dv → Dv) :=
 match a with
 | [x] => Option.map (fun (b : Nat) (d : Dv) => { d with st := (b : Int) }) (octO x)
 | _ => none
def mEsc (a : List Wd) : Option (Dv → Dv) :=
 match a with
 | [x, y] => (octO x).bind fun (b : Nat) => Option.map (fun (c : Nat) (d : Dv) => { d with es := (b : Int), mx := (c : Int) }) (octO y)
 | _ => none
def mReq (a : List Wd) : Option (Dv → Dv) :=
 match a with
 | [x] => (hexR x).bind fun b => if b.length ≤ 16 then some fun d => { d with rq := b } else none
 | _ => none
def updM (f : Wd) (a : List Wd) : Option (Dv → Dv) :=
 if f = kDev then mName a (fun x d => { d with nm := x })
 else if f = kSta then mSta a
 else if f = kEsc then mEsc a
 else if f = kSiz then mNum a 1 32 (fun x d => { d with sz := x })
 else if f = kSum then mName a (fun x d => { d with sm := x })
 else if f = kReq then mReq a
 else if f = kPol then mNum a 1 1000 (fun x d => { d with po := x })
 else if f = kTim then mNum a 1 1000 (fun x d => { d with ti := x })
 else if f = kRet then mNum a 0 10 (fun x d => { d with re := x })
 else if f = kAge then mNum a 1 1000 (fun x d => { d with ag := x })
 else if f = kFie then (fldO a).map fun x d => { d with fs := d.fs ++ [x] }
 else none
def knownB (f : Wd) : Bool := decide (f ∈ tenK ∨ f = kFie)
def stepM (d : Dv) (seen : List Wd) (ws : List Wd) : Except Nat Dv :=
 match ws with
 | [] => .error 6
 | f :: a =>
  if knownB f = false then .error 6
  else if f ≠ kFie ∧ f ∈ seen then .error 8
  else if f = kFie ∧ d.fs.length = 8 then .error 7
  else match updM f a with
   | none => .error 6
   | some u => .ok (u d)
def lackB (seen : List Wd) : Bool := decide (∃ k ∈ tenK, k ∉ seen)
def goM (d : Dv) (seen : List Wd) : List Lr → Dv × Int × Nat
 | [] => if lackB seen = true then (dv0, 0, 9) else (d, 0, 0)
 | r :: rs =>
  match stepM d seen r.2 with
  | .error e => (dv0, r.1, e)
  | .ok d' => goM d' (seen ++ [r.2.headD []]) rs
def readM (rs : List Lr) : Dv × Int × Nat := goM dv0 [] rs
theorem upd_form {f : Wd} {a : List Wd} {u : Dv → Dv} (h : updM f a = some u) :
 (f = kDev ∧ ∃ x, nameB x = true ∧ u = fun d => { d with nm := x }) ∨ (f = kSta ∧ ∃ x : Nat, u = fun d => { d with st := (x : Int) }) ∨ (f = kEsc ∧ ∃ x y : Nat, u = fun d => { d with es := (x : Int), mx := (y : Int) })
 ∨ (f = kSiz ∧ ∃ x, u = fun d => { d with sz := x }) ∨ (f = kSum ∧ ∃ x, nameB x = true ∧ u = fun d => { d with sm := x }) ∨ (f = kReq ∧ ∃ x, u = fun d => { d with rq := x })
 ∨ (f = kPol ∧ ∃ x, u = fun d => { d with po := x }) ∨ (f = kTim ∧ ∃ x, u = fun d => { d with ti := x }) ∨ (f = kRet ∧ ∃ x, u = fun d => { d with re := x }) ∨ (f = kAge ∧ ∃ x, u = fun d => { d with ag := x })
 ∨ (f = kFie ∧ ∃ x, u = fun d => { d with fs := d.fs ++ [x] }) := by
 have hn : ∀ {k : Wd → Dv → Dv}, mName a k = some u → ∃ x, nameB x = true ∧ u = k x := by
  intro k h
  unfold mName at h
  split at h
  · split at h
    · exact ⟨_, by assumption, (Option.some.inj h).symm⟩
    · cases h
  · cases h
 have hm : ∀ {lo hi} {k : Int → Dv → Dv}, mNum a lo hi k = some u → ∃ x, u = k x := by
  intro lo hi k h
  unfold mNum at h
  split at h
  · split at h
    · exact ⟨_, (Option.some.inj h).symm⟩
    · cases h
  · cases h
 unfold updM at h
 by_cases h0 : f = kDev
 · rw [if_pos h0] at h
   obtain ⟨x, hx, e⟩ := hn h
   exact .inl ⟨h0, x, hx, e⟩
 rw [if_neg h0] at h
 by_cases h1 : f = kSta
 · rw [if_pos h1] at h
   refine .inr (.inl ⟨h1, ?_⟩)
   unfold mSta at h
   split at h
   · obtain ⟨b, _, e⟩ := Option.map_eq_some_iff.1 h; exact ⟨b, e.symm⟩
   · cases h
 rw [if_neg h1] at h
 by_cases h2 : f = kEsc
 · rw [if_pos h2] at h
   refine .inr (.inr (.inl ⟨h2, ?_⟩))
   unfold mEsc at h
   split at h
   · obtain ⟨b, _, e⟩ := Option.bind_eq_some_iff.1 h
     obtain ⟨c, _, e⟩ := Option.map_eq_some_iff.1 e
     exact ⟨b, c, e.symm⟩
   · cases h
 rw [if_neg h2] at h
 by_cases h3 : f = kSiz
 · rw [if_pos h3] at h
   obtain ⟨x, e⟩ := hm h
   exact .inr (.inr (.inr (.inl ⟨h3, x, e⟩)))
 rw [if_neg h3] at h
 by_cases h4 : f = kSum
 · rw [if_pos h4] at h
   obtain ⟨x, hx, e⟩ := hn h
   exact .inr (.inr (.inr (.inr (.inl ⟨h4, x, hx, e⟩))))
 rw [if_neg h4] at h
 by_cases h5 : f = kReq
 · rw [if_pos h5] at h
   refine .inr (.inr (.inr (.inr (.inr (.inl ⟨h5, ?_⟩)))))
   unfold mReq at h
   split at h
   · obtain ⟨b, _, e⟩ := Option.bind_eq_some_iff.1 h
     split at e
     · exact ⟨b, (Option.some.inj e).symm⟩
     · cases e
   · cases h
 rw [if_neg h5] at h
 by_cases h6 : f = kPol
 · rw [if_pos h6] at h
   obtain ⟨x, e⟩ := hm h
   exact .inr (.inr (.inr (.inr (.inr (.inr (.inl ⟨h6, x, e⟩))))))
 rw [if_neg h6] at h
 by_cases h7 : f = kTim
 · rw [if_pos h7] at h
   obtain ⟨x, e⟩ := hm h
   exact .inr (.inr (.inr (.inr (.inr (.inr (.inr (.inl ⟨h7, x, e⟩)))))))
 rw [if_neg h7] at h
 by_cases h8 : f = kRet
 · rw [if_pos h8] at h
   obtain ⟨x, e⟩ := hm h
   exact .inr (.inr (.inr (.inr (.inr (.inr (.inr (.inr (.inl ⟨h8, x, e⟩))))))))
 rw [if_neg h8] at h
 by_cases h9 : f = kAge
 · rw [if_pos h9] at h
   obtain ⟨x, e⟩ := hm h
   exact .inr (.inr (.inr (.inr (.inr (.inr (.inr (.inr (.inr (.inl ⟨h9, x, e⟩)))))))))
 rw [if_neg h9] at h
 by_cases h10 : f = kFie
 · rw [if_pos h10] at h
   obtain ⟨x, _, e⟩ := Option.map_eq_some_iff.1 h
   exact .inr (.inr (.inr (.inr (.inr (.inr (.inr (.inr (.inr (.inr (⟨h10, x, e.symm⟩))))))))))
 rw [if_neg h10] at h
 cases h
theorem upd_len {f : Wd} {a : List Wd} {u : Dv → Dv} (hu : updM f a = some u) (d : Dv) : (u d).fs.length = d.fs.length + (if f = kFie then 1 else 0) := by
 rcases upd_form hu with ⟨rfl, x, _, rfl⟩ | ⟨rfl, x, rfl⟩ | ⟨rfl, x, y, rfl⟩ | ⟨rfl, x, rfl⟩ | ⟨rfl, x, _, rfl⟩ | ⟨rfl, x, rfl⟩ | ⟨rfl, x, rfl⟩ | ⟨rfl, x, rfl⟩ | ⟨rfl, x, rfl⟩ | ⟨rfl, x, rfl⟩ | ⟨rfl, x, rfl⟩
 all_goals first | (rw [if_neg (by decide)]; rfl) | (rw [if_pos rfl]; simp)
theorem step_ok {d d' : Dv} {s : List Wd} {ws : List Wd} (h : stepM d s ws = .ok d') : ∃ f a u, ws = f :: a ∧ knownB f = true ∧ ¬ (f ≠ kFie ∧ f ∈ s) ∧ ¬ (f = kFie ∧ d.fs.length = 8) ∧ updM f a = some u ∧ d' = u d := by
 unfold stepM at h
 split at h
 · cases h
 · split at h
   · cases h
   split at h
   · cases h
   split at h
   · cases h
   split at h
   · cases h
   · rename_i f a h1 h2 h3 _ u hu
     exact ⟨f, a, u, rfl, by cases hk : knownB f <;> simp_all, h2, h3, hu, (Except.ok.inj h).symm⟩
theorem ok_step {d : Dv} {s : List Wd} {f : Wd} {a : List Wd} {u : Dv → Dv} (h1 : knownB f = true) (h2 : ¬ (f ≠ kFie ∧ f ∈ s)) (h3 : ¬ (f = kFie ∧ d.fs.length = 8)) (hu : updM f a = some u) : stepM d s (f :: a) = .ok (u d) := by
 unfold stepM
 simp only [h1, hu]
 rw [if_neg (by decide), if_neg h2, if_neg h3]
theorem head_cons (f : Wd) (a : List Wd) : (f :: a).headD [] = f := rfl
theorem go_ok {d d' : Dv} {s : List Wd} {r : Lr} {rs : List Lr} (h : stepM d s r.2 = .ok d') : goM d s (r :: rs) = goM d' (s ++ [r.2.headD []]) rs := by rw [goM, h]
theorem nodup_sub (l : List Wd) : ∀ (m : List Wd), l.Nodup → (∀ x ∈ l, x ∈ m) → l.length ≤ m.length := by
 induction l with
 | nil => intro m _ _; simp
 | cons x l ih =>
  intro m hn hs
  have h1 := List.nodup_cons.1 hn
  have hx : x ∈ m := hs x (by simp)
  have h2 := ih (m.erase x) h1.2 (fun y hy => (List.mem_erase_of_ne (fun e => h1.1 (by rw [← e]; exact hy))).2 (hs y (by simp [hy])))
  rw [List.length_erase_of_mem hx] at h2
  have : 0 < m.length := List.length_pos_of_mem hx
  simp only [List.length_cons]; omega
def notF (s : List Wd) : List Wd := s.filter fun x => !decide (x = kFie)
structure SeenOk (d : Dv) (s : List Wd) : Prop where
 nd : (notF s).Nodup
 sub : ∀ x ∈ s, x ∈ tenK ∨ x = kFie
 cnt : s.count kFie = d.fs.length
 le : d.fs.length ≤ 8
theorem SeenOk.first : SeenOk dv0 [] := ⟨by decide, fun x h => (by cases h), rfl, by decide⟩
theorem SeenOk.step {d d' : Dv} {s : List Wd} {ws : List Wd} (h : SeenOk d s) (hs : stepM d s ws = .ok d') : SeenOk d' (s ++ [ws.headD []]) := by
 obtain ⟨f, a, u, rfl, k1, t1, z1, u1, rfl⟩ := step_ok hs
 rw [head_cons]
 have hl := upd_len u1 d
 have hk : f ∈ tenK ∨ f = kFie := by simpa [knownB] using k1
 refine ⟨?_, ?_, ?_, ?_⟩
 · unfold notF
   rw [List.filter_append]
   by_cases hf : f = kFie
   · rw [show List.filter (fun x => !decide (x = kFie)) [f] = [] by simp [hf], List.append_nil]; exact h.nd
   · rw [show List.filter (fun x => !decide (x = kFie)) [f] = [f] by simp [hf]]
     refine List.nodup_append.2 ⟨h.nd, by simp, ?_⟩
     intro x hx y hy e
     have hy' : y = f := by simpa using hy
     exact t1 ⟨hf, by rw [← hy', ← e]; exact (List.mem_filter.1 hx).1⟩
 · intro x hx
   rcases List.mem_append.1 hx with hx | hx
   · exact h.sub x hx
   · have : x = f := by simpa using hx
     rw [this]; exact hk
 · rw [List.count_append, h.cnt, hl, List.count_singleton]
   by_cases hf : f = kFie
   · rw [hf]; simp
   · rw [if_neg hf]; simp [hf]
 · rw [hl]
   have := h.le
   by_cases hf : f = kFie
   · rw [if_pos hf]
     have : ¬ d.fs.length = 8 := fun e => z1 ⟨hf, e⟩
     omega
   · rw [if_neg hf]; omega
theorem tenK_nf : ∀ k ∈ tenK, ¬ k = kFie := by decide
theorem SeenOk.lack {d : Dv} {s : List Wd} (h : SeenOk d s) : lackB s = decide ((notF s).length < 10) := by
 unfold lackB
 rw [decide_eq_decide]
 constructor
 · rintro ⟨k, hk, hn⟩
   have := nodup_sub (notF s) (tenK.erase k) h.nd (fun x hx => by
    have hm := List.mem_filter.1 hx
    have h1 := h.sub x hm.1
    have h2 : ¬ x = kFie := by simpa using hm.2
    exact (List.mem_erase_of_ne (fun e => hn (by rw [← e]; exact hm.1))).2 (h1.resolve_right h2))
   rw [List.length_erase_of_mem hk] at this
   have e : tenK.length = 10 := rfl
   omega
 · intro hl
   refine Classical.byContradiction fun hc => ?_
   have := nodup_sub tenK (notF s) (by decide) (fun x hx => List.mem_filter.2 ⟨Classical.byContradiction fun hn => hc ⟨x, hx, hn⟩, by simpa using tenK_nf x hx⟩)
   have e : tenK.length = 10 := rfl
   omega
def StrsAny (x : World) (v : Value) (ws : List Wd) : Prop := (∃ a c, v = .slice a 0 c ∧ ws = []) ∨ ∃ g o cap, v = .slice (some ⟨g, o, none⟩) ws.length cap ∧ StrsIn x g o ws ∧ g < x.heap.size
theorem StrsAt.any {x : World} {v : Value} {ws : List Wd} (h : StrsAt x v ws) : StrsAny x v ws := by
 rcases h with h | h
 · exact .inl ⟨none, 0, h⟩
 · exact .inr h
theorem StrsAny.below {x y : World} {v : Value} {ws : List Wd} (h : StrsAny x v ws) (k : Below x.heap.size x y) : StrsAny y v ws := by
 rcases h with h | ⟨g, o, cap, h1, h2, h3⟩
 · exact .inl h
 · exact .inr ⟨g, o, cap, h1, fun j hj => (k.cell (p := ⟨g, o + j, none⟩) h3).trans (h2 j hj), Nat.lt_of_lt_of_le h3 k.size⟩
def LrIn (x : World) (g a : Nat) (r : Lr) : Prop := x.cell? ⟨g, a, none⟩ = some (.int .i64 r.1) ∧ ∃ u, x.cell? ⟨g, a + 1, none⟩ = some u ∧ StrsAny x u r.2
def LrsAt (x : World) (v : Value) (rs : List Lr) : Prop := (v = .slice none 0 0 ∧ rs = []) ∨ ∃ g o cap, v = .slice (some ⟨g, o, none⟩) rs.length cap ∧ (∀ j (h : j < rs.length), LrIn x g (o + 2 * j) rs[j]) ∧ g < x.heap.size
def lrOf (rs : List Ln) : List Lr := rs.map fun r => ((r.1 : Int), r.2)
theorem lrs_of {x : World} {v : Value} {rs : List Ln} (h : RowsAt x v rs) : LrsAt x v (lrOf rs) := by
 have hl : (lrOf rs).length = rs.length := by unfold lrOf; simp
 rcases h with ⟨h1, h2⟩ | ⟨g, o, cap, h1, h2, h3⟩
 · exact .inl ⟨h1, by rw [h2]; rfl⟩
 · refine .inr ⟨g, o, cap, by rw [hl]; exact h1, fun j hj => ?_, h3⟩
   have hj' : j < rs.length := by omega
   have e : (lrOf rs)[j] = ((rs[j].1 : Int), rs[j].2) := by
    have k : (lrOf rs)[j]? = some ((rs[j].1 : Int), rs[j].2) := by unfold lrOf; rw [List.getElem?_map, List.getElem?_eq_getElem hj']; rfl
    rw [List.getElem?_eq_getElem hj] at k
    exact Option.some.inj k
   rw [e]
   obtain ⟨k1, u, k2, k3⟩ := h2 j hj'
   exact ⟨k1, u, k2, k3.any⟩
def octI (w : Wd) : Int :=
 match octO w with
 | some b => (b : Int)
 | none => -1
theorem oct_some {w : Wd} {b : Nat} (h : hexR w = some [b]) : octO w = some b := by unfold octO; rw [h]
theorem oct_none {w : Wd} (h : hexR w = none) : octO w = none := by unfold octO; rw [h]
theorem oct_long {w : Wd} {bs : List Nat} (h : hexR w = some bs) (hl : ¬ bs.length = 1) : octO w = none := by
 unfold octO
 rw [h]
 match bs, hl with
 | [], _ => rfl
 | [b], hl => exact absurd rfl hl
 | _ :: _ :: _, _ => rfl
theorem hexR_b {l : List UInt8} {bs : List Nat} (h : hexR l = some bs) : AllBytes bs ∧ bs.length ≤ l.length := by
 unfold hexR at h
 split at h
 · cases h
 · exact hex_bytes l h
section
variable {P : Program}
theorem obj_map (w : World) (g : Nat) (es : Array MapEntry) (c : Nat) (h : w.heap[g]? = some (.map es c)) : (getObj g).run P w = .ok (.map es c) w := by
 simp [getObj, Sem.run, h]
theorem set_map (w : World) (g : Nat) (es : Array MapEntry) (c : Nat) (h : w.heap[g]? = some (.map es c)) {o : Obj} : (setObj g o).run P w = .ok () { w with heap := w.heap.setIfInBounds g o } := by
 simp [setObj, Sem.run, h]
theorem key_str (w : World) (b : Bool) (K : TypeId) (hk : P.underlying K = some .string) (s : ByteArray) : (Instr.checkKey b 10000 K (.string s)).run P w = .ok () w := by
 unfold Instr.checkKey
 simp [run_underlying hk, Result.andThen]
theorem find_str (w : World) (K : TypeId) (hk : P.underlying K = some .string) (s : ByteArray) (es : List MapEntry) (r : Option (Nat × Value)) (hf : Instr.findNow .string (.string s) es 0 = some r) : (Instr.findKey K (.string s) es).run P w = .ok r w := by
 simp [Instr.findKey, run_underlying hk, Result.andThen, hf]
theorem push_last (h : Array Obj) (o o' : Obj) : (h.push o).setIfInBounds h.size o' = h.push o' := by
 apply Array.ext_getElem?
 intro i
 rw [Array.getElem?_setIfInBounds, Array.getElem?_push, Array.getElem?_push]
 by_cases e : h.size = i
 · subst e; simp
 · rw [if_neg e, if_neg (Ne.symm e), if_neg (Ne.symm e)]
theorem mset_last (w : World) (o o' : Obj) : ({ w.alloc o with heap := (w.alloc o).heap.setIfInBounds w.heap.size o' } : World) = w.alloc o' := by
 show ({ w with heap := (w.heap.push o).setIfInBounds w.heap.size o' } : World) = { w with heap := w.heap.push o' }
 rw [push_last]
theorem insert_str (T K E : TypeId) (ht : P.underlying T = some (.map K E)) (hk : P.underlying K = some .string) (es : Array MapEntry) (c : Nat) (s : ByteArray) (v : Value) (hf : Instr.findNow .string (.string s) es.toList 0 = some none) (w : World) :
 (Instr.mapUpdate T (.map (some w.heap.size)) (.string s) v).run P (w.alloc (.map es c)) = .ok () (w.alloc (.map (es.push { key := .string s, val := v, born := c }) (c + 1))) := by
 have hb : (w.alloc (.map es c)).heap[w.heap.size]? = some (.map es c) := World.alloc_heap_new w _
 have hs : (setObj w.heap.size (.map (es.push { key := .string s, val := v, born := c }) (c + 1))).run P (w.alloc (.map es c)) = .ok () (w.alloc (.map (es.push { key := .string s, val := v, born := c }) (c + 1))) := by
  rw [set_map (w.alloc (.map es c)) _ _ _ hb, mset_last]
 unfold Instr.mapUpdate
 simp [run_underlying ht, obj_map _ _ _ _ hb, key_str _ _ _ hk, find_str _ _ hk _ _ _ hf, hs, Result.andThen]
theorem lookup_str (T K E : TypeId) (ht : P.underlying T = some (.map K E)) (hk : P.underlying K = some .string) (w : World) (g : Nat) (es : Array MapEntry) (c : Nat) (hb : w.heap[g]? = some (.map es c)) (s : ByteArray) (i : Nat) (v : Value) (hf : Instr.findNow .string (.string s) es.toList 0 = some (some (i, v))) :
 (Instr.lookup T (.map (some g)) (.string s) true).run P w = .ok (.tuple #[v, .bool true]) w := by
 unfold Instr.lookup
 simp [run_underlying ht, obj_map _ _ _ _ hb, key_str _ _ _ hk, find_str _ _ hk _ _ _ hf, Result.andThen]
theorem lookup_no (T K E : TypeId) (ht : P.underlying T = some (.map K E)) (hk : P.underlying K = some .string) (w : World) (g : Nat) (es : Array MapEntry) (c : Nat) (hb : w.heap[g]? = some (.map es c)) (s : ByteArray) (z : Value) (hz : (zeroValue E).run P w = .ok z w) (hf : Instr.findNow .string (.string s) es.toList 0 = some none) :
 (Instr.lookup T (.map (some g)) (.string s) true).run P w = .ok (.tuple #[z, .bool false]) w := by
 unfold Instr.lookup
 simp [run_underlying ht, obj_map _ _ _ _ hb, key_str _ _ _ hk, find_str _ _ hk _ _ _ hf, hz, Result.andThen]
end
theorem same_str (a b : ByteArray) : Instr.sameNow .string (.string a) (.string b) = some (a == b) := by rfl
theorem ba_beq (a b : ByteArray) : (a == b) = decide (a = b) := by
 rcases a with ⟨a⟩
 rcases b with ⟨b⟩
 rw [Bool.eq_iff_iff, decide_eq_true_iff]
 constructor
 · intro h
   have h' : (a == b) = true := h
   rw [eq_of_beq h']
 · intro h
   have : a = b := by injection h
   show (a == b) = true
   rw [this]
   exact beq_self_eq_true _
theorem txt_beq (a b : Wd) : (txt a == txt b) = decide (a = b) := by
 rw [ba_beq, decide_eq_decide]
 exact ⟨txt_inj, fun h => by rw [h]⟩
theorem bits_same (s : ByteArray) : Instr.sameBits 10000 (.string s) (.string s) = true := by
 unfold Instr.sameBits
 rw [ba_beq]
 exact decide_eq_true rfl
theorem find_list (s : Wd) : ∀ (es : List MapEntry) (n : Nat), (∀ e ∈ es, ∃ f, e.key = .string (txt f)) →
 (Instr.findNow .string (.string (txt s)) es n = some none ∧ ∀ e ∈ es, e.key ≠ .string (txt s)) ∨ ∃ i e, es[i]? = some e ∧ e.key = .string (txt s) ∧ Instr.findNow .string (.string (txt s)) es n = some (some (n + i, e.val))
 | [], n, _ => .inl ⟨rfl, fun e h => (by cases h)⟩
 | e :: es, n, h => by
  obtain ⟨f, hf⟩ := h e (by simp)
  by_cases hs : s = f
  · subst hs
    refine .inr ⟨0, e, rfl, hf, ?_⟩
    rw [Instr.findNow, hf, same_str, txt_beq, decide_eq_true rfl]
    rfl
  · have e1 : Instr.findNow .string (.string (txt s)) (e :: es) n = Instr.findNow .string (.string (txt s)) es (n + 1) := by
     rw [Instr.findNow, hf, same_str, txt_beq, decide_eq_false hs]
    rcases find_list s es (n + 1) (fun e' he' => h e' (by simp [he'])) with ⟨h1, h2⟩ | ⟨i, e', h1, h2, h3⟩
    · refine .inl ⟨by rw [e1]; exact h1, fun e' he' => ?_⟩
      rcases List.mem_cons.1 he' with rfl | he'
      · rw [hf]; intro hc; injection hc with hc; exact hs (txt_inj hc).symm
      · exact h2 e' he'
    · exact .inr ⟨i + 1, e', h1, h2, by rw [e1, h3]; congr 3; omega⟩
theorem find_arr (s : Wd) (es : Array MapEntry) (h : ∀ (i : Nat) (e : MapEntry), es[i]? = some e → ∃ f, e.key = .string (txt f)) :
 (Instr.findNow .string (.string (txt s)) es.toList 0 = some none ∧ ∀ (i : Nat) (e : MapEntry), es[i]? = some e → e.key ≠ .string (txt s)) ∨ ∃ (i : Nat) (e : MapEntry), es[i]? = some e ∧ e.key = .string (txt s) ∧ Instr.findNow .string (.string (txt s)) es.toList 0 = some (some (i, e.val)) := by
 rcases find_list s es.toList 0 (fun e he => by
  obtain ⟨i, hi⟩ := List.mem_iff_getElem?.1 he
  exact h i e (by rwa [Array.getElem?_toList] at hi)) with ⟨h1, h2⟩ | ⟨i, e, h1, h2, h3⟩
 · exact .inl ⟨h1, fun i e he => h2 e (List.mem_of_getElem? (i := i) (by rw [Array.getElem?_toList]; exact he))⟩
 · exact .inr ⟨i, e, by rwa [Array.getElem?_toList] at h1, h2, by rw [h3, Nat.zero_add]⟩
section
variable {P : Program}
theorem look_found (T K E : TypeId) (ht : P.underlying T = some (.map K E)) (hk : P.underlying K = some .string) (w : World) (g : Nat) (es : Array MapEntry) (c : Nat) (hb : w.heap[g]? = some (.map es c)) (s : ByteArray) (i : Nat) (v : Value) (hf : Instr.findNow .string (.string s) es.toList 0 = some (some (i, v))) :
 (Instr.lookup T (.map (some g)) (.string s) false).run P w = .ok v w := by
 unfold Instr.lookup
 simp [run_underlying ht, obj_map _ _ _ _ hb, key_str _ _ _ hk, find_str _ _ hk _ _ _ hf, Result.andThen]
theorem look_none (T K E : TypeId) (ht : P.underlying T = some (.map K E)) (hk : P.underlying K = some .string) (w : World) (g : Nat) (es : Array MapEntry) (c : Nat) (hb : w.heap[g]? = some (.map es c)) (s : ByteArray) (z : Value) (hz : (zeroValue E).run P w = .ok z w) (hf : Instr.findNow .string (.string s) es.toList 0 = some none) :
 (Instr.lookup T (.map (some g)) (.string s) false).run P w = .ok z w := by
 unfold Instr.lookup
 simp [run_underlying ht, obj_map _ _ _ _ hb, key_str _ _ _ hk, find_str _ _ hk _ _ _ hf, hz, Result.andThen]
theorem ins_none (T K E : TypeId) (ht : P.underlying T = some (.map K E)) (hk : P.underlying K = some .string) (es : Array MapEntry) (c : Nat) (s : ByteArray) (v : Value) (hf : Instr.findNow .string (.string s) es.toList 0 = some none) (w : World) (g : Nat) (hb : w.heap[g]? = some (.map es c)) :
 (Instr.mapUpdate T (.map (some g)) (.string s) v).run P w = .ok () { w with heap := w.heap.setIfInBounds g (.map (es.push { key := .string s, val := v, born := c }) (c + 1)) } := by
 have hs := set_map (P := P) w g es c hb (o := .map (es.push { key := .string s, val := v, born := c }) (c + 1))
 unfold Instr.mapUpdate
 simp [run_underlying ht, obj_map _ _ _ _ hb, key_str _ _ _ hk, find_str _ _ hk _ _ _ hf, hs, Result.andThen]
theorem ins_found (T K E : TypeId) (ht : P.underlying T = some (.map K E)) (hk : P.underlying K = some .string) (es : Array MapEntry) (c : Nat) (s : ByteArray) (v u : Value) (i : Nat) (e : MapEntry) (he : es[i]? = some e) (hke : e.key = .string s) (hf : Instr.findNow .string (.string s) es.toList 0 = some (some (i, u))) (w : World) (g : Nat) (hb : w.heap[g]? = some (.map es c)) :
 (Instr.mapUpdate T (.map (some g)) (.string s) v).run P w = .ok () { w with heap := w.heap.setIfInBounds g (.map (es.modify i fun e => { e with key := .string s, val := v }) c) } := by
 have hs := set_map (P := P) w g es c hb (o := .map (es.modify i fun e => { e with key := .string s, val := v }) c)
 unfold Instr.mapUpdate
 simp [run_underlying ht, obj_map _ _ _ _ hb, key_str _ _ _ hk, find_str _ _ hk _ _ _ hf, he, hke, Instr.keyThatStays, bits_same, hs, Result.andThen]
end
structure LnOk (es : Array MapEntry) (seen : List Wd) : Prop where
 nd : ∀ (i j : Nat) (a b : MapEntry), es[i]? = some a → es[j]? = some b → a.key = b.key → i = j
 key : ∀ (i : Nat) (e : MapEntry), es[i]? = some e → ∃ f : Wd, e.key = .string (txt f) ∧ e.val = .int .i64 ((seen.count f : Nat) : Int)
 has : ∀ f ∈ seen, ∃ (i : Nat) (e : MapEntry), es[i]? = some e ∧ e.key = .string (txt f)
theorem LnOk.first : LnOk #[] [] := ⟨fun i j a b h => (by simp at h), fun i e h => (by simp at h), fun f h => (by cases h)⟩
theorem LnOk.strs {es : Array MapEntry} {seen : List Wd} (h : LnOk es seen) (i : Nat) (e : MapEntry) (he : es[i]? = some e) : ∃ f, e.key = .string (txt f) := by
 obtain ⟨f, h1, _⟩ := h.key i e he
 exact ⟨f, h1⟩
theorem LnOk.look {es : Array MapEntry} {seen : List Wd} (h : LnOk es seen) (f : Wd) : (Instr.findNow .string (.string (txt f)) es.toList 0 = some none ∧ seen.count f = 0) ∨ ∃ (i : Nat) (e : MapEntry), es[i]? = some e ∧ e.key = .string (txt f) ∧ Instr.findNow .string (.string (txt f)) es.toList 0 = some (some (i, .int .i64 ((seen.count f : Nat) : Int))) := by
 rcases find_arr f es h.strs with ⟨h1, h2⟩ | ⟨i, e, h1, h2, h3⟩
 · refine .inl ⟨h1, List.count_eq_zero.2 fun hm => ?_⟩
   obtain ⟨i, e, he, hk⟩ := h.has f hm
   exact h2 i e he hk
 · refine .inr ⟨i, e, h1, h2, ?_⟩
   obtain ⟨f', h4, h5⟩ := h.key i e h1
   have : f' = f := by
    rw [h2] at h4
    injection h4 with h4
    exact (txt_inj h4).symm
   rw [h3, h5, this]
theorem LnOk.push {es : Array MapEntry} {seen : List Wd} (h : LnOk es seen) (f : Wd) (hn : Instr.findNow .string (.string (txt f)) es.toList 0 = some none) (hc : seen.count f = 0) (c : Nat) : LnOk (es.push { key := .string (txt f), val := .int .i64 1, born := c }) (seen ++ [f]) := by
 have nf : ∀ (i : Nat) (e : MapEntry), es[i]? = some e → e.key ≠ .string (txt f) := by
  rcases find_arr f es h.strs with ⟨_, h2⟩ | ⟨i, e, h1, h2, h3⟩
  · exact h2
  · rw [hn] at h3; cases h3
 have at' : ∀ (i : Nat) (e : MapEntry), (es.push { key := .string (txt f), val := .int .i64 1, born := c })[i]? = some e → es[i]? = some e ∨ (i = es.size ∧ e = { key := .string (txt f), val := .int .i64 1, born := c }) := by
  intro i e he
  rw [Array.getElem?_push] at he
  split at he
  · exact .inr ⟨by assumption, (Option.some.inj he).symm⟩
  · exact .inl he
 refine ⟨fun i j a b ha hb hab => ?_, fun i e he => ?_, fun g hg => ?_⟩
 · rcases at' i a ha with ha | ⟨rfl, rfl⟩
   · rcases at' j b hb with hb | ⟨rfl, rfl⟩
     · exact h.nd i j a b ha hb hab
     · exact absurd hab (nf i a ha)
   · rcases at' j b hb with hb | ⟨rfl, rfl⟩
     · exact absurd hab.symm (nf j b hb)
     · rfl
 · rcases at' i e he with he | ⟨rfl, rfl⟩
   · obtain ⟨g, h1, h2⟩ := h.key i e he
     refine ⟨g, h1, ?_⟩
     have : ¬ f = g := fun e' => nf i e he (by rw [h1, e'])
     rw [h2, List.count_append, List.count_singleton]
     simp [this]
   · refine ⟨f, rfl, ?_⟩
     rw [List.count_append, hc, List.count_singleton]
     simp
 · rcases List.mem_append.1 hg with hg | hg
   · obtain ⟨i, e, he, hk⟩ := h.has g hg
     refine ⟨i, e, ?_, hk⟩
     have hlt := (Array.getElem?_eq_some_iff.1 he).1
     rw [Array.getElem?_push, if_neg (by omega)]; exact he
   · have : g = f := by simpa using hg
     subst this
     exact ⟨es.size, _, by rw [Array.getElem?_push, if_pos rfl], rfl⟩
theorem LnOk.turn {es : Array MapEntry} {seen : List Wd} (h : LnOk es seen) (f : Wd) {i : Nat} {e : MapEntry} (he : es[i]? = some e) (hk : e.key = .string (txt f)) : LnOk (es.modify i fun e => { e with key := .string (txt f), val := .int .i64 ((seen.count f : Nat) + 1 : Int) }) (seen ++ [f]) := by
 have at' : ∀ (j : Nat) (a : MapEntry), (es.modify i fun e => { e with key := .string (txt f), val := .int .i64 ((seen.count f : Nat) + 1 : Int) })[j]? = some a → (j ≠ i ∧ es[j]? = some a) ∨ (j = i ∧ a = { e with key := .string (txt f), val := .int .i64 ((seen.count f : Nat) + 1 : Int) }) := by
  intro j a ha
  rw [Array.getElem?_modify] at ha
  by_cases hji : i = j
  · subst hji
    rw [if_pos rfl, he] at ha
    exact .inr ⟨rfl, (Option.some.inj ha).symm⟩
  · rw [if_neg hji] at ha
    exact .inl ⟨Ne.symm hji, ha⟩
 have nf : ∀ (j : Nat) (a : MapEntry), j ≠ i → es[j]? = some a → a.key ≠ .string (txt f) := fun j a hj ha hc => hj (h.nd j i a e ha he (by rw [hc, hk]))
 refine ⟨fun j k a b ha hb hab => ?_, fun j a ha => ?_, fun g hg => ?_⟩
 · rcases at' j a ha with ⟨hj, ha2⟩ | ⟨hj, ha2⟩
   · rcases at' k b hb with ⟨hk2, hb2⟩ | ⟨hk2, hb2⟩
     · exact h.nd j k a b ha2 hb2 hab
     · exact absurd (hab.trans (by rw [hb2])) (nf j a hj ha2)
   · rcases at' k b hb with ⟨hk2, hb2⟩ | ⟨hk2, hb2⟩
     · exact absurd (hab.symm.trans (by rw [ha2])) (nf k b hk2 hb2)
     · rw [hj, hk2]
 · rcases at' j a ha with ⟨hj, ha2⟩ | ⟨rfl, rfl⟩
   · obtain ⟨g, h1, h2⟩ := h.key j a ha2
     refine ⟨g, h1, ?_⟩
     have : ¬ f = g := fun e' => nf j a hj ha2 (by rw [h1, e'])
     rw [h2, List.count_append, List.count_singleton]
     simp [this]
   · refine ⟨f, rfl, ?_⟩
     rw [List.count_append, List.count_singleton]
     simp
 · have : ∃ (j : Nat) (a : MapEntry), es[j]? = some a ∧ a.key = .string (txt g) := by
    rcases List.mem_append.1 hg with hg | hg
    · exact h.has g hg
    · have : g = f := by simpa using hg
      subst this
      exact ⟨i, e, he, hk⟩
   obtain ⟨j, a, ha, hka⟩ := this
   by_cases hji : i = j
   · subst hji
     refine ⟨i, _, by rw [Array.getElem?_modify, if_pos rfl, he]; rfl, ?_⟩
     rw [he] at ha
     cases ha
     rw [← hka, hk]
   · exact ⟨j, a, by rw [Array.getElem?_modify, if_neg hji]; exact ha, hka⟩
theorem sdrop_at {s : ByteArray} {k : Nat} (hk : k < s.size) : s.data.toList.drop k = s[k] :: s.data.toList.drop (k + 1) := by
 have hl : k < s.data.toList.length := by simpa using hk
 rw [List.drop_eq_getElem_cons hl]
 rfl
theorem name_form {s : ByteArray} (h0 : 0 < s.size) : nameB s.data.toList = (decide (s.size ≤ 12) && (lowB s[0] && allN s.data.toList)) := by
 have hl : s.data.toList.length = s.size := by simp
 have e : s.data.toList = s[0] :: s.data.toList.drop 1 := by
  have := sdrop_at (s := s) (k := 0) h0
  simpa using this
 unfold nameB
 rw [hl]
 congr 1
 obtain ⟨r, hr⟩ : ∃ r, s.data.toList = s[0] :: r := ⟨_, e⟩
 rw [hr]
theorem ret_bb {x y : Bool} (h : y = x) : Ending.returned (.bool x) = .returned (.bool y) := by rw [h]
theorem rname_main (s : ByteArray) (w : World) (h0 : 0 < s.size) (h12 : (s.size : Int) ≤ 12) (c1 : (97 : Int) ≤ (s[0].toNat : Int)) (c2 : (s[0].toNat : Int) ≤ 122) :
 Calls Tryz.prog 25 #[.string s] w fun e w' => e = .returned (.bool (allN s.data.toList)) ∧ w' = w := by
 have h0i : (0 : Int) < (s.size : Int) := by omega
 have g1 : decide ((s.size : Int) < 1) = false := decide_eq_false (by omega)
 have g2 : decide (12 < (s.size : Int)) = false := decide_eq_false (by omega)
 have g3 : decide ((s[0].toNat : Int) < 97) = false := decide_eq_false (by omega)
 have g4 : decide (122 < (s[0].toNat : Int)) = false := decide_eq_false (by omega)
 obtain ⟨T, hT⟩ : ∃ T, allN s.data.toList = T := ⟨_, rfl⟩
 rw [hT]
 replace hT : Hid (allN s.data.toList = T) := hT
 go_enter Tryz.func25, Tryz.ntmps25
 go_wp2
 go_loop [3] (fun vi => ∃ k : Nat, (k : Int) ≤ (s.size : Int) ∧ vi = .int .i64 (k : Int) ∧ Hid (allN (s.data.toList.take k) = true)) (fun vi => s.size - (intOf vi).toNat)
 case atStart => exact ⟨0, by omega, rfl, rfl⟩
 case round =>
  obtain ⟨k, hk, rfl, hall⟩ := hrel
  by_cases hlt : k < s.size
  · have hki : (k : Int) < (s.size : Int) := by omega
    have hl : k < s.data.toList.length := by simpa using hlt
    have stp : Hid (nameC s[k] = false → T = false) := fun h => by rw [← hT.out]; exact allN_stop hl h
    have nx : Hid (nameC s[k] = true → allN (s.data.toList.take (k + 1)) = true) := fun h => allN_next hl hall.out h
    have lk : s[k].toNat < 256 := s[k].toNat_lt
    clear hall hT g3 g4 c1 c2
    by_cases a1 : (97 : Int) ≤ (s[k].toNat : Int)
    · by_cases a2 : (s[k].toNat : Int) ≤ 122
      · have nl : Hid (allN (s.data.toList.take (k + 1)) = true) := nx.out (by unfold nameC; simp; omega)
        have q1 : decide ((s[k].toNat : Int) < 97) = false := decide_eq_false (by omega)
        have q2 : decide (122 < (s[k].toNat : Int)) = false := decide_eq_false (by omega)
        clear nx stp
        go_wp2
        exact ⟨⟨k + 1, by omega, by simp, nl⟩, by simp [intOf]; omega⟩
      · have fin : Hid (T = false) := stp.out (by unfold nameC; simp; omega)
        have q1 : decide ((s[k].toNat : Int) < 97) = false := decide_eq_false (by omega)
        have q2 : decide (122 < (s[k].toNat : Int)) = true := decide_eq_true (by omega)
        have q3 : decide ((s[k].toNat : Int) < 48) = false := decide_eq_false (by omega)
        have q4 : decide (57 < (s[k].toNat : Int)) = true := decide_eq_true (by omega)
        clear nx stp
        go_wp2
        go_ret
        exact ⟨ret_bb fin.out, rfl⟩
    · have q1 : decide ((s[k].toNat : Int) < 97) = true := decide_eq_true (by omega)
      by_cases a3 : (48 : Int) ≤ (s[k].toNat : Int)
      · have q3 : decide ((s[k].toNat : Int) < 48) = false := decide_eq_false (by omega)
        by_cases a4 : (s[k].toNat : Int) ≤ 57
        · have nl : Hid (allN (s.data.toList.take (k + 1)) = true) := nx.out (by unfold nameC; simp; omega)
          have q4 : decide (57 < (s[k].toNat : Int)) = false := decide_eq_false (by omega)
          clear nx stp
          go_wp2
          exact ⟨⟨k + 1, by omega, by simp, nl⟩, by simp [intOf]; omega⟩
        · have fin : Hid (T = false) := stp.out (by unfold nameC; simp; omega)
          have q4 : decide (57 < (s[k].toNat : Int)) = true := decide_eq_true (by omega)
          clear nx stp
          go_wp2
          go_ret
          exact ⟨ret_bb fin.out, rfl⟩
      · have fin : Hid (T = false) := stp.out (by unfold nameC; simp; omega)
        have q3 : decide ((s[k].toNat : Int) < 48) = true := decide_eq_true (by omega)
        clear nx stp
        go_wp2
        go_ret
        exact ⟨ret_bb fin.out, rfl⟩
  · obtain rfl : k = s.size := by omega
    have fin : Hid (T = true) := by
     have h := hall.out
     rw [List.take_of_length_le (by simp)] at h
     rw [← hT.out]
     exact h
    clear hall hT hlt g3 g4 c1 c2
    go_wp2
    go_ret
    exact ⟨ret_bb fin.out, rfl⟩
theorem rname_zero (s : ByteArray) (w : World) (h0 : (s.size : Int) < 1) :
 Calls Tryz.prog 25 #[.string s] w fun e w' => e = .returned (.bool false) ∧ w' = w := by
 have g1 : decide ((s.size : Int) < 1) = true := decide_eq_true (by omega)
 go_enter Tryz.func25, Tryz.ntmps25
 go_wp2
 go_ret
 exact ⟨rfl, rfl⟩
theorem rname_long (s : ByteArray) (w : World) (h12 : 12 < (s.size : Int)) :
 Calls Tryz.prog 25 #[.string s] w fun e w' => e = .returned (.bool false) ∧ w' = w := by
 have g1 : decide ((s.size : Int) < 1) = false := decide_eq_false (by omega)
 have g2 : decide (12 < (s.size : Int)) = true := decide_eq_true (by omega)
 go_enter Tryz.func25, Tryz.ntmps25
 go_wp2
 go_ret
 exact ⟨rfl, rfl⟩
theorem rname_low (s : ByteArray) (w : World) (h0 : 0 < s.size) (h12 : (s.size : Int) ≤ 12) (c1 : (s[0].toNat : Int) < 97) :
 Calls Tryz.prog 25 #[.string s] w fun e w' => e = .returned (.bool false) ∧ w' = w := by
 have h0i : (0 : Int) < (s.size : Int) := by omega
 have g1 : decide ((s.size : Int) < 1) = false := decide_eq_false (by omega)
 have g2 : decide (12 < (s.size : Int)) = false := decide_eq_false (by omega)
 have g3 : decide ((s[0].toNat : Int) < 97) = true := decide_eq_true (by omega)
 go_enter Tryz.func25, Tryz.ntmps25
 go_wp2
 go_ret
 exact ⟨rfl, rfl⟩
theorem rname_high (s : ByteArray) (w : World) (h0 : 0 < s.size) (h12 : (s.size : Int) ≤ 12) (c1 : (97 : Int) ≤ (s[0].toNat : Int)) (c2 : (122 : Int) < (s[0].toNat : Int)) :
 Calls Tryz.prog 25 #[.string s] w fun e w' => e = .returned (.bool false) ∧ w' = w := by
 have h0i : (0 : Int) < (s.size : Int) := by omega
 have g1 : decide ((s.size : Int) < 1) = false := decide_eq_false (by omega)
 have g2 : decide (12 < (s.size : Int)) = false := decide_eq_false (by omega)
 have g3 : decide ((s[0].toNat : Int) < 97) = false := decide_eq_false (by omega)
 have g4 : decide (122 < (s[0].toNat : Int)) = true := decide_eq_true (by omega)
 go_enter Tryz.func25, Tryz.ntmps25
 go_wp2
 go_ret
 exact ⟨rfl, rfl⟩
theorem rname_any (s : ByteArray) (w : World) : Calls Tryz.prog 25 #[.string s] w fun e w' => e = .returned (.bool (nameB s.data.toList)) ∧ w' = w := by
 by_cases h0 : 0 < s.size
 · rw [name_form h0]
   by_cases h12 : (s.size : Int) ≤ 12
   · rw [decide_eq_true (show s.size ≤ 12 by omega), Bool.true_and]
     by_cases c1 : (97 : Int) ≤ (s[0].toNat : Int)
     · by_cases c2 : (s[0].toNat : Int) ≤ 122
       · rw [show lowB s[0] = true by unfold lowB; simp; omega, Bool.true_and]
         exact rname_main s w h0 h12 c1 c2
       · rw [show lowB s[0] = false by unfold lowB; simp; omega, Bool.false_and]
         exact rname_high s w h0 h12 c1 (by omega)
     · rw [show lowB s[0] = false by unfold lowB; simp; omega, Bool.false_and]
       exact rname_low s w h0 h12 (by omega)
   · rw [decide_eq_false (show ¬ s.size ≤ 12 by omega), Bool.false_and]
     exact rname_long s w (by omega)
 · have e : s.data.toList = [] := List.length_eq_zero_iff.1 (by rw [show s.data.toList.length = s.size by simp]; omega)
   rw [e]
   exact rname_zero s w (by omega)
end Go.Proofs.YthabffjgdhfbmaaGreatDoor
