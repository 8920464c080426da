/-
  Texts that belong together, one behind the other: TextsW, TextsBW, RatTx, ShMath, ShBld, ShHex, DsBk1, DsBk. Conditions: as each says.
-/
import Derived.Below
import Derived.BigQuiet
import Derived.ChangeOld
import Derived.Deep.AppendLies
import Derived.Deep.CutRange
import Derived.Deep.QuietTactic
import Derived.Deep.RegionHeld3
import Derived.Deep.SlicePairs
import Derived.Deep.Strs
import Derived.Laws.BitsAllLaws
import Derived.Laws.IdiomStrings
import Derived.Laws.OwnMore
import Derived.Laws.Shifts
import Derived.Lib.QuietBelow
import Derived.Lib.QuietBelowIn
import Derived.Maps.AppendAt
import Derived.OpenShut
import Derived.ProofKit
import Derived.RangeFuncCalls
import Derived.ShutString
import Derived.Sort.BigQuietIn
import Derived.Test.YthabffjgdhfbmaaGreatDoorProg
import Derived.Test.YthabffjgdhfbmaaGreatDoorJk1
import Derived.Test.YthabffjgdhfbmaaGreatDoorJk2
import Derived.Test.YthabffjgdhfbmaaGreatDoorJk3
import Derived.Test.YthabffjgdhfbmaaGreatDoorJk4
import Derived.Test.YthabffjgdhfbmaaGreatDoorJk5
import Derived.Test.YthabffjgdhfbmaaGreatDoorJk6
import Derived.Test.YthabffjgdhfbmaaGreatDoorJk7
import Derived.Test.YthabffjgdhfbmaaGreatDoorJk8
import Derived.Test.YthabffjgdhfbmaaGreatDoorJk9
import Derived.Test.YthabffjgdhfbmaaGreatDoorJk10
import Derived.Test.YthabffjgdhfbmaaGreatDoorJk11
set_option maxRecDepth 100000
set_option maxHeartbeats 32000000
set_option linter.unusedVariables false
namespace Go.Proofs.YthabffjgdhfbmaaGreatDoor
open Go.RowKit
def byteV (b : UInt8) : Value := Value.int .u8 (b.toNat : Int)
def bufC (j k n : Nat) : Array Value := ((List.replicate j (0 : UInt8) ++ low k n).map byteV).toArray
def bufM (j k n : Nat) : Array Value := ((List.replicate j (0 : UInt8) ++ 45 :: low k n).map byteV).toArray
theorem buf0 (n : Nat) : bufC 20 0 n = #[Value.int IntKind.u8 0, Value.int IntKind.u8 0, Value.int IntKind.u8 0, Value.int IntKind.u8 0, Value.int IntKind.u8 0, Value.int IntKind.u8 0, Value.int IntKind.u8 0, Value.int IntKind.u8 0, Value.int IntKind.u8 0, Value.int IntKind.u8 0, Value.int IntKind.u8 0, Value.int IntKind.u8 0, Value.int IntKind.u8 0, Value.int IntKind.u8 0, Value.int IntKind.u8 0, Value.int IntKind.u8 0, Value.int IntKind.u8 0, Value.int IntKind.u8 0, Value.int IntKind.u8 0, Value.int IntKind.u8 0] := by
 simp [bufC, low, List.replicate, byteV]
theorem set_last (j : Nat) (l : List UInt8) (c : UInt8) : (List.replicate (j + 1) (0 : UInt8) ++ l).set j c = List.replicate j 0 ++ c :: l := by
 rw [List.replicate_succ', List.append_assoc, List.set_append_right _ _ (by simp)]
 simp
theorem buf_set (j k n m : Nat) (hm : m = n / 10 ^ k) : (bufC (j + 1) k n).setIfInBounds j (Value.int .u8 (48 + (m : Int) % 10)) = bufC j (k + 1) n := by
 have e : Value.int .u8 (48 + (m : Int) % 10) = byteV (dig (n / 10 ^ k)) := by
  unfold byteV; rw [dig_toNat, ← hm]; congr 1
 unfold bufC
 rw [e, List.setIfInBounds_toArray, ← List.map_set, set_last]; rfl
theorem bufM_set (j k n : Nat) : (bufC (j + 1) k n).setIfInBounds j (Value.int .u8 45) = bufM j k n := by
 have e : Value.int .u8 45 = byteV 45 := rfl
 unfold bufC bufM
 rw [e, List.setIfInBounds_toArray, ← List.map_set, set_last]
theorem buf_at (j k n : Nat) : (bufC (j + 1) k n)[j]? = some (Value.int .u8 0) := by
 unfold bufC
 simp [List.getElem?_append_left, byteV]
theorem row_tail (j : Nat) (l : List UInt8) (i : Nat) (hi : i < l.length) : ((List.replicate j (0 : UInt8) ++ l).map byteV).toArray[j + i]? = some (Value.int .u8 ((l[i]).toNat : Int)) := by
 simp [List.getElem?_append_right, byteV, List.getElem?_eq_getElem hi]
theorem bufC_tail (j k n i : Nat) (hi : i < (low k n).length) : (bufC j k n)[j + i]? = some (Value.int .u8 (((low k n)[i]).toNat : Int)) := row_tail j _ i hi
theorem bufM_tail (j k n i : Nat) (hi : i < (45 :: low k n).length) : (bufM j k n)[j + i]? = some (Value.int .u8 (((45 :: low k n)[i]).toNat : Int)) := row_tail j _ i hi
theorem alen : Tryz.prog.arrayLen 193 = 20 := by kernel_rfl
theorem aund : Tryz.prog.underlying 193 = some (.array (Tryz.prog.arrayLen 193) (Tryz.prog.elem 193)) := by kernel_rfl
theorem asz (w : World) : (Go.sizeOf (Tryz.prog.elem 193)).run Tryz.prog w = .ok 1 w := by kernel_rfl
theorem slice_tail (b i : Nat) (hi : i < 20) (w : World) : (Instr.sliceAt 193 (.pointer (some ⟨b, 0, none⟩)) (some (.int .i64 (i : Int))) none none).run Tryz.prog w = .ok (.slice (some ⟨b, i, none⟩) (20 - i) (20 - i)) w := by
 rw [run_sliceAt_array_l w 193 _ aund .i64 (i : Int) (by omega) (by rw [alen]; omega), asz, alen]
 simp only [Result.andThen, slicedAt, Int.toNat_natCast]
 rw [if_neg (by omega)]
 simp [Addr.add]
 intro h; omega
theorem taddr_add (b j i : Nat) : Addr.add ⟨b, j, none⟩ i = ⟨b, j + i, none⟩ := by
 unfold Addr.add
 by_cases h : i = 0
 · subst h; simp
 · simp [h]
theorem conv_C (w : World) (j k n : Nat) (h : j + k = 20) :
 (convert 23 9 (.slice (some ⟨w.heap.size, j, none⟩) (20 - j) (20 - j))).run Tryz.prog (w.alloc (.cells (bufC j k n) 193)) = .ok (.string ⟨(low k n).toArray⟩) (w.alloc (.cells (bufC j k n) 193)) := by
 have := run_convert_bytes_back (P := Tryz.prog) (w.alloc (.cells (bufC j k n) 193)) 23 9 5 ⟨w.heap.size, j, none⟩ (20 - j) (low k n) Tryz.underlying23 Tryz.underlying5 Tryz.underlying9 (fun i hi => by
  rw [taddr_add]
  simp [bufC_tail j k n i hi])
 rw [low_length, show k = 20 - j by omega] at this
 rw [show k = 20 - j by omega]
 exact this
theorem conv_M (w : World) (j k n : Nat) (h : j + k = 19) :
 (convert 23 9 (.slice (some ⟨w.heap.size, j, none⟩) (20 - j) (20 - j))).run Tryz.prog (w.alloc (.cells (bufM j k n) 193)) = .ok (.string ⟨(45 :: low k n).toArray⟩) (w.alloc (.cells (bufM j k n) 193)) := by
 have := run_convert_bytes_back (P := Tryz.prog) (w.alloc (.cells (bufM j k n) 193)) 23 9 5 ⟨w.heap.size, j, none⟩ (20 - j) (45 :: low k n) Tryz.underlying23 Tryz.underlying5 Tryz.underlying9 (fun i hi => by
  rw [taddr_add]
  have := bufM_tail j k n i hi
  simp [this])
 rw [List.length_cons, low_length, show k + 1 = 20 - j by omega] at this
 exact this
theorem pow19 {q : Nat} (hn : (q : Int) ≤ 9223372036854775808) : q / 10 ^ 19 = 0 := by
 apply Nat.div_eq_of_lt
 have : (10 : Nat) ^ 19 = 10000000000000000000 := by decide
 rw [this]; omega
theorem text_end {a : Int} {q k : Nat} (hq : a.natAbs = q) (h1 : q / 10 ^ (k + 1) = 0) (h3 : k = 0 ∨ q / 10 ^ k ≠ 0) (hk : k ≤ 18) :
 (a < 0 → textL a = 45 :: low (k + 1) q) ∧ (0 ≤ a → textL a = low (k + 1) q) := by
 have := low_dec k q 18 h1 h3 hk
 rw [this, ← hq]
 exact ⟨textL_neg, textL_pos⟩
theorem ret_s {l m : List UInt8} (h : m = l) : Ending.returned (.string ⟨l.toArray⟩) = .returned (.string ⟨m.toArray⟩) := by rw [h]
theorem btext_any (a : Int) (w : World) (ha : -9223372036854775808 ≤ a ∧ a ≤ 9223372036854775807) :
 Calls Tryz.prog 88 #[.int .i64 a] w fun e w' => e = .returned (.string ⟨(textL a).toArray⟩) ∧ Below w.heap.size w w' := by
 have hn : (a.natAbs : Int) ≤ 9223372036854775808 := by omega
 go_enter Tryz.func88, Tryz.ntmps88
 go_wp2_with fail
 refine (size_any a _ ha).mono ?_
 rintro e w' ⟨rfl, rfl⟩
 generalize hq : a.natAbs = q at *
 have hq' : Hid _ := hq
 clear hq
 go_wp2
 go_loopw [4, 5, 8] (fun u v i wx => ∃ j k m : Nat, u = .int .i64 ((j : Int) + 1) ∧ v = .int .u64 (m : Int) ∧ i = .int .i64 (k : Int) ∧ j + k ≤ 19 ∧ 19 ≤ j + k ∧ m ≤ q ∧ Hid (m = q / 10 ^ k) ∧ Hid (k = 0 ∨ q / 10 ^ k ≠ 0) ∧ wx = w.alloc (.cells (bufC (j + 1) k q) 193)) (fun _ _ i _ => 19 - (intOf i).toNat)
 case atStart => exact ⟨19, 0, q, rfl, rfl, rfl, by omega, by omega, by omega, by show _ = _; simp, .inl rfl, by rw [buf0]⟩
 case round =>
  obtain ⟨j, k, m, rfl, rfl, rfl, h1, h2, hmq, hm, h3, rfl⟩ := hrel
  by_cases h0 : (k : Int) < 19
  · have hcell : (w.alloc (.cells (bufC (j + 1) k q) 193)).cell? ⟨w.heap.size, j, none⟩ = some (.int .u8 0) := by
     simp [buf_at]
    have hset := buf_set j k q m hm.out
    have hdm : Hid (m / 10 = q / 10 ^ (k + 1)) := by show _ = _; rw [hm.out, Nat.div_div_eq_div_mul, Nat.pow_succ]
    obtain ⟨i, rfl⟩ : ∃ i, j = i + 1 := ⟨j - 1, by omega⟩
    have hat : (w.alloc (.cells (bufC (i + 1) (k + 1) q) 193)).cell? ⟨w.heap.size, i, none⟩ = some (.int .u8 0) := by
     simp [buf_at]
    have hset2 := bufM_set i (k + 1) q
    by_cases hz : (m : Int) / 10 = 0
    · have hend := text_end hq'.out (show q / 10 ^ (k + 1) = 0 by rw [← hdm.out]; omega) h3.out (by omega)
      have HE : Hid _ := hend
      clear hend
      by_cases hs : a < 0
      · have hsl := fun wx => slice_tail w.heap.size i (by omega) wx
        have hcv := conv_M w i (k + 1) q (by omega)
        go_wp2
        go_ret
        exact ⟨ret_s (HE.out.1 hs), (Below.refl _ _).alloc (Nat.le_refl _) _⟩
      · have hs : 0 ≤ a := by omega
        have hsl := fun wx => slice_tail w.heap.size (i + 1) (by omega) wx
        simp only [Int.natCast_add, Int.natCast_one] at hsl
        have hcv := conv_C w (i + 1) (k + 1) q (by omega)
        rw [show 20 - (i + 1) = 19 - i by omega] at hcv
        go_wp2
        go_ret
        exact ⟨ret_s (HE.out.2 hs), (Below.refl _ _).alloc (Nat.le_refl _) _⟩
    · go_wp2
      go_roundw
      case rel => exact ⟨i, k + 1, m / 10, by go_num, by go_num, by go_num, by omega, by omega, by omega, hdm, .inr (by rw [← hdm.out]; omega), rfl⟩
      case measure => simp [intOf]; omega
  · exfalso
    have hk : k = 19 := by omega
    subst hk
    rcases h3.out with h | h
    · omega
    · exact h (pow19 hn)
def ratT (n d : Int) : ByteArray := (ByteArray.mk (textL n).toArray ++ ByteArray.mk #[47]) ++ ByteArray.mk (textL d).toArray
theorem ratText_any (n d : Int) (w : World) (hn : I64 n) (hd : I64 d) :
 Calls Tryz.prog 89 #[rv n d] w fun e w' => e = .returned (.string (ratT n d)) ∧ Below w.heap.size w w' := by
 have fn : Hid (∀ w, Calls Tryz.prog 88 #[.int .i64 n] w fun e w' => e = .returned (.string ⟨(textL n).toArray⟩) ∧ Below w.heap.size w w') := fun w => btext_any n w hn
 have fd : Hid (∀ w, Calls Tryz.prog 88 #[.int .i64 d] w fun e w' => e = .returned (.string ⟨(textL d).toArray⟩) ∧ Below w.heap.size w w') := fun w => btext_any d w hd
 have l1 := (textL_len n).2
 have l2 := (textL_len d).2
 have H : Hid (ratT n d = (ByteArray.mk (textL n).toArray ++ ByteArray.mk #[47]) ++ ByteArray.mk (textL d).toArray) := rfl
 generalize ratT n d = r at *
 generalize textL n = a at *
 generalize textL d = b at *
 clear hn hd
 have g : Below w.heap.size w (w.alloc (.cells #[.int .i64 n, .int .i64 d] 67)) := (Below.refl _ _).alloc (Nat.le_refl _) _
 have G : Hid _ := g
 have c0 : (w.alloc (.cells #[.int .i64 n, .int .i64 d] 67)).cell? ⟨w.heap.size, 0, none⟩ = some (.int .i64 n) := by simp
 have c1 : (w.alloc (.cells #[.int .i64 n, .int .i64 d] 67)).cell? ⟨w.heap.size, 1, none⟩ = some (.int .i64 d) := by simp
 have k0 := cell_regrown c0
 have k1 := cell_regrown c1
 clear g c0 c1
 go_enter Tryz.func89, Tryz.ntmps89
 go_wp2_with fail
 generalize w.alloc (.cells #[.int .i64 n, .int .i64 d] 67) = w1 at *
 refine wp_region_quiet_below (by kernel_rfl) (by kernel_rfl) ?_
 repeat (go_big_quiet_step (first
  | (go_at_call 88; first | with_reducible exact Calls.regrown_of (fn.out _) | with_reducible exact Calls.regrown_of (fd.out _))))
 refine wpQuiet_nil ?_
 intro _ hw'
 obtain ⟨⟨dq, osq⟩, hw''⟩ := hw'
 subst hw''
 clear k0 k1 fn fd
 have B : Hid (Below w.heap.size w (Sort.grow (redrawn w1 dq) osq)) := below_trans G.out (below_regrown w1 dq osq)
 generalize Sort.grow (redrawn w1 dq) osq = w2 at *
 go_wp2
 go_ret
 rw [H.out]
 exact ⟨rfl, B.out⟩
theorem textL_no_stroke (a : Int) : (47 : UInt8) ∉ textL a := by
 have hd : (47 : UInt8) ∉ dec 18 a.natAbs := fun h => by
  have := (dec_digits 18 a.natAbs 47 h).1
  exact absurd this (by decide)
 unfold textL
 split
 · simp; exact hd
 · exact hd
theorem ratT_list (n d : Int) : (ratT n d).data.toList = textL n ++ 47 :: textL d := by
 unfold ratT
 simp [ByteArray.data_append]
theorem cut_at (s : ByteArray) (u v : List UInt8) (h : s.data.toList = u ++ 47 :: v) (hu : (47 : UInt8) ∉ u) : (cutU s).data.toList = u ∧ (cutV s).data.toList = v := by
 rcases stroke_ways s with ⟨h1, h2⟩ | ⟨i, h1, h2, h3, h4⟩
 · rw [h] at h2; simp at h2
 · have hi : i = u.length := by
    rcases Nat.lt_trichotomy i u.length with k | k | k
    · exfalso
      rw [h, List.getElem?_append_left k] at h3
      exact hu (List.mem_iff_getElem?.2 ⟨i, h3⟩)
    · exact k
    · exfalso
      have := h4 u.length k
      rw [h] at this
      simp at this
   have hne : ¬ Lib.indexByte s.data.toList 47 = -1 := by rw [h1]; omega
   have et : (Lib.indexByte s.data.toList 47).toNat = u.length := by rw [h1, hi]; rfl
   unfold cutU cutV
   rw [if_neg hne, if_neg hne, et]
   have hl : s.size = (u ++ 47 :: v).length := by rw [← h]; simp
   constructor
   · rw [Lib.extract_eq]
     simp only [h, Nat.sub_zero, List.drop_zero]
     simp
   · rw [Lib.extract_eq]
     simp only [h, hl]
     simp
     exact List.take_of_length_le (by omega)
theorem rd_text {n d : Int} (hn : I64 n) (hd : I64 d) : (rightB n d = true ∧ rdE (ratT n d) = 0 ∧ rdN (ratT n d) = n ∧ rdD (ratT n d) = d) ∨ (rightB n d = false ∧ rdE (ratT n d) = 1) := by
 obtain ⟨c1, c2⟩ := cut_at (ratT n d) _ _ (ratT_list n d) (textL_no_stroke n)
 have r1 := read_text hn
 have r2 := read_text hd
 unfold rdN rdD rdE
 rw [c1, c2, r1.1, r1.2, r2.1, r2.2]
 cases h : rightB n d
 · right; simp
 · left; simp
def hexD (n : Nat) : UInt8 := if n < 10 then UInt8.ofNat (48 + n) else UInt8.ofNat (87 + n)
def hexW : List Nat → Wd
 | [] => []
 | b :: r => hexD (b / 16) :: hexD (b % 16) :: hexW r
def ratW (n d : Int) : Wd := textL n ++ 47 :: textL d
def joinW : List Wd → List UInt8
 | [] => []
 | w :: r => w ++ r.flatMap fun x => 32 :: x
def lineB (ws : List Wd) : List UInt8 := joinW ws ++ [10]
def fieldW (f : Fd) : List Wd := [kFie, f.nm, textL f.pl, f.kd, textL f.wd, ratW f.sn f.sd, ratW f.on f.od, f.un]
def headW (d : Dv) : List (List Wd) := [[kDev, d.nm], [kSta, hexW [d.st.toNat]], [kEsc, hexW [d.es.toNat], hexW [d.mx.toNat]], [kSiz, textL d.sz], [kSum, d.sm]]
def tailW (d : Dv) : List (List Wd) := [[kReq, hexW d.rq], [kPol, textL d.po], [kTim, textL d.ti], [kRet, textL d.re], [kAge, textL d.ag]]
def linesW (d : Dv) : List (List Wd) := headW d ++ (d.fs.map fieldW ++ tailW d)
def bytesL (L : List (List Wd)) : List UInt8 := L.flatMap lineB
def textD (d : Dv) : List UInt8 := bytesL (linesW d)
def nrL : Nat → List (List Wd) → List Ln
 | _, [] => []
 | l, ws :: r => (l, ws) :: nrL (l + 1) r
theorem nrL_app (A B : List (List Wd)) : ∀ l, nrL l (A ++ B) = nrL l A ++ nrL (l + A.length) B := by
 induction A with
 | nil => intro l; simp [nrL]
 | cons a r ih => intro l; simp only [List.cons_append, nrL, ih, List.length_cons]; rw [show l + 1 + r.length = l + (r.length + 1) by omega]
theorem bytesL_app (A B : List (List Wd)) : bytesL (A ++ B) = bytesL A ++ bytesL B := by unfold bytesL; exact List.flatMap_append
def okC (c : UInt8) : Bool := decide (33 ≤ c.toNat ∧ c.toNat ≤ 126 ∧ ¬ c.toNat = 35)
def okW (w : Wd) : Bool := !w.isEmpty && w.all okC
def okL (ws : List Wd) : Bool := !ws.isEmpty && ws.all okW
theorem okC_i {c : UInt8} (h : okC c = true) : 33 ≤ c.toNat ∧ c.toNat ≤ 126 ∧ ¬ c.toNat = 35 := of_decide_eq_true h
theorem okW_i {w : Wd} (h : okW w = true) : ¬ w = [] ∧ ∀ c ∈ w, okC c = true := by
 unfold okW at h
 simp only [Bool.and_eq_true, Bool.not_eq_true', List.all_eq_true] at h
 exact ⟨fun e => by rw [e] at h; simp at h, h.2⟩
theorem okW_of {w : Wd} (h : ¬ w = []) (h2 : ∀ c ∈ w, okC c = true) : okW w = true := by
 unfold okW
 simp only [Bool.and_eq_true, Bool.not_eq_true', List.all_eq_true]
 exact ⟨by cases w with | nil => exact absurd rfl h | cons a b => rfl, h2⟩
theorem okL_i {ws : List Wd} (h : okL ws = true) : ¬ ws = [] ∧ ∀ w ∈ ws, okW w = true := by
 unfold okL at h
 simp only [Bool.and_eq_true, Bool.not_eq_true', List.all_eq_true] at h
 exact ⟨fun e => by rw [e] at h; simp at h, h.2⟩
theorem okL_of {ws : List Wd} (h : ¬ ws = []) (h2 : ∀ w ∈ ws, okW w = true) : okL ws = true := by
 unfold okL
 simp only [Bool.and_eq_true, Bool.not_eq_true', List.all_eq_true]
 exact ⟨by cases ws with | nil => exact absurd rfl h | cons a b => rfl, h2⟩
theorem okC_ne {c : UInt8} (h : okC c = true) : ¬ c = 10 ∧ ¬ c = 32 ∧ 32 ≤ c.toNat ∧ c.toNat ≤ 126 := by
 have k := okC_i h
 refine ⟨fun e => ?_, fun e => ?_, by omega, k.2.1⟩ <;> subst e <;> simp at k
theorem scan_word (l : Nat) (ws : List Wd) (w : Wd) (hw : ∀ c ∈ w, okC c = true) : ∀ (u : Wd) (r : List UInt8), scanL l ws u (w ++ r) = scanL l ws (u ++ w) r := by
 induction w with
 | nil => intro u r; simp
 | cons c w ih =>
  intro u r
  obtain ⟨h1, h2, h3⟩ := okC_ne (hw c (by simp))
  rw [List.cons_append, scan_byte l ws u (w ++ r) h1 h2 h3, ih (fun x hx => hw x (by simp [hx])), List.append_assoc]
  rfl
theorem flush_at {ws : List Wd} {w : Wd} (h : ¬ w = []) : flushW ws w = ws ++ [w] := by unfold flushW; rw [if_neg h]
theorem scan_tail (l : Nat) (ws : List Wd) (hws : ∀ w ∈ ws, okW w = true) : ∀ (acc : List Wd) (u : Wd) (hu : ¬ u = []) (r : List UInt8),
 scanL l acc u (ws.flatMap (fun x => 32 :: x) ++ 10 :: r) = (scanL (l + 1) [] [] r).map (fun t => closeL l (acc ++ u :: ws) ++ t) := by
 induction ws with
 | nil =>
  intro acc u hu r
  rw [List.flatMap_nil, List.nil_append, scan_line, flush_at hu]
 | cons w ws ih =>
  intro acc u hu r
  obtain ⟨h1, h2⟩ := okW_i (hws w (by simp))
  rw [List.flatMap_cons, List.cons_append, List.cons_append, scan_blank, flush_at hu, List.append_assoc, scan_word l _ w h2, List.nil_append, ih (fun x hx => hws x (by simp [hx])) _ w h1, List.append_assoc]
  rfl
theorem counts_ok {ws : List Wd} (h : okL ws = true) : countsB ws = true := by
 obtain ⟨h1, h2⟩ := okL_i h
 cases ws with
 | nil => exact absurd rfl h1
 | cons w ws =>
  obtain ⟨h3, h4⟩ := okW_i (h2 w (by simp))
  cases w with
  | nil => exact absurd rfl h3
  | cons c w =>
   have k := okC_i (h4 c (by simp))
   have : ¬ c = 35 := fun e => by subst e; simp at k
   simp [countsB, this]
theorem scan_one (l : Nat) (ws : List Wd) (h : okL ws = true) (r : List UInt8) : scanL l [] [] (lineB ws ++ r) = (scanL (l + 1) [] [] r).map (fun t => (l, ws) :: t) := by
 have hc := counts_ok h
 obtain ⟨h1, h2⟩ := okL_i h
 cases ws with
 | nil => exact absurd rfl h1
 | cons w ws =>
  obtain ⟨h3, h4⟩ := okW_i (h2 w (by simp))
  unfold lineB joinW
  rw [List.append_assoc, List.append_assoc, scan_word l [] w h4, List.nil_append, List.singleton_append, scan_tail l ws (fun x hx => h2 x (by simp [hx])) [] w h3, List.nil_append]
  unfold closeL
  rw [if_pos hc]
  rfl
theorem scan_all (L : List (List Wd)) (h : ∀ ws ∈ L, okL ws = true) : ∀ (l : Nat) (r : List UInt8), scanL l [] [] (bytesL L ++ r) = (scanL (l + L.length) [] [] r).map (fun t => nrL l L ++ t) := by
 induction L with
 | nil =>
  intro l r
  show scanL l [] [] r = (scanL l [] [] r).map (fun t => [] ++ t)
  cases scanL l [] [] r <;> rfl
 | cons ws L ih =>
  intro l r
  show scanL l [] [] ((lineB ws ++ bytesL L) ++ r) = _
  rw [List.append_assoc, scan_one l ws (h ws (by simp)), ih (fun x hx => h x (by simp [hx])), map_map', List.length_cons, show l + 1 + L.length = l + (L.length + 1) by omega]
  rfl
theorem scan_text (L : List (List Wd)) (h : ∀ ws ∈ L, okL ws = true) : scanL 1 [] [] (bytesL L) = .ok (nrL 1 L) := by
 have k := scan_all L h 1 []
 rw [List.append_nil] at k
 rw [k]
 show Except.ok (nrL 1 L ++ []) = _
 rw [List.append_nil]
theorem lex_text (L : List (List Wd)) (h : ∀ ws ∈ L, okL ws = true) (hl : (bytesL L).length ≤ 4000) : lexRows (bytesL L) = nrL 1 L ∧ lexLine (bytesL L) = 0 ∧ lexErr (bytesL L) = 0 := by
 unfold lexRows lexLine lexErr
 rw [if_pos hl, if_pos hl, if_pos hl, scan_text L h]
 exact ⟨rfl, rfl, rfl⟩
theorem nameC_ok {c : UInt8} (h : nameC c = true) : okC c = true := by
 have k : (97 ≤ c.toNat ∧ c.toNat ≤ 122) ∨ (48 ≤ c.toNat ∧ c.toNat ≤ 57) := of_decide_eq_true h
 exact decide_eq_true (by omega)
theorem name_le12 {w : Wd} (h : nameB w = true) : w.length ≤ 12 := by
 unfold nameB at h
 rw [Bool.and_eq_true] at h
 exact of_decide_eq_true h.1
theorem name_ok {w : Wd} (h : nameB w = true) : okW w = true := by
 unfold nameB at h
 rw [Bool.and_eq_true] at h
 cases w with
 | nil => exact absurd h.2 (by simp)
 | cons c r =>
  have h2 : (lowB c && allN (c :: r)) = true := h.2
  rw [Bool.and_eq_true] at h2
  exact okW_of (by simp) fun x hx => nameC_ok (List.all_eq_true.1 h2.2 x hx)
theorem half_hexF : ∀ n : Fin 16, halfC (hexD n.1).toNat = (n.1 : Int) ∧ okC (hexD n.1) = true := by decide +kernel
theorem half_hex {n : Nat} (h : n < 16) : halfC (hexD n).toNat = (n : Int) ∧ okC (hexD n) = true := half_hexF ⟨n, h⟩
theorem hexO_hexW (bs : List Nat) (h : AllBytes bs) : hexO (hexW bs) = some bs := by
 induction bs with
 | nil => rfl
 | cons b r ih =>
  have hb := h b (by simp)
  have h1 := (half_hex (n := b / 16) (by omega)).1
  have h2 := (half_hex (n := b % 16) (by omega)).1
  show hexO (hexD (b / 16) :: hexD (b % 16) :: hexW r) = _
  rw [hexO, h1, h2, if_pos (by omega), ih (fun x hx => h x (by simp [hx]))]
  show some ((16 * ((b / 16 : Nat) : Int) + ((b % 16 : Nat) : Int)).toNat :: r) = _
  rw [show (16 * ((b / 16 : Nat) : Int) + ((b % 16 : Nat) : Int)).toNat = b by omega]
theorem hexW_ne {bs : List Nat} (h : ¬ bs = []) : ¬ hexW bs = [] := by
 cases bs with
 | nil => exact absurd rfl h
 | cons b r => simp [hexW]
theorem hexR_hexW {bs : List Nat} (h : AllBytes bs) (hn : ¬ bs = []) : hexR (hexW bs) = some bs := by
 unfold hexR
 rw [if_neg (hexW_ne hn), hexO_hexW bs h]
theorem hexW_ok {bs : List Nat} (h : AllBytes bs) (hn : ¬ bs = []) : okW (hexW bs) = true := by
 refine okW_of (hexW_ne hn) ?_
 clear hn
 induction bs with
 | nil => intro c hc; cases hc
 | cons b r ih =>
  intro c hc
  have hb := h b (by simp)
  rcases List.mem_cons.1 hc with e | hc
  · rw [e]; exact (half_hex (by omega)).2
  · rcases List.mem_cons.1 hc with e | hc
    · rw [e]; exact (half_hex (by omega)).2
    · exact ih (fun x hx => h x (by simp [hx])) c hc
theorem hexW_len (bs : List Nat) : (hexW bs).length = 2 * bs.length := by
 induction bs with
 | nil => rfl
 | cons b r ih => simp only [hexW, List.length_cons, ih]; omega
theorem octO_hexW {b : Nat} (h : b < 256) : octO (hexW [b]) = some b := by
 unfold octO
 rw [hexR_hexW (fun c hc => by rw [List.mem_singleton.1 hc]; exact h) (by simp)]
theorem textL_okC (a : Int) : ∀ c ∈ textL a, okC c = true := by
 have hd : ∀ c ∈ dec 18 a.natAbs, okC c = true := fun c hc => by
  have := dec_digits 18 a.natAbs c hc
  exact decide_eq_true (by omega)
 unfold textL
 split
 · intro c hc
   rcases List.mem_cons.1 hc with e | hc
   · rw [e]; rfl
   · exact hd c hc
 · exact hd
theorem textL_ok (a : Int) : okW (textL a) = true := okW_of (by intro e; have := (textL_len a).1; rw [e] at this; simp at this) (textL_okC a)
theorem ratW_ok (n d : Int) : okW (ratW n d) = true := by
 refine okW_of (by unfold ratW; simp) fun c hc => ?_
 rcases List.mem_append.1 hc with h | h
 · exact textL_okC n c h
 · rcases List.mem_cons.1 h with e | h
   · rw [e]; rfl
   · exact textL_okC d c h
theorem ratW_len (n d : Int) : (ratW n d).length ≤ 41 := by
 have h1 := (textL_len n).2
 have h2 := (textL_len d).2
 unfold ratW
 rw [List.length_append, List.length_cons]
 omega
theorem txt_ratW (n d : Int) : txt (ratW n d) = ratT n d := by
 apply ByteArray.ext
 apply Array.toList_inj.1
 rw [ratT_list]
 rfl
theorem fr_ratW {n d : Int} (hn : I64 n) (hd : I64 d) (h : rightB n d = true) : frB (ratW n d) = true ∧ frN (ratW n d) = n ∧ frD (ratW n d) = d := by
 rcases rd_text hn hd with ⟨_, h1, h2, h3⟩ | ⟨h1, _⟩
 · have e : frB (ratW n d) = true := by unfold frB; rw [txt_ratW, h1]; rfl
   obtain ⟨_, k1, k2⟩ := fr_yes e
   rw [txt_ratW] at k1 k2
   exact ⟨e, k1.symm.trans h2, k2.symm.trans h3⟩
 · rw [h] at h1; cases h1
theorem num_textL {n lo hi : Int} (hn : I64 n) (h1 : lo ≤ n) (h2 : n ≤ hi) : numB (textL n) lo hi = true ∧ readV (textL n) = n := by
 have k := read_text hn
 refine ⟨?_, k.1⟩
 unfold numB
 rw [k.1, k.2]
 exact decide_eq_true ⟨rfl, h1, h2⟩
theorem tab_names : tab.all (fun u => nameB u.nm.data.toList) = true := by decide +kernel
theorem unit_name {w : Wd} (h : isU (txt w) = true) : nameB w = true := by
 unfold isU at h
 obtain ⟨u, hu, he⟩ := List.any_eq_true.1 h
 have k := List.all_eq_true.1 tab_names u hu
 rw [of_decide_eq_true he] at k
 exact k
theorem kind_name {w : Wd} {n : Int} (h : rgtB (kindI (txt w)) n = true) : nameB w = true ∧ 1 ≤ n ∧ n ≤ 8 := by
 have e : ∀ k : ByteArray, txt w = k → w = k.data.toList := fun k hk => by rw [← hk]; rfl
 rcases kind_cases (txt w) with h1 | h1 | h1 | h1 | h1 | h1 | h1
 all_goals first
  | (rw [kind_no h1] at h; simp [rgtB] at h)
  | (have h2 := e _ h1
     rw [h1] at h
     refine ⟨by rw [h2]; decide, ?_⟩
     first | rw [kind_be] at h | rw [kind_le] at h | rw [kind_sbe] at h | rw [kind_sle] at h | rw [kind_bcd] at h | rw [kind_dec] at h
     simp [rgtB] at h
     omega)
theorem sum_name {w : Wd} (h : isSum (txt w) = true) : nameB w = true := by
 unfold isSum at h
 rcases which_cases (txt w) with ⟨k, hk, e, _⟩ | ⟨h1, _⟩
 · have e2 : w = (nameN k).data.toList := by rw [← e]; rfl
   rw [e2]
   match k, hk with
   | 0, _ => decide +kernel
   | 1, _ => decide +kernel
   | 2, _ => decide +kernel
   | 3, _ => decide +kernel
   | 4, _ => decide +kernel
   | 5, _ => decide +kernel
   | 6, _ => decide +kernel
   | 7, _ => decide +kernel
   | 8, _ => decide +kernel
 · rw [h1] at h; exact absurd h (by decide)
structure Snd (d : Dv) : Prop where
 ck : ckE d = 0
 i64 : ∀ f ∈ d.fs, I64 f.pl ∧ I64 f.wd ∧ I64 f.sn ∧ I64 f.sd ∧ I64 f.on ∧ I64 f.od
 rq : AllBytes d.rq
structure FdOk (f : Fd) : Prop where
 nm : nameB f.nm = true
 kd : nameB f.kd = true
 un : nameB f.un = true
 pl : 0 ≤ f.pl ∧ f.pl ≤ 31
 wd : 1 ≤ f.wd ∧ f.wd ≤ 8
 s : I64 f.sn ∧ I64 f.sd ∧ rightB f.sn f.sd = true
 o : I64 f.on ∧ I64 f.od ∧ rightB f.on f.od = true
structure DvOk (d : Dv) : Prop where
 nm : nameB d.nm = true
 sm : nameB d.sm = true
 st : 0 ≤ d.st ∧ d.st ≤ 255
 es : 0 ≤ d.es ∧ d.es ≤ 255
 mx : 0 ≤ d.mx ∧ d.mx ≤ 255
 sz : 1 ≤ d.sz ∧ d.sz ≤ 32
 po : 1 ≤ d.po ∧ d.po ≤ 1000
 ti : 1 ≤ d.ti ∧ d.ti ≤ 1000
 re : 0 ≤ d.re ∧ d.re ≤ 10
 ag : 1 ≤ d.ag ∧ d.ag ≤ 1000
 rq : 1 ≤ d.rq.length ∧ d.rq.length ≤ 16
 rb : AllBytes d.rq
 fn : d.fs.length ≤ 8
 fs : ∀ f ∈ d.fs, FdOk f
theorem fd_ok {sz : Int} {f : Fd} (h : fldE sz f = 0) (hs : sz ≤ 32) (hi : I64 f.pl ∧ I64 f.wd ∧ I64 f.sn ∧ I64 f.sd ∧ I64 f.on ∧ I64 f.od) : FdOk f := by
 rw [fldE_form] at h
 by_cases h1 : gdK f = true
 · by_cases h2 : gdP sz f = true
   · by_cases h3 : gdR f = true
     · by_cases h4 : gdU f = true
       · unfold gdK at h1
         unfold gdP at h2
         unfold gdR at h3
         unfold gdU at h4
         simp only [Bool.and_eq_true, decide_eq_true_eq] at h1 h2 h3
         obtain ⟨k1, k2⟩ := kind_name h1.2
         exact ⟨h1.1, k1, unit_name h4, ⟨h2.1, by omega⟩, k2, ⟨hi.2.2.1, hi.2.2.2.1, h3.1⟩, ⟨hi.2.2.2.2.1, hi.2.2.2.2.2, h3.2⟩⟩
       · rw [if_pos h1, if_pos h2, if_pos h3, if_neg h4] at h; cases h
     · rw [if_pos h1, if_pos h2, if_neg h3] at h; cases h
   · rw [if_pos h1, if_neg h2] at h; cases h
 · rw [if_neg h1] at h; cases h
theorem inB_i {lo hi n : Int} (h : inB lo hi n = true) : lo ≤ n ∧ n ≤ hi := by
 unfold inB at h
 simpa only [Bool.and_eq_true, decide_eq_true_eq] using h
theorem Snd.ok {d : Dv} (h : Snd d) : DvOk d := by
 obtain ⟨⟨h1, h2⟩, h3, _, _, h6⟩ := ckE_zero.1 h.ck
 unfold gdN gd1 gd2 gd3 gd4 gd5 gd6 at h2
 simp only [Bool.and_eq_true] at h2
 obtain ⟨⟨a1, a2, a3⟩, a4, ⟨a5, a6, a7⟩, a8, a9, a10⟩ := h2
 have b4 := inB_i a4
 have b9 := inB_i a9
 have b10 := inB_i a10
 refine ⟨h1, sum_name h3, inB_i a1, inB_i a2, inB_i a3, b4, inB_i a5, inB_i a6, inB_i a8, inB_i a7, by omega, h.rq, by omega, fun f hf => ?_⟩
 exact fd_ok (((flds_zero d.sz d.fs []).1 h6).1 f hf).1 b4.2 (h.i64 f hf)
theorem FdOk.line {f : Fd} (h : FdOk f) : okL (fieldW f) = true := by
 refine okL_of (by simp [fieldW]) fun w hw => ?_
 simp only [fieldW, List.mem_cons, List.not_mem_nil, or_false] at hw
 rcases hw with e | e | e | e | e | e | e | e <;> subst e
 · decide
 · exact name_ok h.nm
 · exact textL_ok _
 · exact name_ok h.kd
 · exact textL_ok _
 · exact ratW_ok _ _
 · exact ratW_ok _ _
 · exact name_ok h.un
theorem byte_ok {n : Int} (h : 0 ≤ n ∧ n ≤ 255) : okW (hexW [n.toNat]) = true := hexW_ok (fun c hc => by rw [List.mem_singleton.1 hc]; omega) (by simp)
theorem okL_two {k w : Wd} (h : okW k = true) (h2 : okW w = true) : okL [k, w] = true := okL_of (by simp) fun x hx => by
 simp only [List.mem_cons, List.not_mem_nil, or_false] at hx
 rcases hx with e | e <;> subst e
 · exact h
 · exact h2
theorem okL_three {k w v : Wd} (h : okW k = true) (h2 : okW w = true) (h3 : okW v = true) : okL [k, w, v] = true := okL_of (by simp) fun x hx => by
 simp only [List.mem_cons, List.not_mem_nil, or_false] at hx
 rcases hx with e | e | e <;> subst e
 · exact h
 · exact h2
 · exact h3
theorem DvOk.lines {d : Dv} (h : DvOk d) : ∀ ws ∈ linesW d, okL ws = true := by
 intro ws hw
 rcases List.mem_append.1 hw with hw | hw
 · simp only [headW, List.mem_cons, List.not_mem_nil, or_false] at hw
   rcases hw with e | e | e | e | e <;> subst e
   · exact okL_two (by decide) (name_ok h.nm)
   · exact okL_two (by decide) (byte_ok h.st)
   · exact okL_three (by decide) (byte_ok h.es) (byte_ok h.mx)
   · exact okL_two (by decide) (textL_ok _)
   · exact okL_two (by decide) (name_ok h.sm)
 · rcases List.mem_append.1 hw with hw | hw
   · obtain ⟨f, hf, e⟩ := List.mem_map.1 hw
     subst e
     exact (h.fs f hf).line
   · simp only [tailW, List.mem_cons, List.not_mem_nil, or_false] at hw
     rcases hw with e | e | e | e | e <;> subst e
     · exact okL_two (by decide) (hexW_ok h.rb (by intro e; have := h.rq.1; rw [e] at this; simp at this))
     · exact okL_two (by decide) (textL_ok _)
     · exact okL_two (by decide) (textL_ok _)
     · exact okL_two (by decide) (textL_ok _)
     · exact okL_two (by decide) (textL_ok _)
theorem line_two (k w : Wd) : (lineB [k, w]).length = k.length + w.length + 2 := by simp [lineB, joinW]; omega
theorem line_three (k w v : Wd) : (lineB [k, w, v]).length = k.length + w.length + v.length + 3 := by simp [lineB, joinW]; omega
theorem FdOk.len {f : Fd} (h : FdOk f) : (lineB (fieldW f)).length ≤ 200 := by
 have e : (lineB (fieldW f)).length = 5 + f.nm.length + (textL f.pl).length + f.kd.length + (textL f.wd).length + (ratW f.sn f.sd).length + (ratW f.on f.od).length + f.un.length + 8 := by
  simp [lineB, joinW, fieldW, kFie]; omega
 have h1 := name_le12 h.nm
 have h2 := name_le12 h.kd
 have h3 := name_le12 h.un
 have h4 := (textL_len f.pl).2
 have h5 := (textL_len f.wd).2
 have h6 := ratW_len f.sn f.sd
 have h7 := ratW_len f.on f.od
 omega
theorem flds_len (fs : List Fd) (h : ∀ f ∈ fs, FdOk f) : (bytesL (fs.map fieldW)).length ≤ 200 * fs.length := by
 induction fs with
 | nil => simp [bytesL]
 | cons f r ih =>
  have h1 := (h f (by simp)).len
  have h2 := ih fun x hx => h x (by simp [hx])
  show (lineB (fieldW f) ++ bytesL (r.map fieldW)).length ≤ _
  rw [List.length_append, List.length_cons]
  omega
theorem DvOk.len {d : Dv} (h : DvOk d) : (textD d).length ≤ 3000 := by
 unfold textD linesW
 rw [bytesL_app, bytesL_app, List.length_append, List.length_append]
 have h1 := flds_len d.fs h.fs
 have h2 := h.fn
 have eh : (bytesL (headW d)).length = (lineB [kDev, d.nm]).length + ((lineB [kSta, hexW [d.st.toNat]]).length + ((lineB [kEsc, hexW [d.es.toNat], hexW [d.mx.toNat]]).length + ((lineB [kSiz, textL d.sz]).length + (lineB [kSum, d.sm]).length))) := by
  unfold bytesL headW
  simp only [List.flatMap_cons, List.flatMap_nil, List.append_nil, List.length_append]
 have et : (bytesL (tailW d)).length = (lineB [kReq, hexW d.rq]).length + ((lineB [kPol, textL d.po]).length + ((lineB [kTim, textL d.ti]).length + ((lineB [kRet, textL d.re]).length + (lineB [kAge, textL d.ag]).length))) := by
  unfold bytesL tailW
  simp only [List.flatMap_cons, List.flatMap_nil, List.append_nil, List.length_append]
 simp only [line_two, line_three, hexW_len] at eh et
 have n1 := name_le12 h.nm
 have n2 := name_le12 h.sm
 have r1 := h.rq.2
 have t1 := (textL_len d.sz).2
 have t2 := (textL_len d.po).2
 have t3 := (textL_len d.ti).2
 have t4 := (textL_len d.re).2
 have t5 := (textL_len d.ag).2
 simp only [kDev, kSta, kEsc, kSiz, kSum, kReq, kPol, kTim, kRet, kAge, List.length_cons, List.length_nil] at eh et
 omega
theorem lays166 : Lays.n166 Tryz.prog lays156_ren := { lays156 with }
theorem lays169 : Lays.n169 Tryz.prog lays156_ren := { lays156 with }
theorem lays167 : Lays.n167 Tryz.prog lays156_ren := { lays156 with f167 := Tryz.func87.trans (congrArg some (by kernel_rfl)), t5 := Tryz.underlying5, a5 := Tryz.isAgg5, z5 := Tryz.sizeOf5, v5 := Tryz.zeroValue5 }
theorem bxt : Builder.Extra Tryz.prog lays156_ren := {
 sizeBuilder := by kernel_rfl
 liesBuilder := by kernel_rfl
 t5 := Tryz.underlying5
 a5 := Tryz.isAgg5
 z5 := Tryz.sizeOf5
 v5 := Tryz.zeroValue5
 infoByte := by kernel_rfl
 cellsByte := by kernel_rfl
 sizeByte := by kernel_rfl
 neB5 := by decide }
def BldAt (B b : Nat) (l : List UInt8) (w : World) : Prop := Lib.IsBuilder 82 5 B b (Lib.byteCells l) w ∧ B ≤ w.heap.size
theorem builder_below {T e : TypeId} {B b : Nat} {p : Value} {bs : List Value} {w x : World} (h : Lib.BuilderAt T e B b p bs w) (hb : Below w.heap.size w x) : Lib.BuilderAt T e B b p bs x := by
 obtain ⟨h1, v, h2, h3, h4⟩ := h
 exact ⟨h1, v, (hb.block _ (Array.getElem?_eq_some_iff.1 h2).1).trans h2, own_below h3 hb, h4⟩
theorem BldAt.below {B b : Nat} {l : List UInt8} {w x : World} (h : BldAt B b l w) (hb : Below w.heap.size w x) : BldAt B b l x :=
 ⟨h.1.imp (fun k => builder_below k hb) (fun k => builder_below k hb), Nat.le_trans h.2 hb.size⟩
theorem BldAt.new (w : World) : BldAt w.heap.size w.heap.size [] (w.alloc (.cells #[.pointer none, .slice none 0 0] 82)) :=
 ⟨Lib.fresh_isBuilder _ _ w, by rw [World.size_alloc]; omega⟩
theorem cells_app (l m : List UInt8) : Lib.byteCells l ++ Lib.byteCells m = Lib.byteCells (l ++ m) := by unfold Lib.byteCells; simp
theorem bws_any (B b : Nat) (l : List UInt8) (s : ByteArray) (w : World) (h : BldAt B b l w) (hl : l.length ≤ 1000000000) (hs : s.size ≤ 1000000000) :
 Calls Tryz.prog 36 #[.pointer (some ⟨b, 0, none⟩), .string s] w fun e y => e = .returned (.tuple #[.int .i64 (s.size : Int), .nilIface]) ∧ BldAt B b (l ++ s.data.toList) y ∧ Below B w y := by
 refine (Any.Builder_WriteString lays166 bxt B b (Lib.byteCells l) s w h.1 (by rw [Lib.byteCells_length]; omega) h.2).mono ?_
 rintro e y ⟨rfl, h1, h2⟩
 refine ⟨rfl, ⟨.inr ?_, Nat.le_trans h.2 h2.size⟩, h2⟩
 rw [← cells_app]
 exact h1
theorem bwb_any (B b : Nat) (l : List UInt8) (c : UInt8) (w : World) (h : BldAt B b l w) (hl : l.length ≤ 1000000000) :
 Calls Tryz.prog 87 #[.pointer (some ⟨b, 0, none⟩), .int .u8 (c.toNat : Int)] w fun e y => e = .returned .nilIface ∧ BldAt B b (l ++ [c]) y ∧ Below B w y := by
 refine (Any.Builder_WriteByte lays167 bxt B b (Lib.byteCells l) (c.toNat : Int) w h.1 (by rw [Lib.byteCells_length]; omega) h.2).mono ?_
 rintro e y ⟨rfl, h1, h2⟩
 refine ⟨rfl, ⟨.inr ?_, Nat.le_trans h.2 h2.size⟩, h2⟩
 rw [← cells_app]
 exact h1
theorem bst_any (B b : Nat) (l : List UInt8) (w : World) (h : BldAt B b l w) : Calls Tryz.prog 37 #[.pointer (some ⟨b, 0, none⟩)] w fun e y => e = .returned (.string (txt l)) ∧ Below B w y :=
 Any.Builder_String_any lays169 bxt B b l w h.1 h.2
theorem joinW_eq (ws : List Wd) : joinW ws = Lib.join ws [32] := by
 cases ws with
 | nil => rfl
 | cons x r => rw [Lib.join_cons]; rfl
theorem join_len (M : Nat) (r : List Wd) : (∀ x ∈ r, x.length ≤ M) → (r.flatMap fun x => (32 : UInt8) :: x).length ≤ (M + 1) * r.length := by
 induction r with
 | nil => intro _; simp
 | cons x r ih =>
  intro h
  have h1 := h x (by simp)
  have h2 := ih fun y hy => h y (by simp [hy])
  rw [List.flatMap_cons, List.length_append, List.length_cons, List.length_cons, Nat.mul_succ]
  omega
theorem sjoin_any (ws : List Wd) (g o c : Nat) (w : World) (hi : StrsIn w g o ws) (hg : g < w.heap.size) (hc : ws.length ≤ c) (hn : ws.length ≤ 20) (hl : ∀ x ∈ ws, x.length ≤ 10000) :
 Calls Tryz.prog 86 #[.slice (some ⟨g, o, none⟩) ws.length c, .string ⟨#[32]⟩] w fun e y => e = .returned (.string (txt (joinW ws))) ∧ Below w.heap.size w y := by
 have hlen : (Lib.join ((ws.map txt).map (·.data.toList)) (ByteArray.mk #[32]).data.toList).length ≤ 140737488355328 := by
  have e : (ws.map txt).map (·.data.toList) = ws := by rw [List.map_map]; exact List.map_id _
  rw [e]
  show (Lib.join ws [32]).length ≤ _
  rw [← joinW_eq]
  cases ws with
  | nil => simp [joinW]
  | cons x r =>
   have h1 := hl x (by simp)
   have h2 := join_len 10000 r fun y hy => hl y (by simp [hy])
   rw [List.length_cons] at hn
   have h3 : 10001 * r.length ≤ 10001 * 20 := Nat.mul_le_mul_left _ (by omega)
   unfold joinW
   rw [List.length_append]
   omega
 have k := Any.strings_Join lays156 bxt g o c (ws.map txt) ⟨#[32]⟩ w (fun j x hx => by
  rw [List.getElem?_map] at hx
  obtain ⟨z, hz, rfl⟩ := Option.map_eq_some_iff.1 hx
  obtain ⟨hj, hz⟩ := List.getElem?_eq_some_iff.1 hz
  rw [← hz]
  exact hi j hj) hg (by rw [List.length_map]; omega) (by rw [List.length_map]; exact hc) hlen
 rw [List.length_map] at k
 have e : (ws.map txt).map (·.data.toList) = ws := by rw [List.map_map]; exact List.map_id _
 rw [e] at k
 refine k.mono ?_
 rintro e y ⟨rfl, hb⟩
 refine ⟨?_, hb⟩
 show Ending.returned (.string ⟨(Lib.join ws [32]).toArray⟩) = _
 rw [← joinW_eq]
 rfl
theorem strs_below {x y : World} {g o : Nat} {ws : List Wd} (h : StrsIn x g o ws) (hg : g < x.heap.size) (hb : Below x.heap.size x y) : StrsIn y g o ws := fun j hj => (hb.cell (p := ⟨g, o + j, none⟩) hg).trans (h j hj)
theorem line_len {ws : List Wd} (hn : ws.length ≤ 20) (hl : ∀ x ∈ ws, x.length ≤ 10000) : (joinW ws).length ≤ 300000 := by
 cases ws with
 | nil => simp [joinW]
 | cons x r =>
  have h1 := hl x (by simp)
  have h2 := join_len 10000 r fun y hy => hl y (by simp [hy])
  rw [List.length_cons] at hn
  have h3 : 10001 * r.length ≤ 10001 * 20 := Nat.mul_le_mul_left _ (by omega)
  unfold joinW
  rw [List.length_append]
  omega
theorem shline_any (ws : List Wd) (g o c : Nat) (w : World) (hi : StrsIn w g o ws) (hg : g < w.heap.size) (hc : ws.length ≤ c) (hn : ws.length ≤ 20) (hl : ∀ x ∈ ws, x.length ≤ 10000) :
 Calls Tryz.prog 55 #[.slice (some ⟨g, o, none⟩) ws.length c] w fun e y => e = .returned (.string (txt (lineB ws))) ∧ Below w.heap.size w y := by
 have jn : Hid (Calls Tryz.prog 86 #[.slice (some ⟨g, o, none⟩) ws.length c, .string ⟨#[32]⟩] w fun e y => e = .returned (.string (txt (joinW ws))) ∧ Below w.heap.size w y) := sjoin_any ws g o c w hi hg hc hn hl
 have ll : ((txt (joinW ws)).size : Int) ≤ 300000 := by rw [txt_size]; have := line_len hn hl; omega
 have el : Hid (txt (joinW ws) ++ ⟨#[10]⟩ = txt (lineB ws)) := by
  apply ByteArray.ext
  apply Array.toList_inj.1
  simp [ByteArray.data_append, txt, lineB]
 clear hi hc hn hl
 generalize txt (joinW ws) = S at *
 generalize txt (lineB ws) = R at *
 generalize ws.length = n at *
 go_enter Tryz.func55, Tryz.ntmps55
 go_wp2_with fail
 refine jn.out.mono ?_
 rintro e y ⟨rfl, hb⟩
 replace hb : Hid (Below w.heap.size w y) := hb
 clear jn
 go_wp2
 go_ret
 exact ⟨by rw [el.out]; rfl, hb.out⟩
theorem shnum_any (a : Int) (w : World) (ha : -9223372036854775808 ≤ a ∧ a ≤ 9223372036854775807) :
 Calls Tryz.prog 57 #[.int .i64 a] w fun e y => e = .returned (.string (txt (textL a))) ∧ Below w.heap.size w y := by
 have bt : Hid (Calls Tryz.prog 88 #[.int .i64 a] w fun e y => e = .returned (.string ⟨(textL a).toArray⟩) ∧ Below w.heap.size w y) := btext_any a w ha
 unfold txt
 generalize (textL a).toArray = S at *
 go_enter Tryz.func57, Tryz.ntmps57
 go_wp2_with fail
 refine bt.out.mono ?_
 rintro e y ⟨rfl, hb⟩
 replace hb : Hid (Below w.heap.size w y) := hb
 clear bt
 go_wp2
 go_ret
 exact ⟨rfl, hb.out⟩
theorem hexW_app (a b : List Nat) : hexW (a ++ b) = hexW a ++ hexW b := by
 induction a with
 | nil => rfl
 | cons x a ih => simp only [List.cons_append, hexW, ih]
theorem hexW_next {bs : List Nat} {k c : Nat} (hk : k < bs.length) (hc : bs[k] = c) : hexW (bs.take (k + 1)) = (hexW (bs.take k) ++ [hexD (c / 16)]) ++ [hexD (c % 16)] := by
 rw [← List.take_append_getElem hk, hc, hexW_app, List.append_assoc]
 rfl
abbrev hexS : ByteArray := ⟨#[48, 49, 50, 51, 52, 53, 54, 55, 56, 57, 97, 98, 99, 100, 101, 102]⟩
theorem dig_atF : ∀ n : Fin 16, hexS[n.1]'n.2 = hexD n.1 := by decide +kernel
theorem dig_at {n : Nat} (h : n < 16) (hq:n < hexS.size):hexS[n]'hq=hexD n := dig_atF ⟨n, h⟩
theorem shhex_any (bs : List Nat) (v : Value) (w : World) (hv : BytesAt w v bs) (ha : AllBytes bs) (hn : (bs.length : Int) ≤ 100) :
 Calls Tryz.prog 56 #[v] w fun e y => e = .returned (.string (txt (hexW bs))) ∧ Below w.heap.size w y := by
 obtain ⟨p, cap, rfl⟩ : ∃ p cap, v = .slice p bs.length cap := by
  rcases hv with ⟨h1, h2⟩ | ⟨g, o, cap, h, _⟩
  · exact ⟨none, 0, by rw [h1, h2]; rfl⟩
  · exact ⟨_, _, h⟩
 obtain ⟨len, hlen⟩ : ∃ len, bs.length = len := ⟨_, rfl⟩
 rw [hlen] at hv hn ⊢
 replace hlen : Hid (bs.length = len) := hlen
 replace hv : Hid (BytesAt w (.slice p len cap) bs) := hv
 replace ha : Hid (AllBytes bs) := ha
 have b0 : Hid (Below w.heap.size w (w.alloc (.cells #[.pointer none, .slice none 0 0] 82))) := (Below.refl _ _).alloc (Nat.le_refl _) _
 have d0 : Hid (BldAt w.heap.size w.heap.size (hexW (bs.take 0)) (w.alloc (.cells #[.pointer none, .slice none 0 0] 82))) := BldAt.new w
 go_enter Tryz.func56, Tryz.ntmps56
 go_wp2
 go_loopw [5, 8] (fun vb vi wr => ∃ k : Nat, (k : Int) ≤ (len : Int) ∧ vi = .int .i64 (k : Int) ∧ Hid (BldAt w.heap.size w.heap.size (hexW (bs.take k)) wr) ∧ Hid (Below w.heap.size w wr)) (fun vb vi _ => len - (intOf vi).toNat)
 case atStart => exact ⟨0, by omega, rfl, d0, b0⟩
 case round =>
  obtain ⟨k, hk, rfl, dr, br⟩ := hrel
  clear d0 b0
  by_cases hlt : (k : Int) < (len : Int)
  · have hkl : k < bs.length := by have := hlen.out; omega
    rcases hv.out with ⟨_, e⟩ | ⟨g, o, cap', e, hin, hg⟩
    · rw [e] at hkl; cases hkl
    · injection e with e1 e2 e3
      subst e1
      have c0 := hin.at hg br.out k hkl
      have hc := ha.out bs[k] (List.getElem_mem hkl)
      obtain ⟨c, hcc⟩ : ∃ c, bs[k] = c := ⟨_, rfl⟩
      rw [hcc] at c0 hc
      clear hin e2 e3
      have nx := hexW_next hkl hcc
      have kl : Hid (k + 1 ≤ 100) := by unfold Hid; omega
      have hl : Hid ((hexW (bs.take k)).length ≤ 200) := by unfold Hid; rw [hexW_len, List.length_take]; omega
      replace nx : Hid (hexW (bs.take (k + 1)) = (hexW (bs.take k) ++ [hexD (c / 16)]) ++ [hexD (c % 16)]) := nx
      replace hc : Hid (c < 256) := hc
      have hcI : (c : Int) < 256 := by have := hc.out; omega
      clear hcc hkl
      go_wp2_with fail
      refine (bwb_any _ _ _ _ wr dr.out (by have := hl.out; omega)).mono ?_
      rw [dig_at (by have := hc.out; omega)]
      rintro e y ⟨rfl, dy, by1⟩
      have B1 : Hid (Below w.heap.size w y) := br.out.trans by1
      replace dy : Hid (BldAt w.heap.size w.heap.size (hexW (bs.take k) ++ [hexD (c / 16)]) y) := dy
      clear dr br by1 c0
      go_wp2_with fail
      refine (bwb_any _ _ _ _ y dy.out (by have := hl.out; rw [List.length_append, List.length_singleton]; omega)).mono ?_
      rw [dig_at (by have := hc.out; omega)]
      rintro e z ⟨rfl, dz, bz⟩
      have B2 : Hid (Below w.heap.size w z) := B1.out.trans bz
      rw [← nx.out] at dz
      replace dz : Hid (BldAt w.heap.size w.heap.size (hexW (bs.take (k + 1))) z) := dz
      clear dy B1 bz nx hl hc
      go_wp2
      exact ⟨⟨k + 1, by omega, by simp, dz, B2⟩, by simp [intOf]; omega⟩
  · obtain rfl : k = len := by omega
    have st : Hid (Calls Tryz.prog 37 #[.pointer (some ⟨w.heap.size, 0, none⟩)] wr fun e y => e = .returned (.string (txt (hexW bs))) ∧ Below w.heap.size wr y) := by
     have h := dr.out
     rw [List.take_of_length_le (by have := hlen.out; omega)] at h
     exact bst_any _ _ _ wr h
    go_wp2_with fail
    refine st.out.mono ?_
    rintro e y ⟨rfl, hy⟩
    have B1 : Hid (Below w.heap.size w y) := br.out.trans hy
    clear st hy
    go_wp2
    go_ret
    exact ⟨rfl, B1.out⟩
theorem no_bit {x : Array Bool} {i j : Nat} (hi : x.getD i false = false) (h : x.getD j false = true → x.getD i false = true) : x.getD j false = false := by
 cases e : x.getD j false with
 | false => rfl
 | true => rw [h e] at hi; cases hi
theorem gd_no {x : Array Bool} {j : Nat} (h : x.getD j false = false) (h' : x[j]?.getD false = true) : False := by
 rw [Array.getD_eq_getD_getElem?, h'] at h; cases h
end Go.Proofs.YthabffjgdhfbmaaGreatDoor
