/-
  What the program's own readText returns (layer 6). Conditions: one to eight bytes in memory that was there before, with room.
-/
import Derived.Test.YtiimmebcmehnhaaDoorBitPG
import Derived.Test.YtiimmebcmehnhaaDoorBitPE5
import Derived.Lib.SlBytesConst
namespace Go.Proofs.YtiimmebcmehnhaaDoor
open Go.RowKit Go.Shelf
set_option linter.unusedVariables false

theorem ptotal_dec (w : World) (g o cap : Nat) (bs : List Nat) (hl : bs.length ≤ 8) (hg : g < w.heap.size) (hbs : AllBytes bs) (hb : BytesIn w g o bs) : Calls Tryd.prog 16 #[.string kDec, .slice (some ⟨g, o, none⟩) bs.length cap] w fun e w' => e = .returned (.tuple #[.int .i64 (totN 5 10 bs), .bool (okAll 5 bs)]) ∧ Below w.heap.size w w' :=
  (callsIn_wide (n := 3)).1 (total_dec _ 3 trivial trivial trivial trivial trivial rfl (Nat.le_refl _) w g o cap bs hl hg hbs hb)
theorem ptotal_nil (w : World) : Calls Tryd.prog 16 #[.string kDec, .slice none 0 0] w fun e w' => e = .returned (.tuple #[.int .i64 (totN 5 10 []), .bool (okAll 5 [])]) ∧ Below w.heap.size w w' :=
  (callsIn_wide (n := 3)).1 (total_dec_nil _ 3 trivial trivial trivial trivial trivial rfl (Nat.le_refl _) w)
/-- the world behind readText's own - -/
abbrev dashW (w : World) : World := w.alloc (.cells #[.int .u8 45] 5 (1, 2))
theorem conv_dash (w : World) : (convert 22 22 (.slice (some ⟨w.heap.size, 0, none⟩) 1 1)).run Tryd.prog (w.alloc (.cells #[.int .u8 45] 5)) = .ok (.slice (some ⟨w.heap.size, 0, none⟩) 1 1) (dashW w) :=
  Lib.run_convert_bytes_const (P := Tryd.prog) w 22 5 #[.int .u8 45] 1 1 Tryd.underlying22 Tryd.underlying5

set_option maxRecDepth 100000 in
set_option maxHeartbeats 4000000 in
theorem rdtxt_bad (w : World) (v y : Value) (a : Option Addr) (L : Nat) (cp : Nat) (b : Bool) (T : Int)
    (cT : Hid (Calls Tryd.prog 22 #[v, .string ⟨#[32]⟩] w fun e w' => e = .returned y ∧ w' = w))
    (cC : Hid (Calls Tryd.prog 23 #[y, dashV w.heap.size] (dashW w) fun e w' => e = .returned (.tuple #[.slice a L cp, .bool b]) ∧ w' = dashW w))
    (cO : Hid (Calls Tryd.prog 16 #[.string kDec, .slice a L cp] (dashW w) fun e w' => e = .returned (.tuple #[.int .i64 T, .bool false]) ∧ Below (dashW w).heap.size (dashW w) w')) :
    Calls Tryd.prog 15 #[v] w fun e w' => e = .returned (.tuple #[.int .i64 0, .int .i64 6]) ∧ Below w.heap.size w w' := by
  go_enter Tryd.func15, Tryd.ntmps15
  go_wp2_with fail
  refine cT.out.mono ?_
  rintro e w1 ⟨rfl, rfl⟩
  clear cT
  have kk := conv_dash w1
  go_wp2_with fail
  refine cC.out.mono ?_
  rintro e w2 ⟨rfl, rfl⟩
  clear cC
  go_wp2_with fail
  refine cO.out.mono ?_
  rintro e w3 ⟨rfl, hb⟩
  have B : Hid (Below w1.heap.size w1 w3) := belowT ((Below.refl _ _).alloc (Nat.le_refl _) _) hb
  clear cO hb
  go_wp2
  go_ret2
  exact ⟨rfl, B.out⟩

set_option maxRecDepth 100000 in
set_option maxHeartbeats 4000000 in
theorem rdtxt_none (w : World) (v y : Value) (a : Option Addr) (cp : Nat) (b : Bool) (T : Int)
    (cT : Hid (Calls Tryd.prog 22 #[v, .string ⟨#[32]⟩] w fun e w' => e = .returned y ∧ w' = w))
    (cC : Hid (Calls Tryd.prog 23 #[y, dashV w.heap.size] (dashW w) fun e w' => e = .returned (.tuple #[.slice a 0 cp, .bool b]) ∧ w' = dashW w))
    (cO : Hid (Calls Tryd.prog 16 #[.string kDec, .slice a 0 cp] (dashW w) fun e w' => e = .returned (.tuple #[.int .i64 T, .bool true]) ∧ Below (dashW w).heap.size (dashW w) w')) :
    Calls Tryd.prog 15 #[v] w fun e w' => e = .returned (.tuple #[.int .i64 0, .int .i64 6]) ∧ Below w.heap.size w w' := by
  go_enter Tryd.func15, Tryd.ntmps15
  go_wp2_with fail
  refine cT.out.mono ?_
  rintro e w1 ⟨rfl, rfl⟩
  clear cT
  have kk := conv_dash w1
  go_wp2_with fail
  refine cC.out.mono ?_
  rintro e w2 ⟨rfl, rfl⟩
  clear cC
  go_wp2_with fail
  refine cO.out.mono ?_
  rintro e w3 ⟨rfl, hb⟩
  have B : Hid (Below w1.heap.size w1 w3) := belowT ((Below.refl _ _).alloc (Nat.le_refl _) _) hb
  clear cO hb
  go_wp2
  go_ret2
  exact ⟨rfl, B.out⟩

set_option maxRecDepth 100000 in
set_option maxHeartbeats 4000000 in
theorem rdtxt_pos (w : World) (v y : Value) (a : Option Addr) (L : Nat) (cp : Nat) (T : Int) (hL : ((L : Int) == 0) = false)
    (cT : Hid (Calls Tryd.prog 22 #[v, .string ⟨#[32]⟩] w fun e w' => e = .returned y ∧ w' = w))
    (cC : Hid (Calls Tryd.prog 23 #[y, dashV w.heap.size] (dashW w) fun e w' => e = .returned (.tuple #[.slice a L cp, .bool false]) ∧ w' = dashW w))
    (cO : Hid (Calls Tryd.prog 16 #[.string kDec, .slice a L cp] (dashW w) fun e w' => e = .returned (.tuple #[.int .i64 T, .bool true]) ∧ Below (dashW w).heap.size (dashW w) w')) :
    Calls Tryd.prog 15 #[v] w fun e w' => e = .returned (.tuple #[.int .i64 T, .int .i64 0]) ∧ Below w.heap.size w w' := by
  go_enter Tryd.func15, Tryd.ntmps15
  go_wp2_with fail
  refine cT.out.mono ?_
  rintro e w1 ⟨rfl, rfl⟩
  clear cT
  have kk := conv_dash w1
  go_wp2_with fail
  refine cC.out.mono ?_
  rintro e w2 ⟨rfl, rfl⟩
  clear cC
  go_wp2_with fail
  refine cO.out.mono ?_
  rintro e w3 ⟨rfl, hb⟩
  have B : Hid (Below w1.heap.size w1 w3) := belowT ((Below.refl _ _).alloc (Nat.le_refl _) _) hb
  clear cO hb
  go_wp2
  go_ret2
  exact ⟨rfl, B.out⟩

set_option maxRecDepth 100000 in
set_option maxHeartbeats 4000000 in
theorem rdtxt_neg (w : World) (v y : Value) (a : Option Addr) (L : Nat) (cp : Nat) (T : Int) (hL : ((L : Int) == 0) = false) (hT : 0 ≤ T ∧ T ≤ 1000000000)
    (cT : Hid (Calls Tryd.prog 22 #[v, .string ⟨#[32]⟩] w fun e w' => e = .returned y ∧ w' = w))
    (cC : Hid (Calls Tryd.prog 23 #[y, dashV w.heap.size] (dashW w) fun e w' => e = .returned (.tuple #[.slice a L cp, .bool true]) ∧ w' = dashW w))
    (cO : Hid (Calls Tryd.prog 16 #[.string kDec, .slice a L cp] (dashW w) fun e w' => e = .returned (.tuple #[.int .i64 T, .bool true]) ∧ Below (dashW w).heap.size (dashW w) w')) :
    Calls Tryd.prog 15 #[v] w fun e w' => e = .returned (.tuple #[.int .i64 (-T), .int .i64 0]) ∧ Below w.heap.size w w' := by
  go_enter Tryd.func15, Tryd.ntmps15
  go_wp2_with fail
  refine cT.out.mono ?_
  rintro e w1 ⟨rfl, rfl⟩
  clear cT
  have kk := conv_dash w1
  go_wp2_with fail
  refine cC.out.mono ?_
  rintro e w2 ⟨rfl, rfl⟩
  clear cC
  go_wp2_with fail
  refine cO.out.mono ?_
  rintro e w3 ⟨rfl, hb⟩
  have B : Hid (Below w1.heap.size w1 w3) := belowT ((Below.refl _ _).alloc (Nat.le_refl _) _) hb
  clear cO hb
  go_wp2
  go_ret2
  exact ⟨rfl, B.out⟩

def decN (bs : List Nat) : Int := (decO bs).getD 0
def decE (bs : List Nat) : Int := if (decO bs).isSome = true then 0 else 6
theorem dash_bytes (w : World) : BytesAt (dashW w) (dashV w.heap.size) [45] := by
  refine .inr ⟨w.heap.size, 0, 1, rfl, fun j hj => ?_, by simp⟩
  have hb : (dashW w).heap[w.heap.size]? = some (.cells #[.int .u8 45] 5 (1, 2)) := World.alloc_heap_new w _
  have : j = 0 := by simp at hj; omega
  subst this
  simp only [World.cell?, hb, Nat.zero_add]
  rfl
theorem bytes_dash {w : World} {g o : Nat} {bs : List Nat} (hg : g < w.heap.size) (h : BytesIn w g o bs) : BytesIn (dashW w) g o bs := fun j hj => h.at hg ((Below.refl _ _).alloc (Nat.le_refl _) _) j hj
theorem bytes_drop {w : World} {g o : Nat} {bs : List Nat} (i : Nat) (h : BytesIn w g o bs) : BytesIn w g (o + i) (bs.drop i) := fun j hj => by
  rw [List.length_drop] at hj
  have := h (i + j) (by omega)
  rw [List.getElem_drop, Nat.add_assoc]
  exact this
theorem all_drop {bs : List Nat} (h : AllBytes bs) (i : Nat) : AllBytes (bs.drop i) := fun c hc => h c (List.mem_of_mem_drop hc)
theorem dec_tot {l : List Nat} (hl : l ≠ []) : (okAll 5 l = true → ∃ v : Nat, digO l = some v ∧ totN 5 10 l = (v : Int)) ∧ (okAll 5 l = false → digO l = none) := by
  have h := dig_sum l
  unfold digO
  rw [if_neg hl]
  exact h
theorem tot_bd (l : List Nat) (hb : AllBytes l) (hl : l.length ≤ 8) (h : okAll 5 l = true) : 0 ≤ totN 5 10 l ∧ totN 5 10 l ≤ 1000000000 := by
  unfold totN
  rw [if_pos h]
  have hok : ∀ x : Fin l.length, cntB 5 (byP 5 l x.1) = true := fun x => by
    obtain ⟨hj, e⟩ := byP_get (k := 5) x.2
    rw [e]
    exact List.all_eq_true.1 h _ (List.getElem_mem hj)
  have hlt : ∀ x : Fin l.length, byP 5 l x.1 < 256 := fun x => by
    obtain ⟨hj, e⟩ := byP_get (k := 5) x.2
    rw [e]
    exact hb _ (List.getElem_mem hj)
  have := sum_bd (k := 5) (B := 10) (M := 90000000) (bs := l) (pre := List.finRange l.length) (fun x _ => by
    have q := cntV_bd (hlt x) (hok x)
    have p2 : 10 ^ x.1 ≤ 10 ^ 7 := Nat.pow_le_pow_right (by omega) (by have := x.2; omega)
    unfold termP
    obtain ⟨z, hz⟩ : ∃ z : Nat, cntV 5 (byP 5 l x.1) = z := ⟨(cntV 5 (byP 5 l x.1)).toNat, by omega⟩
    rw [hz] at q ⊢
    simp at q
    have p3 : z * 10 ^ x.1 ≤ 9 * 10 ^ 7 := Nat.mul_le_mul (by omega) p2
    rw [← Int.natCast_mul]
    omega)
  rw [List.length_finRange] at this
  refine ⟨this.1, Int.le_trans this.2 ?_⟩
  have h8 : (l.length : Int) ≤ 8 := by omega
  have : (l.length : Int) * ((90000000 : Nat) : Int) ≤ 8 * ((90000000 : Nat) : Int) := Int.mul_le_mul_of_nonneg_right h8 (by omega)
  omega

theorem rdtxt_any (w : World) (g o cap : Nat) (bs : List Nat) (h1 : 1 ≤ bs.length) (hl : bs.length ≤ 8) (hc : bs.length ≤ cap) (hm : cap ≤ maxLen) (hg : g < w.heap.size) (hbs : AllBytes bs) (hb : BytesIn w g o bs) :
    Calls Tryd.prog 15 #[.slice (some ⟨g, o, none⟩) bs.length cap] w fun e w' => e = .returned (.tuple #[.int .i64 (decN bs), .int .i64 (decE bs)]) ∧ Below w.heap.size w w' := by
  have hm' : (cap : Int) ≤ 9223372036854775807 := by unfold maxLen at hm; omega
  have cT := trimL' w g o cap bs h1 hl hc hm' hbs hb
  cases hs : skipB bs with
  | nil =>
    have ey : trimY g o cap bs = .slice none 0 0 := by unfold trimY; rw [if_pos hs]
    have ed : decO bs = none := by unfold decO; rw [hs]
    have e1 : decN bs = 0 := by unfold decN; rw [ed]; rfl
    have e2 : decE bs = 6 := by unfold decE; rw [ed]; rfl
    rw [ey] at cT
    rw [e1, e2]
    exact rdtxt_none w _ _ none 0 false _ cT (cutp_nil (dashW w) w.heap.size) (ptotal_nil (dashW w))
  | cons f r =>
    obtain ⟨hsl, hsd⟩ := skip_le bs
    obtain ⟨i, hi⟩ : ∃ i, bs.length - (skipB bs).length = i := ⟨_, rfl⟩
    have ey : trimY g o cap bs = .slice (some ⟨g, o + i, none⟩) (r.length + 1) (cap - i) := by
      unfold trimY; rw [if_neg (by rw [hs]; simp), hi, hs]; rfl
    rw [hi] at hsd
    have hlen : (skipB bs).length = r.length + 1 := by rw [hs]; rfl
    rw [ey] at cT
    have hbi : BytesIn (dashW w) g (o + i) (f :: r) := by rw [← hs, hsd]; exact bytes_drop i (bytes_dash hg hb)
    have hall : AllBytes (f :: r) := by rw [← hs, hsd]; exact all_drop hbs i
    have hgd : g < (dashW w).heap.size := by rw [World.size_alloc]; omega
    have hf : f < 256 := hall f (by simp)
    have hr : AllBytes r := fun c hc => hall c (by simp [hc])
    have one : BytesAt (dashW w) (.slice (some ⟨g, o + i, none⟩) 1 (cap - i)) [f] := .inr ⟨g, o + i, cap - i, rfl, fun j hj => by
      have : j = 0 := by simp at hj; omega
      subst this
      have q := hbi 0 (by simp)
      simpa using q, hgd⟩
    have cE := equal_any (dashW w) _ _ [f] [45] one (dash_bytes w) (fun c hc => by rw [List.mem_singleton.1 hc]; exact hf) (fun c hc => by rw [List.mem_singleton.1 hc]; omega)
    have cH := hasp_some (dashW w) w.heap.size g (o + i) (r.length + 1) (cap - i) f (by omega) (by omega) (by omega) (by omega) _ cE
    by_cases h45 : f = 45
    · rw [show decide (([45] : List Nat) = [f]) = true by rw [h45]; rfl] at cH
      have cC := cutp_yes (dashW w) w.heap.size g (o + i) r.length (cap - i) (by omega) (by omega) (by omega) cH
      obtain ⟨g', o', hq⟩ : ∃ g' o', (if cap - i = 1 then (⟨g, o + i, none⟩ : Addr) else ⟨g, o + i + 1, none⟩) = ⟨g', o', none⟩ ∧ g' < (dashW w).heap.size ∧ BytesIn (dashW w) g' o' r := by
        by_cases hc1 : cap - i = 1
        · refine ⟨g, o + i, by rw [if_pos hc1], hgd, fun j hj => ?_⟩
          have : r.length = 0 := by omega
          omega
        · refine ⟨g, o + i + 1, by rw [if_neg hc1], hgd, ?_⟩
          exact bytes_drop 1 hbi
      obtain ⟨q1, q2, q3⟩ := hq
      rw [q1] at cC
      have cO := ptotal_dec (dashW w) g' o' (cap - i - 1) r (by omega) q2 hr q3
      have ed : decO bs = (digO r).map (fun n : Nat => -(n : Int)) := by unfold decO; rw [hs]; simp only; rw [if_pos h45]
      cases r with
      | nil =>
        have e0 : digO [] = none := rfl
        have e1 : decN bs = 0 := by unfold decN; rw [ed, e0]; rfl
        have e2 : decE bs = 6 := by unfold decE; rw [ed, e0]; rfl
        rw [e1, e2]
        exact rdtxt_none w _ _ _ _ true _ cT cC cO
      | cons r0 r =>
        have dt := dec_tot (l := r0 :: r) (by simp)
        have tb := tot_bd (r0 :: r) hr (by simp at hlen hsl ⊢; omega)
        cases hok : okAll 5 (r0 :: r) with
        | false =>
          have e1 : decN bs = 0 := by unfold decN; rw [ed, dt.2 hok]; rfl
          have e2 : decE bs = 6 := by unfold decE; rw [ed, dt.2 hok]; rfl
          rw [e1, e2]
          rw [hok] at cO
          exact rdtxt_bad w _ _ _ _ _ true _ cT cC cO
        | true =>
          obtain ⟨z, d1, d2⟩ := dt.1 hok
          have e1 : decN bs = -(totN 5 10 (r0 :: r)) := by unfold decN; rw [ed, d1, d2]; rfl
          have e2 : decE bs = 0 := by unfold decE; rw [ed, d1]; rfl
          rw [e1, e2]
          rw [hok] at cO
          exact rdtxt_neg w _ _ _ _ _ _ (beq_eq_false_iff_ne.2 (by simp; omega)) (tb hok) cT cC cO
    · rw [show decide (([45] : List Nat) = [f]) = false from decide_eq_false (fun e => h45 (by simpa using e.symm))] at cH
      have cC := cutp_no (dashW w) w.heap.size g (o + i) (r.length + 1) (cap - i) cH
      have cO := ptotal_dec (dashW w) g (o + i) (cap - i) (f :: r) (by simp; omega) hgd hall hbi
      have ed : decO bs = (digO (f :: r)).map (fun n : Nat => (n : Int)) := by unfold decO; rw [hs]; simp only; rw [if_neg h45]
      have dt := dec_tot (l := f :: r) (by simp)
      cases hok : okAll 5 (f :: r) with
      | false =>
        have e1 : decN bs = 0 := by unfold decN; rw [ed, dt.2 hok]; rfl
        have e2 : decE bs = 6 := by unfold decE; rw [ed, dt.2 hok]; rfl
        rw [e1, e2]
        rw [hok] at cO
        exact rdtxt_bad w _ _ _ _ _ false _ cT cC cO
      | true =>
        obtain ⟨z, d1, d2⟩ := dt.1 hok
        have e1 : decN bs = totN 5 10 (f :: r) := by unfold decN; rw [ed, d1, d2]; rfl
        have e2 : decE bs = 0 := by unfold decE; rw [ed, d1]; rfl
        rw [e1, e2]
        rw [hok] at cO
        exact rdtxt_pos w _ _ _ _ _ _ (beq_eq_false_iff_ne.2 (by omega)) cT cC cO
end Go.Proofs.YtiimmebcmehnhaaDoor
