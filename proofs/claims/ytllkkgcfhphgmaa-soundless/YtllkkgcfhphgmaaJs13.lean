/-
  Texts that belong together, one behind the other: SumSz, SnA, SnB, SnC, SnCa, SnL1. Conditions: as each says.
-/
import Derived.Deep.RegionHeld3
import Derived.Test.YtllkkgcfhphgmaaJs11
import Derived.Test.YtllkkgcfhphgmaaJs12
import Derived.Test.YtllkkgcfhphgmaaJs9
/-
  What the program's own Size returns (layer 5). No conditions.
-/
namespace Go.Proofs.Ytllkkgcfhphgmaa
open Go.RowKit
set_option linter.unusedVariables false

/-- the maker's contract -/
def MakeC : Prop := ∀ w, Calls Try.prog 52 #[] w fun e w' => e = .returned (.map (some w.heap.size)) ∧ w' = KW w
theorem makeC : MakeC := kinds_any
theorem kw_alloc (w : World) (o : Obj) : Below w.heap.size w ((KW w).alloc o) := (kw_below w).alloc (by rw [kw_size]; omega) _

set_option maxRecDepth 100000 in
set_option maxHeartbeats 2000000 in
theorem size_no : SizeN := fun s w hs => by
  have lk := look_no hs w
  have mk := makeC
  have B : Hid (Below w.heap.size w ((KW w).alloc (.cells #[.int .i64 0, .int .i64 0, .nilFunc] 83))) := kw_alloc w _
  go_enter Try.func31, Try.ntmps31
  go_wp2_with fail
  refine (mk _).mono ?_
  rintro e w1 ⟨rfl, rfl⟩
  clear mk
  go_wp2
  go_ret2
  exact ⟨rfl, B.out⟩

set_option maxRecDepth 100000 in
set_option maxHeartbeats 2000000 in
theorem size_0 (w : World) : Calls Try.prog 31 #[.string e0] w fun e w' => e = .returned (.tuple #[.int .i64 0, .bool true]) ∧ Below w.heap.size w w' := by
  have lk : (Instr.lookup 85 (.map (some w.heap.size)) (.string e0) true).run Try.prog (KW w) = .ok (.tuple #[.agg #[.int .i64 0, .int .i64 0, .func (.func 60) #[] #[]], .bool true]) (KW w) := look_yes (k := 0) (by omega) w
  have mk := makeC
  have B : Hid (Below w.heap.size w ((KW w).alloc (.cells #[.int .i64 0, .int .i64 0, .func (.func 60) #[] #[]] 83))) := kw_alloc w _
  go_enter Try.func31, Try.ntmps31
  go_wp2_with fail
  refine (mk _).mono ?_
  rintro e w1 ⟨rfl, rfl⟩
  clear mk
  go_wp2
  go_ret2
  exact ⟨rfl, B.out⟩

set_option maxRecDepth 100000 in
set_option maxHeartbeats 2000000 in
theorem size_1 (w : World) : Calls Try.prog 31 #[.string e1] w fun e w' => e = .returned (.tuple #[.int .i64 1, .bool true]) ∧ Below w.heap.size w w' := by
  have lk : (Instr.lookup 85 (.map (some w.heap.size)) (.string e1) true).run Try.prog (KW w) = .ok (.tuple #[.agg #[.int .i64 1, .int .i64 1, .func (.func 61) #[] #[]], .bool true]) (KW w) := look_yes (k := 1) (by omega) w
  have mk := makeC
  have B : Hid (Below w.heap.size w ((KW w).alloc (.cells #[.int .i64 1, .int .i64 1, .func (.func 61) #[] #[]] 83))) := kw_alloc w _
  go_enter Try.func31, Try.ntmps31
  go_wp2_with fail
  refine (mk _).mono ?_
  rintro e w1 ⟨rfl, rfl⟩
  clear mk
  go_wp2
  go_ret2
  exact ⟨rfl, B.out⟩

set_option maxRecDepth 100000 in
set_option maxHeartbeats 2000000 in
theorem size_2 (w : World) : Calls Try.prog 31 #[.string e2] w fun e w' => e = .returned (.tuple #[.int .i64 1, .bool true]) ∧ Below w.heap.size w w' := by
  have lk : (Instr.lookup 85 (.map (some w.heap.size)) (.string e2) true).run Try.prog (KW w) = .ok (.tuple #[.agg #[.int .i64 2, .int .i64 1, .func (.func 62) #[] #[]], .bool true]) (KW w) := look_yes (k := 2) (by omega) w
  have mk := makeC
  have B : Hid (Below w.heap.size w ((KW w).alloc (.cells #[.int .i64 2, .int .i64 1, .func (.func 62) #[] #[]] 83))) := kw_alloc w _
  go_enter Try.func31, Try.ntmps31
  go_wp2_with fail
  refine (mk _).mono ?_
  rintro e w1 ⟨rfl, rfl⟩
  clear mk
  go_wp2
  go_ret2
  exact ⟨rfl, B.out⟩

set_option maxRecDepth 100000 in
set_option maxHeartbeats 2000000 in
theorem size_3 (w : World) : Calls Try.prog 31 #[.string e3] w fun e w' => e = .returned (.tuple #[.int .i64 1, .bool true]) ∧ Below w.heap.size w w' := by
  have lk : (Instr.lookup 85 (.map (some w.heap.size)) (.string e3) true).run Try.prog (KW w) = .ok (.tuple #[.agg #[.int .i64 3, .int .i64 1, .func (.func 63) #[] #[]], .bool true]) (KW w) := look_yes (k := 3) (by omega) w
  have mk := makeC
  have B : Hid (Below w.heap.size w ((KW w).alloc (.cells #[.int .i64 3, .int .i64 1, .func (.func 63) #[] #[]] 83))) := kw_alloc w _
  go_enter Try.func31, Try.ntmps31
  go_wp2_with fail
  refine (mk _).mono ?_
  rintro e w1 ⟨rfl, rfl⟩
  clear mk
  go_wp2
  go_ret2
  exact ⟨rfl, B.out⟩

set_option maxRecDepth 100000 in
set_option maxHeartbeats 2000000 in
theorem size_4 (w : World) : Calls Try.prog 31 #[.string e4] w fun e w' => e = .returned (.tuple #[.int .i64 2, .bool true]) ∧ Below w.heap.size w w' := by
  have lk : (Instr.lookup 85 (.map (some w.heap.size)) (.string e4) true).run Try.prog (KW w) = .ok (.tuple #[.agg #[.int .i64 4, .int .i64 2, .func (.func 64) #[] #[]], .bool true]) (KW w) := look_yes (k := 4) (by omega) w
  have mk := makeC
  have B : Hid (Below w.heap.size w ((KW w).alloc (.cells #[.int .i64 4, .int .i64 2, .func (.func 64) #[] #[]] 83))) := kw_alloc w _
  go_enter Try.func31, Try.ntmps31
  go_wp2_with fail
  refine (mk _).mono ?_
  rintro e w1 ⟨rfl, rfl⟩
  clear mk
  go_wp2
  go_ret2
  exact ⟨rfl, B.out⟩

set_option maxRecDepth 100000 in
set_option maxHeartbeats 2000000 in
theorem size_5 (w : World) : Calls Try.prog 31 #[.string e5] w fun e w' => e = .returned (.tuple #[.int .i64 1, .bool true]) ∧ Below w.heap.size w w' := by
  have lk : (Instr.lookup 85 (.map (some w.heap.size)) (.string e5) true).run Try.prog (KW w) = .ok (.tuple #[.agg #[.int .i64 5, .int .i64 1, .func (.func 69) #[] #[.pointer (some ⟨w.heap.size + 1, 0, none⟩)]], .bool true]) (KW w) := look_yes (k := 5) (by omega) w
  have mk := makeC
  have B : Hid (Below w.heap.size w ((KW w).alloc (.cells #[.int .i64 5, .int .i64 1, .func (.func 69) #[] #[.pointer (some ⟨w.heap.size + 1, 0, none⟩)]] 83))) := kw_alloc w _
  go_enter Try.func31, Try.ntmps31
  go_wp2_with fail
  refine (mk _).mono ?_
  rintro e w1 ⟨rfl, rfl⟩
  clear mk
  go_wp2
  go_ret2
  exact ⟨rfl, B.out⟩

set_option maxRecDepth 100000 in
set_option maxHeartbeats 2000000 in
theorem size_6 (w : World) : Calls Try.prog 31 #[.string e6] w fun e w' => e = .returned (.tuple #[.int .i64 2, .bool true]) ∧ Below w.heap.size w w' := by
  have lk : (Instr.lookup 85 (.map (some w.heap.size)) (.string e6) true).run Try.prog (KW w) = .ok (.tuple #[.agg #[.int .i64 6, .int .i64 2, .func (.func 69) #[] #[.pointer (some ⟨w.heap.size + 2, 0, none⟩)]], .bool true]) (KW w) := look_yes (k := 6) (by omega) w
  have mk := makeC
  have B : Hid (Below w.heap.size w ((KW w).alloc (.cells #[.int .i64 6, .int .i64 2, .func (.func 69) #[] #[.pointer (some ⟨w.heap.size + 2, 0, none⟩)]] 83))) := kw_alloc w _
  go_enter Try.func31, Try.ntmps31
  go_wp2_with fail
  refine (mk _).mono ?_
  rintro e w1 ⟨rfl, rfl⟩
  clear mk
  go_wp2
  go_ret2
  exact ⟨rfl, B.out⟩

set_option maxRecDepth 100000 in
set_option maxHeartbeats 2000000 in
theorem size_7 (w : World) : Calls Try.prog 31 #[.string e7] w fun e w' => e = .returned (.tuple #[.int .i64 2, .bool true]) ∧ Below w.heap.size w w' := by
  have lk : (Instr.lookup 85 (.map (some w.heap.size)) (.string e7) true).run Try.prog (KW w) = .ok (.tuple #[.agg #[.int .i64 7, .int .i64 2, .func (.func 69) #[] #[.pointer (some ⟨w.heap.size + 3, 0, none⟩)]], .bool true]) (KW w) := look_yes (k := 7) (by omega) w
  have mk := makeC
  have B : Hid (Below w.heap.size w ((KW w).alloc (.cells #[.int .i64 7, .int .i64 2, .func (.func 69) #[] #[.pointer (some ⟨w.heap.size + 3, 0, none⟩)]] 83))) := kw_alloc w _
  go_enter Try.func31, Try.ntmps31
  go_wp2_with fail
  refine (mk _).mono ?_
  rintro e w1 ⟨rfl, rfl⟩
  clear mk
  go_wp2
  go_ret2
  exact ⟨rfl, B.out⟩

set_option maxRecDepth 100000 in
set_option maxHeartbeats 2000000 in
theorem size_8 (w : World) : Calls Try.prog 31 #[.string e8] w fun e w' => e = .returned (.tuple #[.int .i64 4, .bool true]) ∧ Below w.heap.size w w' := by
  have lk : (Instr.lookup 85 (.map (some w.heap.size)) (.string e8) true).run Try.prog (KW w) = .ok (.tuple #[.agg #[.int .i64 8, .int .i64 4, .func (.func 69) #[] #[.pointer (some ⟨w.heap.size + 4, 0, none⟩)]], .bool true]) (KW w) := look_yes (k := 8) (by omega) w
  have mk := makeC
  have B : Hid (Below w.heap.size w ((KW w).alloc (.cells #[.int .i64 8, .int .i64 4, .func (.func 69) #[] #[.pointer (some ⟨w.heap.size + 4, 0, none⟩)]] 83))) := kw_alloc w _
  go_enter Try.func31, Try.ntmps31
  go_wp2_with fail
  refine (mk _).mono ?_
  rintro e w1 ⟨rfl, rfl⟩
  clear mk
  go_wp2
  go_ret2
  exact ⟨rfl, B.out⟩
theorem size_yes : SizeP := fun k w hk => by
  match k, hk with
  | 0, _ => exact size_0 w
  | 1, _ => exact size_1 w
  | 2, _ => exact size_2 w
  | 3, _ => exact size_3 w
  | 4, _ => exact size_4 w
  | 5, _ => exact size_5 w
  | 6, _ => exact size_6 w
  | 7, _ => exact size_7 w
  | 8, _ => exact size_8 w
end Go.Proofs.Ytllkkgcfhphgmaa
/-
  What the program's own summed, inside, within return, and slices.Contains of numbers (layer 9). Conditions: as each says.
-/
namespace Go.Proofs.Ytllkkgcfhphgmaa
open Go.RowKit
set_option linter.unusedVariables false

/-- a field's value -/
abbrev fdV (f : Fd) : Value := .agg #[.string (txt f.nm), .int .i64 f.pl, .string (txt f.kd), .int .i64 f.wd, .int .i64 f.sn, .int .i64 f.sd, .int .i64 f.on, .int .i64 f.od, .string (txt f.un)]
theorem ret_bool {x y : Bool} (h : x = y) : Ending.returned (.bool x) = .returned (.bool y) := by rw [h]

theorem sum_yes {s : ByteArray} {k : Nat} (hk : k < 9) (h : whichN s = k) : isSum s = true := by unfold isSum; rw [h]; exact decide_eq_true hk
theorem sum_not {s : ByteArray} (h : whichN s = 9) : isSum s = false := by unfold isSum; rw [h]; rfl
set_option maxRecDepth 100000 in
set_option maxHeartbeats 2000000 in
theorem summed_any (s : ByteArray) (w : World) : Calls Try.prog 23 #[.string s] w fun e w' => e = .returned (.bool (isSum s)) ∧ Below w.heap.size w w' := by
  have sz : ∃ n : Int, Hid (∀ w, Calls Try.prog 31 #[.string s] w fun e w' => e = .returned (.tuple #[.int .i64 n, .bool (isSum s)]) ∧ Below w.heap.size w w') := by
    rcases which_cases s with ⟨k, hk, e, hw⟩ | ⟨hw, hn⟩
    · rw [sum_yes hk hw, e]
      exact ⟨_, fun x => size_yes k x hk⟩
    · rw [sum_not hw]
      exact ⟨0, fun x => size_no s x hn⟩
  obtain ⟨n, sz⟩ := sz
  generalize isSum s = T at *
  go_enter Try.func23, Try.ntmps23
  go_wp2_with fail
  refine (sz.out _).mono ?_
  rintro e w1 ⟨rfl, hb⟩
  have B : Hid (Below w.heap.size w w1) := hb
  clear hb sz
  go_wp2
  go_ret
  exact ⟨rfl, B.out⟩
set_option maxRecDepth 100000 in
set_option maxHeartbeats 2000000 in
theorem inside_any (sz : Int) (f : Fd) (w : World) (h : I64 sz) : Calls Try.prog 35 #[fdV f, .int .i64 sz] w fun e w' => e = .returned (.bool (gdP sz f)) ∧ Below w.heap.size w w' := by
  obtain ⟨nm, pl, kd, wd, sn, sd, on, od, un⟩ := f
  unfold gdP I64 at *
  simp only at *
  obtain ⟨h1, h2⟩ := h
  have B : Hid (∀ o, Below w.heap.size w (w.alloc o)) := fun o => (Below.refl _ _).alloc (Nat.le_refl _) o
  by_cases c1 : 0 ≤ pl
  · rw [decide_eq_true c1]
    by_cases c2 : pl < sz
    · rw [decide_eq_true c2]
      by_cases c3 : wd ≤ sz - pl
      · rw [decide_eq_true c3]
        go_enter Try.func35, Try.ntmps35
        go_wp2
        go_ret
        exact ⟨rfl, B.out _⟩
      · rw [decide_eq_false c3]
        go_enter Try.func35, Try.ntmps35
        go_wp2
        go_ret
        exact ⟨rfl, B.out _⟩
    · rw [decide_eq_false c2]
      go_enter Try.func35, Try.ntmps35
      go_wp2
      go_ret
      exact ⟨rfl, B.out _⟩
  · rw [decide_eq_false c1]
    go_enter Try.func35, Try.ntmps35
    go_wp2
    go_ret
    exact ⟨rfl, B.out _⟩
/-- numbers in memory -/
def IntsIn (x : World) (g o : Nat) (ns : List Int) : Prop := ∀ j (h : j < ns.length), x.cell? ⟨g, o + j, none⟩ = some (.int .i64 ns[j])
def AllI (lo hi : Int) (l : List Int) (T : Bool) : Prop := l.all (inB lo hi) = T
theorem AllI.fin {lo hi : Int} {T : Bool} (h : AllI lo hi [] T) : true = T := h
theorem AllI.no {lo hi n : Int} {l : List Int} {T : Bool} (h : AllI lo hi (n :: l) T) (hn : n < lo ∨ hi < n) : false = T := by
  unfold AllI at h
  rw [← h, List.all_cons]
  have : inB lo hi n = false := by unfold inB; rw [Bool.and_eq_false_iff, decide_eq_false_iff_not, decide_eq_false_iff_not]; omega
  rw [this]; rfl
theorem AllI.yes {lo hi n : Int} {l : List Int} {T : Bool} (h : AllI lo hi (n :: l) T) (h1 : lo ≤ n) (h2 : n ≤ hi) : AllI lo hi l T := by
  unfold AllI at *
  rw [← h, List.all_cons]
  have : inB lo hi n = true := by unfold inB; rw [Bool.and_eq_true, decide_eq_true_eq, decide_eq_true_eq]; omega
  rw [this]; rfl
set_option maxRecDepth 100000 in
set_option maxHeartbeats 2000000 in
theorem within_any (lo hi : Int) (ns : List Int) (g o cap : Nat) (w : World) (hc : IntsIn w g o ns) (hl : (ns.length : Int) ≤ 100) :
    Calls Try.prog 47 #[.int .i64 lo, .int .i64 hi, .slice (some ⟨g, o, none⟩) ns.length cap] w fun e w' => e = .returned (.bool (ns.all (inB lo hi))) ∧ w' = w := by
  obtain ⟨T, hT⟩ : ∃ T, ns.all (inB lo hi) = T := ⟨_, rfl⟩
  rw [hT]
  have I0 : Hid (AllI lo hi (ns.drop 0) T) := hT
  clear hT
  obtain ⟨len, hlen⟩ : ∃ len, ns.length = len := ⟨_, rfl⟩
  rw [hlen] at hl ⊢
  replace hlen : Hid (ns.length = len) := hlen
  replace hc : Hid (IntsIn w g o ns) := hc
  go_enter Try.func47, Try.ntmps47
  go_wp2
  go_loop [11] (fun vi => ∃ k : Nat, (k : Int) ≤ (len : Int) ∧ vi = .int .i64 (k : Int) ∧ Hid (AllI lo hi (ns.drop k) T)) (fun vi => len - (intOf vi).toNat)
  case atStart => exact ⟨0, by omega, rfl, I0⟩
  case round =>
    obtain ⟨k, hk, rfl, lf⟩ := hrel
    clear I0
    by_cases hlt : (k : Int) < (len : Int)
    · have hkl : k < ns.length := by have := hlen.out; omega
      have c := hc.out k hkl
      have lq := lf.out
      rw [List.drop_eq_getElem_cons hkl] at lq
      generalize ns[k] = n at *
      clear lf hc hkl
      by_cases c1 : n < lo
      · have fin : Hid (false = T) := lq.no (.inl c1)
        clear lq
        go_wp2
        go_ret
        exact ⟨ret_bool fin.out, rfl⟩
      · by_cases c2 : hi < n
        · have fin : Hid (false = T) := lq.no (.inr c2)
          clear lq
          go_wp2
          go_ret
          exact ⟨ret_bool fin.out, rfl⟩
        · have nx : Hid (AllI lo hi (ns.drop (k + 1)) T) := lq.yes (by omega) (by omega)
          clear lq
          go_wp2
          exact ⟨⟨k + 1, by omega, by simp, nx⟩, by simp [intOf]; omega⟩
    · obtain rfl : k = len := by omega
      have fin : Hid (true = T) := by
        have lq := lf.out
        rw [List.drop_of_length_le (by have := hlen.out; omega)] at lq
        exact lq.fin
      clear lf hc
      go_wp2
      go_ret
      exact ⟨ret_bool fin.out, rfl⟩
def HasN (n : Int) (l : List Int) (T : Bool) : Prop := l.any (fun m => decide (n = m)) = T
theorem HasN.fin {n : Int} {T : Bool} (h : HasN n [] T) : false = T := h
theorem HasN.yes {n m : Int} {l : List Int} {T : Bool} (h : HasN n (m :: l) T) (e : n = m) : true = T := by
  unfold HasN at h
  rw [← h, List.any_cons, decide_eq_true e]; rfl
theorem HasN.no {n m : Int} {l : List Int} {T : Bool} (h : HasN n (m :: l) T) (e : ¬ n = m) : HasN n l T := by
  unfold HasN at *
  rw [← h, List.any_cons, decide_eq_false e]; rfl
set_option maxRecDepth 100000 in
set_option maxHeartbeats 2000000 in
theorem index_any (n : Int) (ns : List Int) (g o cap : Nat) (w : World) (hc : IntsIn w g o ns) (hl : (ns.length : Int) ≤ 100) :
    Calls Try.prog 57 #[.slice (some ⟨g, o, none⟩) ns.length cap, .int .i64 n] w fun e w' => (∃ r : Int, e = .returned (.int .i64 r) ∧ (-1 ≤ r ∧ r ≤ 100) ∧ decide (0 ≤ r) = ns.any (fun m => decide (n = m))) ∧ w' = w := by
  obtain ⟨T, hT⟩ : ∃ T, ns.any (fun m => decide (n = m)) = T := ⟨_, rfl⟩
  rw [hT]
  have I0 : Hid (HasN n (ns.drop 0) T) := hT
  clear hT
  obtain ⟨len, hlen⟩ : ∃ len, ns.length = len := ⟨_, rfl⟩
  rw [hlen] at hl ⊢
  replace hlen : Hid (ns.length = len) := hlen
  replace hc : Hid (IntsIn w g o ns) := hc
  go_enter Try.func57, Try.ntmps57
  go_wp2
  go_loop [8] (fun vi => ∃ k : Nat, (k : Int) ≤ (len : Int) ∧ vi = .int .i64 (k : Int) ∧ Hid (HasN n (ns.drop k) T)) (fun vi => len - (intOf vi).toNat)
  case atStart => exact ⟨0, by omega, rfl, I0⟩
  case round =>
    obtain ⟨k, hk, rfl, lf⟩ := hrel
    clear I0
    by_cases hlt : (k : Int) < (len : Int)
    · have hkl : k < ns.length := by have := hlen.out; omega
      have c := hc.out k hkl
      have lq := lf.out
      rw [List.drop_eq_getElem_cons hkl] at lq
      generalize ns[k] = m at *
      clear lf hc hkl
      by_cases c1 : n = m
      · have fin : Hid (true = T) := lq.yes c1
        have q : (n == m) = true := beq_iff_eq.2 c1
        clear lq
        go_wp2
        go_ret
        exact ⟨⟨_, rfl, ⟨by omega, by omega⟩, by rw [← fin.out]; exact decide_eq_true (by omega)⟩, rfl⟩
      · have nx : Hid (HasN n (ns.drop (k + 1)) T) := lq.no c1
        have q : (n == m) = false := beq_eq_false_iff_ne.2 c1
        clear lq
        go_wp2
        exact ⟨⟨k + 1, by omega, by simp, nx⟩, by simp [intOf]; omega⟩
    · obtain rfl : k = len := by omega
      have fin : Hid (false = T) := by
        have lq := lf.out
        rw [List.drop_of_length_le (by have := hlen.out; omega)] at lq
        exact lq.fin
      clear lf hc
      go_wp2
      go_ret
      exact ⟨⟨_, rfl, ⟨by omega, by omega⟩, by rw [← fin.out]; rfl⟩, rfl⟩
set_option maxRecDepth 100000 in
set_option maxHeartbeats 2000000 in
theorem contains_any (n : Int) (ns : List Int) (g o cap : Nat) (w : World) (hc : IntsIn w g o ns) (hl : (ns.length : Int) ≤ 100) :
    Calls Try.prog 48 #[.slice (some ⟨g, o, none⟩) ns.length cap, .int .i64 n] w fun e w' => e = .returned (.bool (ns.any (fun m => decide (n = m)))) ∧ w' = w := by
  have ix := index_any n ns g o cap w hc hl
  replace ix : Hid (Calls Try.prog 57 #[.slice (some ⟨g, o, none⟩) ns.length cap, .int .i64 n] w fun e w' => (∃ r : Int, e = .returned (.int .i64 r) ∧ (-1 ≤ r ∧ r ≤ 100) ∧ decide (0 ≤ r) = ns.any (fun m => decide (n = m))) ∧ w' = w) := ix
  clear hc hl
  generalize ns.any (fun m => decide (n = m)) = T at *
  generalize ns.length = len at *
  go_enter Try.func48, Try.ntmps48
  go_wp2_with fail
  refine ix.out.mono ?_
  rintro e w1 ⟨⟨r, rfl, hr, hd⟩, hw⟩
  obtain rfl := hw.symm
  clear ix
  subst hd
  go_wp2
  go_ret
  exact ⟨rfl, rfl⟩
end Go.Proofs.Ytllkkgcfhphgmaa
/-
  Fields and a device in memory; what the program's own named returns (layer 9). Conditions: as each says.
-/
namespace Go.Proofs.Ytllkkgcfhphgmaa
open Go.RowKit
set_option linter.unusedVariables false

/-- fields in memory that was there, or none, wherever they would lie -/
def FldsV (x : World) (v : Value) (fs : List Fd) : Prop := (∃ a c, v = .slice a 0 c ∧ fs = []) ∨ ∃ g o cap, v = .slice (some ⟨g, o, none⟩) fs.length cap ∧ fs.length ≤ cap ∧ FldsIn x g o fs ∧ g < x.heap.size
theorem FldsV.below {x y : World} {v : Value} {fs : List Fd} (h : FldsV x v fs) (k : Below x.heap.size x y) : FldsV y v fs := by
  rcases h with h | ⟨g, o, cap, h1, h0, h2, h3⟩
  · exact .inl h
  · exact .inr ⟨g, o, cap, h1, h0, fun j hj i u hu => (k.cell (p := ⟨g, o + 9 * j + i, none⟩) h3).trans (h2 j hj i u hu), Nat.lt_of_lt_of_le h3 k.size⟩
theorem FldsV.form {x : World} {v : Value} {fs : List Fd} (h : FldsV x v fs) : ∃ p cap, v = .slice p fs.length cap := by
  rcases h with ⟨a, c, h, rfl⟩ | ⟨g, o, cap, h, _⟩
  · exact ⟨_, _, h⟩
  · exact ⟨_, _, h⟩
/-- a field's nine cells -/
theorem FldsIn.cells {x : World} {g o : Nat} {fs : List Fd} (h : FldsIn x g o fs) {j : Nat} (hj : j < fs.length) {f : Fd} (hf : fs[j] = f) :
    x.cell? ⟨g, o + j * 9, none⟩ = some (.string (txt f.nm)) ∧ x.cell? ⟨g, o + j * 9 + 1, none⟩ = some (.int .i64 f.pl) ∧ x.cell? ⟨g, o + j * 9 + 2, none⟩ = some (.string (txt f.kd)) ∧ x.cell? ⟨g, o + j * 9 + 3, none⟩ = some (.int .i64 f.wd)
    ∧ x.cell? ⟨g, o + j * 9 + 4, none⟩ = some (.int .i64 f.sn) ∧ x.cell? ⟨g, o + j * 9 + 5, none⟩ = some (.int .i64 f.sd) ∧ x.cell? ⟨g, o + j * 9 + 6, none⟩ = some (.int .i64 f.on) ∧ x.cell? ⟨g, o + j * 9 + 7, none⟩ = some (.int .i64 f.od) ∧ x.cell? ⟨g, o + j * 9 + 8, none⟩ = some (.string (txt f.un)) := by
  subst hf
  have k := h j hj
  rw [Nat.mul_comm 9 j] at k
  exact ⟨k 0 _ rfl, k 1 _ rfl, k 2 _ rfl, k 3 _ rfl, k 4 _ rfl, k 5 _ rfl, k 6 _ rfl, k 7 _ rfl, k 8 _ rfl⟩
theorem FldsIn.take {x : World} {g o : Nat} {fs : List Fd} (h : FldsIn x g o fs) (k : Nat) : FldsIn x g o (fs.take k) := by
  intro j hj i u hu
  rw [List.length_take] at hj
  refine h j (by omega) i u ?_
  rwa [List.getElem_take] at hu
theorem txtw_eqL (a b : Wd) : ((txt a).toList == (txt b).toList) = decide (a = b) := by
  have e : ∀ z, (txt z).toList = z := fun z => by rw [ByteArray.toList_eq]; rfl
  rw [e, e]
  by_cases h : a = b
  · rw [h, decide_eq_true rfl]; exact beq_self_eq_true _
  · rw [decide_eq_false h]; exact beq_eq_false_iff_ne.2 h
set_option maxRecDepth 100000 in
set_option maxHeartbeats 2000000 in
theorem named1_any (nm : Wd) (f : Fd) (p : Nat) (w : World) (hp : w.cell? ⟨p, 0, none⟩ = some (.string (txt nm))) :
    Calls Try.prog 59 #[fdV f, .pointer (some ⟨p, 0, none⟩)] w fun e w' => e = .returned (.bool (decide (f.nm = nm))) ∧ Below w.heap.size w w' := by
  obtain ⟨fm, pl, kd, wd, sn, sd, on, od, un⟩ := f
  have q2 := txtw_eqL fm nm
  have B : Hid (∀ o, Below w.heap.size w (w.alloc o)) := fun o => (Below.refl _ _).alloc (Nat.le_refl _) o
  have hpa : ∀ o, (w.alloc o).cell? ⟨p, 0, none⟩ = some (.string (txt nm)) := fun o => (((Below.refl _ _).alloc (Nat.le_refl _) o).cell (p := ⟨p, 0, none⟩) (block_lt_of_cell hp)).trans hp
  have hpb := hpa (.cells #[.string (txt fm), .int .i64 pl, .string (txt kd), .int .i64 wd, .int .i64 sn, .int .i64 sd, .int .i64 on, .int .i64 od, .string (txt un)] 45)
  clear hpa hp
  unfold fdV
  simp only
  generalize decide (fm = nm) = T at *
  generalize txt fm = S1 at *
  generalize txt nm = S2 at *
  go_enter Try.func59, Try.ntmps59
  go_wp2
  go_ret
  exact ⟨rfl, B.out _⟩
def HasW (nm : Wd) (l : List Fd) (T : Bool) : Prop := decide (nm ∈ l.map (·.nm)) = T
theorem HasW.fin {nm : Wd} {T : Bool} (h : HasW nm [] T) : false = T := h
theorem HasW.yes {nm : Wd} {f : Fd} {l : List Fd} {T : Bool} (h : HasW nm (f :: l) T) (e : decide (f.nm = nm) = true) : true = T := by
  unfold HasW at h
  rw [← h, decide_eq_true (by rw [List.map_cons, List.mem_cons]; exact .inl (of_decide_eq_true e).symm)]
theorem HasW.no {nm : Wd} {f : Fd} {l : List Fd} {T : Bool} (h : HasW nm (f :: l) T) (e : decide (f.nm = nm) = false) : HasW nm l T := by
  unfold HasW at *
  rw [← h, decide_eq_decide, List.map_cons, List.mem_cons]
  have := of_decide_eq_false e
  exact ⟨.inr, fun k => k.elim (fun k => absurd k.symm this) id⟩
set_option maxRecDepth 100000 in
set_option maxHeartbeats 4000000 in
theorem idxf_any (nm : Wd) (p : Nat) (v : Value) (fs : List Fd) (w : World) (hp : w.cell? ⟨p, 0, none⟩ = some (.string (txt nm))) (hv : FldsV w v fs) (hl : (fs.length : Int) ≤ 100) :
    Calls Try.prog 68 #[v, .func (.func 59) #[] #[.pointer (some ⟨p, 0, none⟩)]] w fun e w' => (∃ r : Int, e = .returned (.int .i64 r) ∧ (-1 ≤ r ∧ r ≤ 100) ∧ decide (0 ≤ r) = decide (nm ∈ fs.map (·.nm))) ∧ Below w.heap.size w w' := by
  obtain ⟨pv, cap, rfl⟩ := hv.form
  obtain ⟨T, hT⟩ : ∃ T, decide (nm ∈ fs.map (·.nm)) = T := ⟨_, rfl⟩
  rw [hT]
  have I0 : Hid (HasW nm (fs.drop 0) T) := hT
  clear hT
  obtain ⟨len, hlen⟩ : ∃ len, fs.length = len := ⟨_, rfl⟩
  rw [hlen] at hl hv ⊢
  replace hlen : Hid (fs.length = len) := hlen
  replace hv : Hid (FldsV w (.slice pv len cap) fs) := hv
  replace hp : Hid (w.cell? ⟨p, 0, none⟩ = some (.string (txt nm))) := hp
  have B0 : Hid (Below w.heap.size w w) := Below.refl _ _
  go_enter Try.func68, Try.ntmps68
  go_wp2
  go_loopw [8] (fun vi wr => ∃ k : Nat, (k : Int) ≤ (len : Int) ∧ vi = .int .i64 (k : Int) ∧ Hid (HasW nm (fs.drop k) T) ∧ Hid (Below w.heap.size w wr)) (fun vi _ => len - (intOf vi).toNat)
  case atStart => exact ⟨0, by omega, rfl, I0, B0⟩
  case round =>
    obtain ⟨k, hk, rfl, lf, B⟩ := hrel
    clear I0 B0
    by_cases hlt : (k : Int) < (len : Int)
    · have hkl : k < fs.length := by have := hlen.out; omega
      have hvr := hv.out.below B.out
      have hpr := (B.out.cell (p := ⟨p, 0, none⟩) (block_lt_of_cell hp.out)).trans hp.out
      have lq := lf.out
      rw [List.drop_eq_getElem_cons hkl] at lq
      rcases hvr with ⟨_, _, _, e⟩ | ⟨g, o, cap', e, _, hin, _⟩
      · rw [e] at hkl; cases hkl
      · injection e with e1 e2 e3
        subst e1
        obtain ⟨f, hf⟩ : ∃ f, fs[k] = f := ⟨_, rfl⟩
        obtain ⟨c0, c1, c2, c3, c4, c5, c6, c7, c8⟩ := hin.cells hkl hf
        rw [hf] at lq
        have nc : Hid (Calls Try.prog 59 #[fdV f, .pointer (some ⟨p, 0, none⟩)] wr fun e w' => e = .returned (.bool (decide (f.nm = nm))) ∧ Below wr.heap.size wr w') := named1_any nm f p wr hpr
        obtain ⟨fm, pl, kd, wd, sn, sd, on, od, un⟩ := f
        simp only at c0 c1 c2 c3 c4 c5 c6 c7 c8 nc
        replace lq : Hid (HasW nm (⟨fm, pl, kd, wd, sn, sd, on, od, un⟩ :: fs.drop (k + 1)) T) := lq
        clear lf hin hf hpr e2 e3 hv hp
        go_wp2_with fail
        refine nc.out.mono ?_
        clear nc c0 c1 c2 c3 c4 c5 c6 c7 c8
        rintro e w1 ⟨rfl, hb⟩
        have B1 : Hid (Below w.heap.size w w1) := B.out.trans (hb.mono B.out.size)
        clear hb B
        cases hd : decide (fm = nm)
        · have nx : Hid (HasW nm (fs.drop (k + 1)) T) := lq.out.no hd
          clear lq hd
          go_wp2
          exact ⟨⟨k + 1, by omega, by simp, nx, B1⟩, by simp [intOf]; omega⟩
        · have fin : Hid (true = T) := lq.out.yes hd
          clear lq hd
          go_wp2
          go_ret
          exact ⟨⟨_, rfl, ⟨by omega, by omega⟩, by rw [← fin.out]; exact decide_eq_true (by omega)⟩, B1.out⟩
    · obtain rfl : k = len := by omega
      have fin : Hid (false = T) := by
        have lq := lf.out
        rw [List.drop_of_length_le (by have := hlen.out; omega)] at lq
        exact lq.fin
      clear lf hv hp
      go_wp2
      go_ret
      exact ⟨⟨_, rfl, ⟨by omega, by omega⟩, by rw [← fin.out]; rfl⟩, B.out⟩
set_option maxRecDepth 100000 in
set_option maxHeartbeats 4000000 in
theorem contf_any (nm : Wd) (p : Nat) (v : Value) (fs : List Fd) (w : World) (hp : w.cell? ⟨p, 0, none⟩ = some (.string (txt nm))) (hv : FldsV w v fs) (hl : (fs.length : Int) ≤ 100) :
    Calls Try.prog 58 #[v, .func (.func 59) #[] #[.pointer (some ⟨p, 0, none⟩)]] w fun e w' => e = .returned (.bool (decide (nm ∈ fs.map (·.nm)))) ∧ Below w.heap.size w w' := by
  have ix : Hid (Calls Try.prog 68 #[v, .func (.func 59) #[] #[.pointer (some ⟨p, 0, none⟩)]] w fun e w' => (∃ r : Int, e = .returned (.int .i64 r) ∧ (-1 ≤ r ∧ r ≤ 100) ∧ decide (0 ≤ r) = decide (nm ∈ fs.map (·.nm))) ∧ Below w.heap.size w w') := idxf_any nm p v fs w hp hv hl
  obtain ⟨pv, cap, rfl⟩ := hv.form
  clear hp hv hl
  generalize decide (nm ∈ fs.map (·.nm)) = T at *
  go_enter Try.func58, Try.ntmps58
  go_wp2_with fail
  refine ix.out.mono ?_
  rintro e w1 ⟨⟨r, rfl, hr, hd⟩, hb⟩
  replace hb : Hid (Below w.heap.size w w1) := hb
  clear ix
  subst hd
  go_wp2
  go_ret
  exact ⟨rfl, hb.out⟩
set_option maxRecDepth 100000 in
set_option maxHeartbeats 4000000 in
theorem named_any (nm : Wd) (v : Value) (fs : List Fd) (w : World) (hv : FldsV w v fs) (hl : (fs.length : Int) ≤ 100) :
    Calls Try.prog 51 #[v, .string (txt nm)] w fun e w' => e = .returned (.bool (decide (nm ∈ fs.map (·.nm)))) ∧ Below w.heap.size w w' := by
  have hb0 : Below w.heap.size w (w.alloc (.cells #[.string (txt nm)] 9)) := (Below.refl _ _).alloc (Nat.le_refl _) _
  have cf := contf_any nm w.heap.size v fs (w.alloc (.cells #[.string (txt nm)] 9)) (by simp) (hv.below hb0) hl
  replace cf : Hid (Calls Try.prog 58 #[v, .func (.func 59) #[] #[.pointer (some ⟨w.heap.size, 0, none⟩)]] (w.alloc (.cells #[.string (txt nm)] 9)) fun e w' => e = .returned (.bool (decide (nm ∈ fs.map (·.nm)))) ∧ Below (w.alloc (.cells #[.string (txt nm)] 9)).heap.size (w.alloc (.cells #[.string (txt nm)] 9)) w') := cf
  have hmf : ∀ (fn : Fn) (first cap : Array Value) (w : World), (Instr.makeFunc fn first cap).run Try.prog w = .ok (.func fn first cap) w := fun _ _ _ _ => rfl
  replace hb0 : Hid (Below w.heap.size w (w.alloc (.cells #[.string (txt nm)] 9))) := hb0
  obtain ⟨pv, cap, rfl⟩ := hv.form
  clear hv hl
  generalize decide (nm ∈ fs.map (·.nm)) = T at *
  generalize txt nm = S at *
  go_enter Try.func51, Try.ntmps51
  go_wp2_with fail
  refine cf.out.mono ?_
  rintro e w1 ⟨rfl, hb⟩
  have B1 : Hid (Below w.heap.size w w1) := hb0.out.trans (hb.mono hb0.out.size)
  clear cf hb hb0
  go_wp2
  go_ret
  exact ⟨rfl, B1.out⟩
end Go.Proofs.Ytllkkgcfhphgmaa
/-
  A device, a field in blocks of their own; what the program's own must and ask return, and what must's closure does (layer 9). Conditions: as each says.
-/
namespace Go.Proofs.Ytllkkgcfhphgmaa
open Go.RowKit
set_option linter.unusedVariables false

def dvL (d : Dv) (fv qv : Value) : List Value := [.string (txt d.nm), .int .i64 d.st, .int .i64 d.es, .int .i64 d.mx, .int .i64 d.sz, .string (txt d.sm), fv, qv, .int .i64 d.po, .int .i64 d.ti, .int .i64 d.re, .int .i64 d.ag]
/-- a device in a block -/
structure DevB (x : World) (b : Nat) (d : Dv) (fv qv : Value) : Prop where
  c : ∀ k v, (dvL d fv qv)[k]? = some v → x.cell? ⟨b, k, none⟩ = some v
  fl : FldsV x fv d.fs
  lt : b < x.heap.size
theorem DevB.below {x y : World} {b : Nat} {d : Dv} {fv qv : Value} (h : DevB x b d fv qv) (k : Below x.heap.size x y) : DevB y b d fv qv :=
  ⟨fun i v hv => (k.cell (p := ⟨b, i, none⟩) h.lt).trans (h.c i v hv), h.fl.below k, Nat.lt_of_lt_of_le h.lt k.size⟩
theorem DevB.cells {x : World} {b : Nat} {d : Dv} {fv qv : Value} (h : DevB x b d fv qv) :
    x.cell? ⟨b, 0, none⟩ = some (.string (txt d.nm)) ∧ x.cell? ⟨b, 1, none⟩ = some (.int .i64 d.st) ∧ x.cell? ⟨b, 2, none⟩ = some (.int .i64 d.es) ∧ x.cell? ⟨b, 3, none⟩ = some (.int .i64 d.mx) ∧ x.cell? ⟨b, 4, none⟩ = some (.int .i64 d.sz) ∧ x.cell? ⟨b, 5, none⟩ = some (.string (txt d.sm))
    ∧ x.cell? ⟨b, 6, none⟩ = some fv ∧ x.cell? ⟨b, 7, none⟩ = some qv ∧ x.cell? ⟨b, 8, none⟩ = some (.int .i64 d.po) ∧ x.cell? ⟨b, 9, none⟩ = some (.int .i64 d.ti) ∧ x.cell? ⟨b, 10, none⟩ = some (.int .i64 d.re) ∧ x.cell? ⟨b, 11, none⟩ = some (.int .i64 d.ag) :=
  ⟨h.c 0 _ rfl, h.c 1 _ rfl, h.c 2 _ rfl, h.c 3 _ rfl, h.c 4 _ rfl, h.c 5 _ rfl, h.c 6 _ rfl, h.c 7 _ rfl, h.c 8 _ rfl, h.c 9 _ rfl, h.c 10 _ rfl, h.c 11 _ rfl⟩
theorem cells_new (w : World) (l : List Value) (T : TypeId) : ∀ k v, l[k]? = some v → (w.alloc (.cells l.toArray T)).cell? ⟨w.heap.size, k, none⟩ = some v := by
  intro k v hv
  have hb : (w.alloc (.cells l.toArray T)).heap[w.heap.size]? = some (.cells l.toArray T) := World.alloc_heap_new w _
  simp only [World.cell?, hb, List.getElem?_toArray, hv]
  rfl
theorem DevB.new {w : World} {d : Dv} {fv qv : Value} (h : FldsV w fv d.fs) (T : TypeId) : DevB (w.alloc (.cells #[.string (txt d.nm), .int .i64 d.st, .int .i64 d.es, .int .i64 d.mx, .int .i64 d.sz, .string (txt d.sm), fv, qv, .int .i64 d.po, .int .i64 d.ti, .int .i64 d.re, .int .i64 d.ag] T)) w.heap.size d fv qv :=
  ⟨cells_new w (dvL d fv qv) T, h.below ((Below.refl _ _).alloc (Nat.le_refl _) _), by rw [World.size_alloc]; omega⟩
/-- a field in a block -/
structure FdB (x : World) (b : Nat) (f : Fd) : Prop where
  c : ∀ k v, (fdC f)[k]? = some v → x.cell? ⟨b, k, none⟩ = some v
  lt : b < x.heap.size
theorem FdB.below {x y : World} {b : Nat} {f : Fd} (h : FdB x b f) (k : Below x.heap.size x y) : FdB y b f :=
  ⟨fun i v hv => (k.cell (p := ⟨b, i, none⟩) h.lt).trans (h.c i v hv), Nat.lt_of_lt_of_le h.lt k.size⟩
theorem FdB.cells {x : World} {b : Nat} {f : Fd} (h : FdB x b f) :
    x.cell? ⟨b, 0, none⟩ = some (.string (txt f.nm)) ∧ x.cell? ⟨b, 1, none⟩ = some (.int .i64 f.pl) ∧ x.cell? ⟨b, 2, none⟩ = some (.string (txt f.kd)) ∧ x.cell? ⟨b, 3, none⟩ = some (.int .i64 f.wd)
    ∧ x.cell? ⟨b, 4, none⟩ = some (.int .i64 f.sn) ∧ x.cell? ⟨b, 5, none⟩ = some (.int .i64 f.sd) ∧ x.cell? ⟨b, 6, none⟩ = some (.int .i64 f.on) ∧ x.cell? ⟨b, 7, none⟩ = some (.int .i64 f.od) ∧ x.cell? ⟨b, 8, none⟩ = some (.string (txt f.un)) :=
  ⟨h.c 0 _ rfl, h.c 1 _ rfl, h.c 2 _ rfl, h.c 3 _ rfl, h.c 4 _ rfl, h.c 5 _ rfl, h.c 6 _ rfl, h.c 7 _ rfl, h.c 8 _ rfl⟩
theorem FdB.new (w : World) (f : Fd) (T : TypeId) : FdB (w.alloc (.cells #[.string (txt f.nm), .int .i64 f.pl, .string (txt f.kd), .int .i64 f.wd, .int .i64 f.sn, .int .i64 f.sd, .int .i64 f.on, .int .i64 f.od, .string (txt f.un)] T)) w.heap.size f :=
  ⟨cells_new w (fdC f) T, by rw [World.size_alloc]; omega⟩
/-- a question that must made: the two boxes -/
structure MuAt (x : World) (p q : Nat) (F : Value) (n : Int) : Prop where
  f : x.cell? ⟨p, 0, none⟩ = some F
  n : x.cell? ⟨q, 0, none⟩ = some (.int .i64 n)
theorem MuAt.below {x y : World} {p q : Nat} {F : Value} {n : Int} (h : MuAt x p q F n) (k : Below x.heap.size x y) : MuAt y p q F n :=
  ⟨(k.cell (p := ⟨p, 0, none⟩) (block_lt_of_cell h.f)).trans h.f, (k.cell (p := ⟨q, 0, none⟩) (block_lt_of_cell h.n)).trans h.n⟩
set_option maxRecDepth 100000 in
set_option maxHeartbeats 2000000 in
theorem must_any (n : Int) (N : FuncId) (caps : Array Value) (w : World) : Calls Try.prog 18 #[.int .i64 n, .func (.func N) #[] caps] w fun e w' => ∃ p q, e = .returned (.func (.func 46) #[] #[.pointer (some ⟨p, 0, none⟩), .pointer (some ⟨q, 0, none⟩)]) ∧ MuAt w' p q (.func (.func N) #[] caps) n ∧ Below w.heap.size w w' := by
  have hmf : ∀ (fn : Fn) (first cap : Array Value) (w : World), (Instr.makeFunc fn first cap).run Try.prog w = .ok (.func fn first cap) w := fun _ _ _ _ => rfl
  go_enter Try.func18, Try.ntmps18
  go_wp2
  go_ret
  refine ⟨_, _, rfl, ⟨?_, ?_⟩, ?_⟩
  · simp
  · simp
  · go_grown
/-- what a question answers -/
abbrev QA (x : World) (n : Int) : Ending → World → Prop := fun e y => e = .returned (.int .i64 n) ∧ Below x.heap.size x y
abbrev BA (x : World) (b : Bool) : Ending → World → Prop := fun e y => e = .returned (.bool b) ∧ Below x.heap.size x y
set_option maxRecDepth 100000 in
set_option maxHeartbeats 2000000 in
theorem must1_0 (c0 p q : Nat) (n : Int) (B : Bool) (x : World) (h : MuAt x p q (.func (.func 19) #[] #[.pointer (some ⟨c0, 0, none⟩)]) n) (hc : Calls Try.prog 19 #[.pointer (some ⟨c0, 0, none⟩)] x (BA x B)) : Calls Try.prog 46 #[.pointer (some ⟨p, 0, none⟩), .pointer (some ⟨q, 0, none⟩)] x (QA x (orE B n)) := by
  have m := h.f
  have m2 : Hid (x.cell? ⟨q, 0, none⟩ = some (.int .i64 n)) := h.n
  replace hc : Hid (Calls Try.prog 19 #[.pointer (some ⟨c0, 0, none⟩)] x (BA x B)) := hc
  clear h
  go_enter Try.func46, Try.ntmps46
  go_wp2_with fail
  refine hc.out.mono ?_
  rintro e y ⟨rfl, hb⟩
  have k2 : y.cell? ⟨q, 0, none⟩ = some (.int .i64 n) := (hb.cell (p := ⟨q, 0, none⟩) (block_lt_of_cell m2.out)).trans m2.out
  have b1 : Hid (Below x.heap.size x y) := hb
  clear hc m2 m hb
  cases B
  · go_wp2
    go_ret
    exact ⟨rfl, b1.out⟩
  · go_wp2
    go_ret
    exact ⟨rfl, b1.out⟩
set_option maxRecDepth 100000 in
set_option maxHeartbeats 2000000 in
theorem must1_1 (c0 p q : Nat) (n : Int) (B : Bool) (x : World) (h : MuAt x p q (.func (.func 22) #[] #[.pointer (some ⟨c0, 0, none⟩)]) n) (hc : Calls Try.prog 22 #[.pointer (some ⟨c0, 0, none⟩)] x (BA x B)) : Calls Try.prog 46 #[.pointer (some ⟨p, 0, none⟩), .pointer (some ⟨q, 0, none⟩)] x (QA x (orE B n)) := by
  have m := h.f
  have m2 : Hid (x.cell? ⟨q, 0, none⟩ = some (.int .i64 n)) := h.n
  replace hc : Hid (Calls Try.prog 22 #[.pointer (some ⟨c0, 0, none⟩)] x (BA x B)) := hc
  clear h
  go_enter Try.func46, Try.ntmps46
  go_wp2_with fail
  refine hc.out.mono ?_
  rintro e y ⟨rfl, hb⟩
  have k2 : y.cell? ⟨q, 0, none⟩ = some (.int .i64 n) := (hb.cell (p := ⟨q, 0, none⟩) (block_lt_of_cell m2.out)).trans m2.out
  have b1 : Hid (Below x.heap.size x y) := hb
  clear hc m2 m hb
  cases B
  · go_wp2
    go_ret
    exact ⟨rfl, b1.out⟩
  · go_wp2
    go_ret
    exact ⟨rfl, b1.out⟩
set_option maxRecDepth 100000 in
set_option maxHeartbeats 2000000 in
theorem must1_2 (c0 p q : Nat) (n : Int) (B : Bool) (x : World) (h : MuAt x p q (.func (.func 24) #[] #[.pointer (some ⟨c0, 0, none⟩)]) n) (hc : Calls Try.prog 24 #[.pointer (some ⟨c0, 0, none⟩)] x (BA x B)) : Calls Try.prog 46 #[.pointer (some ⟨p, 0, none⟩), .pointer (some ⟨q, 0, none⟩)] x (QA x (orE B n)) := by
  have m := h.f
  have m2 : Hid (x.cell? ⟨q, 0, none⟩ = some (.int .i64 n)) := h.n
  replace hc : Hid (Calls Try.prog 24 #[.pointer (some ⟨c0, 0, none⟩)] x (BA x B)) := hc
  clear h
  go_enter Try.func46, Try.ntmps46
  go_wp2_with fail
  refine hc.out.mono ?_
  rintro e y ⟨rfl, hb⟩
  have k2 : y.cell? ⟨q, 0, none⟩ = some (.int .i64 n) := (hb.cell (p := ⟨q, 0, none⟩) (block_lt_of_cell m2.out)).trans m2.out
  have b1 : Hid (Below x.heap.size x y) := hb
  clear hc m2 m hb
  cases B
  · go_wp2
    go_ret
    exact ⟨rfl, b1.out⟩
  · go_wp2
    go_ret
    exact ⟨rfl, b1.out⟩
set_option maxRecDepth 100000 in
set_option maxHeartbeats 2000000 in
theorem must1_3 (c0 p q : Nat) (n : Int) (B : Bool) (x : World) (h : MuAt x p q (.func (.func 26) #[] #[.pointer (some ⟨c0, 0, none⟩)]) n) (hc : Calls Try.prog 26 #[.pointer (some ⟨c0, 0, none⟩)] x (BA x B)) : Calls Try.prog 46 #[.pointer (some ⟨p, 0, none⟩), .pointer (some ⟨q, 0, none⟩)] x (QA x (orE B n)) := by
  have m := h.f
  have m2 : Hid (x.cell? ⟨q, 0, none⟩ = some (.int .i64 n)) := h.n
  replace hc : Hid (Calls Try.prog 26 #[.pointer (some ⟨c0, 0, none⟩)] x (BA x B)) := hc
  clear h
  go_enter Try.func46, Try.ntmps46
  go_wp2_with fail
  refine hc.out.mono ?_
  rintro e y ⟨rfl, hb⟩
  have k2 : y.cell? ⟨q, 0, none⟩ = some (.int .i64 n) := (hb.cell (p := ⟨q, 0, none⟩) (block_lt_of_cell m2.out)).trans m2.out
  have b1 : Hid (Below x.heap.size x y) := hb
  clear hc m2 m hb
  cases B
  · go_wp2
    go_ret
    exact ⟨rfl, b1.out⟩
  · go_wp2
    go_ret
    exact ⟨rfl, b1.out⟩
set_option maxRecDepth 100000 in
set_option maxHeartbeats 2000000 in
theorem must1_4 (c0 p q : Nat) (n : Int) (B : Bool) (x : World) (h : MuAt x p q (.func (.func 32) #[] #[.pointer (some ⟨c0, 0, none⟩)]) n) (hc : Calls Try.prog 32 #[.pointer (some ⟨c0, 0, none⟩)] x (BA x B)) : Calls Try.prog 46 #[.pointer (some ⟨p, 0, none⟩), .pointer (some ⟨q, 0, none⟩)] x (QA x (orE B n)) := by
  have m := h.f
  have m2 : Hid (x.cell? ⟨q, 0, none⟩ = some (.int .i64 n)) := h.n
  replace hc : Hid (Calls Try.prog 32 #[.pointer (some ⟨c0, 0, none⟩)] x (BA x B)) := hc
  clear h
  go_enter Try.func46, Try.ntmps46
  go_wp2_with fail
  refine hc.out.mono ?_
  rintro e y ⟨rfl, hb⟩
  have k2 : y.cell? ⟨q, 0, none⟩ = some (.int .i64 n) := (hb.cell (p := ⟨q, 0, none⟩) (block_lt_of_cell m2.out)).trans m2.out
  have b1 : Hid (Below x.heap.size x y) := hb
  clear hc m2 m hb
  cases B
  · go_wp2
    go_ret
    exact ⟨rfl, b1.out⟩
  · go_wp2
    go_ret
    exact ⟨rfl, b1.out⟩
set_option maxRecDepth 100000 in
set_option maxHeartbeats 2000000 in
theorem must1_5 (c0 c1 p q : Nat) (n : Int) (B : Bool) (x : World) (h : MuAt x p q (.func (.func 34) #[] #[.pointer (some ⟨c0, 0, none⟩), .pointer (some ⟨c1, 0, none⟩)]) n) (hc : Calls Try.prog 34 #[.pointer (some ⟨c0, 0, none⟩), .pointer (some ⟨c1, 0, none⟩)] x (BA x B)) : Calls Try.prog 46 #[.pointer (some ⟨p, 0, none⟩), .pointer (some ⟨q, 0, none⟩)] x (QA x (orE B n)) := by
  have m := h.f
  have m2 : Hid (x.cell? ⟨q, 0, none⟩ = some (.int .i64 n)) := h.n
  replace hc : Hid (Calls Try.prog 34 #[.pointer (some ⟨c0, 0, none⟩), .pointer (some ⟨c1, 0, none⟩)] x (BA x B)) := hc
  clear h
  go_enter Try.func46, Try.ntmps46
  go_wp2_with fail
  refine hc.out.mono ?_
  rintro e y ⟨rfl, hb⟩
  have k2 : y.cell? ⟨q, 0, none⟩ = some (.int .i64 n) := (hb.cell (p := ⟨q, 0, none⟩) (block_lt_of_cell m2.out)).trans m2.out
  have b1 : Hid (Below x.heap.size x y) := hb
  clear hc m2 m hb
  cases B
  · go_wp2
    go_ret
    exact ⟨rfl, b1.out⟩
  · go_wp2
    go_ret
    exact ⟨rfl, b1.out⟩
set_option maxRecDepth 100000 in
set_option maxHeartbeats 2000000 in
theorem must1_6 (c0 p q : Nat) (n : Int) (B : Bool) (x : World) (h : MuAt x p q (.func (.func 36) #[] #[.pointer (some ⟨c0, 0, none⟩)]) n) (hc : Calls Try.prog 36 #[.pointer (some ⟨c0, 0, none⟩)] x (BA x B)) : Calls Try.prog 46 #[.pointer (some ⟨p, 0, none⟩), .pointer (some ⟨q, 0, none⟩)] x (QA x (orE B n)) := by
  have m := h.f
  have m2 : Hid (x.cell? ⟨q, 0, none⟩ = some (.int .i64 n)) := h.n
  replace hc : Hid (Calls Try.prog 36 #[.pointer (some ⟨c0, 0, none⟩)] x (BA x B)) := hc
  clear h
  go_enter Try.func46, Try.ntmps46
  go_wp2_with fail
  refine hc.out.mono ?_
  rintro e y ⟨rfl, hb⟩
  have k2 : y.cell? ⟨q, 0, none⟩ = some (.int .i64 n) := (hb.cell (p := ⟨q, 0, none⟩) (block_lt_of_cell m2.out)).trans m2.out
  have b1 : Hid (Below x.heap.size x y) := hb
  clear hc m2 m hb
  cases B
  · go_wp2
    go_ret
    exact ⟨rfl, b1.out⟩
  · go_wp2
    go_ret
    exact ⟨rfl, b1.out⟩
set_option maxRecDepth 100000 in
set_option maxHeartbeats 2000000 in
theorem must1_7 (c0 p q : Nat) (n : Int) (B : Bool) (x : World) (h : MuAt x p q (.func (.func 38) #[] #[.pointer (some ⟨c0, 0, none⟩)]) n) (hc : Calls Try.prog 38 #[.pointer (some ⟨c0, 0, none⟩)] x (BA x B)) : Calls Try.prog 46 #[.pointer (some ⟨p, 0, none⟩), .pointer (some ⟨q, 0, none⟩)] x (QA x (orE B n)) := by
  have m := h.f
  have m2 : Hid (x.cell? ⟨q, 0, none⟩ = some (.int .i64 n)) := h.n
  replace hc : Hid (Calls Try.prog 38 #[.pointer (some ⟨c0, 0, none⟩)] x (BA x B)) := hc
  clear h
  go_enter Try.func46, Try.ntmps46
  go_wp2_with fail
  refine hc.out.mono ?_
  rintro e y ⟨rfl, hb⟩
  have k2 : y.cell? ⟨q, 0, none⟩ = some (.int .i64 n) := (hb.cell (p := ⟨q, 0, none⟩) (block_lt_of_cell m2.out)).trans m2.out
  have b1 : Hid (Below x.heap.size x y) := hb
  clear hc m2 m hb
  cases B
  · go_wp2
    go_ret
    exact ⟨rfl, b1.out⟩
  · go_wp2
    go_ret
    exact ⟨rfl, b1.out⟩
set_option maxRecDepth 100000 in
set_option maxHeartbeats 2000000 in
theorem must1_8 (c0 c1 c2 p q : Nat) (n : Int) (B : Bool) (x : World) (h : MuAt x p q (.func (.func 50) #[] #[.pointer (some ⟨c0, 0, none⟩), .pointer (some ⟨c1, 0, none⟩), .pointer (some ⟨c2, 0, none⟩)]) n) (hc : Calls Try.prog 50 #[.pointer (some ⟨c0, 0, none⟩), .pointer (some ⟨c1, 0, none⟩), .pointer (some ⟨c2, 0, none⟩)] x (BA x B)) : Calls Try.prog 46 #[.pointer (some ⟨p, 0, none⟩), .pointer (some ⟨q, 0, none⟩)] x (QA x (orE B n)) := by
  have m := h.f
  have m2 : Hid (x.cell? ⟨q, 0, none⟩ = some (.int .i64 n)) := h.n
  replace hc : Hid (Calls Try.prog 50 #[.pointer (some ⟨c0, 0, none⟩), .pointer (some ⟨c1, 0, none⟩), .pointer (some ⟨c2, 0, none⟩)] x (BA x B)) := hc
  clear h
  go_enter Try.func46, Try.ntmps46
  go_wp2_with fail
  refine hc.out.mono ?_
  rintro e y ⟨rfl, hb⟩
  have k2 : y.cell? ⟨q, 0, none⟩ = some (.int .i64 n) := (hb.cell (p := ⟨q, 0, none⟩) (block_lt_of_cell m2.out)).trans m2.out
  have b1 : Hid (Below x.heap.size x y) := hb
  clear hc m2 m hb
  cases B
  · go_wp2
    go_ret
    exact ⟨rfl, b1.out⟩
  · go_wp2
    go_ret
    exact ⟨rfl, b1.out⟩
end Go.Proofs.Ytllkkgcfhphgmaa
/-
  What the program's own ask returns: the first error (layer 9). Conditions: as it says.
-/
namespace Go.Proofs.Ytllkkgcfhphgmaa
open Go.RowKit
set_option linter.unusedVariables false

/-- a question as a function value, and what it answers in every world behind w -/
def Ques (w : World) (v : Value) (n : Int) : Prop :=
  (∃ p q, v = .func (.func 46) #[] #[.pointer (some ⟨p, 0, none⟩), .pointer (some ⟨q, 0, none⟩)] ∧ ∀ x, Below w.heap.size w x → Calls Try.prog 46 #[.pointer (some ⟨p, 0, none⟩), .pointer (some ⟨q, 0, none⟩)] x (QA x n))
  ∨ (∃ p, v = .func (.func 27) #[] #[.pointer (some ⟨p, 0, none⟩)] ∧ ∀ x, Below w.heap.size w x → Calls Try.prog 27 #[.pointer (some ⟨p, 0, none⟩)] x (QA x n))
  ∨ (∃ p q, v = .func (.func 49) #[] #[.pointer (some ⟨p, 0, none⟩), .pointer (some ⟨q, 0, none⟩)] ∧ ∀ x, Below w.heap.size w x → Calls Try.prog 49 #[.pointer (some ⟨p, 0, none⟩), .pointer (some ⟨q, 0, none⟩)] x (QA x n))
/-- questions, up to the first error -/
def QsOk (w : World) : List Value → List Int → Prop
  | [], [] => True
  | v :: vs, n :: ns => Ques w v n ∧ (n = 0 → QsOk w vs ns)
  | _, _ => False
def AskI (w : World) (vs : List Value) (T : Int) : Prop := ∃ ns, QsOk w vs ns ∧ firstE ns = T
theorem AskI.fin {w : World} {T : Int} (h : AskI w [] T) : 0 = T := by
  obtain ⟨ns, h1, h2⟩ := h
  match ns, h1 with
  | [], _ => exact h2
theorem AskI.cons {w : World} {v : Value} {vs : List Value} {T : Int} (h : AskI w (v :: vs) T) : ∃ n, Ques w v n ∧ (n = 0 → AskI w vs T) ∧ (¬ n = 0 → n = T) := by
  obtain ⟨ns, h1, h2⟩ := h
  match ns, h1 with
  | n :: ns, ⟨h1, h3⟩ =>
    refine ⟨n, h1, fun h0 => ⟨ns, h3 h0, ?_⟩, fun h0 => ?_⟩
    · rw [h0, first_0] at h2; exact h2
    · rw [first_no h0] at h2; exact h2
def QsIn (x : World) (g o : Nat) (vs : List Value) : Prop := ∀ j (h : j < vs.length), x.cell? ⟨g, o + j, none⟩ = some vs[j]
theorem QsIn.new (w : World) (vs : List Value) (T : TypeId) : QsIn (w.alloc (.cells vs.toArray T)) w.heap.size 0 vs := fun j h => by
  rw [Nat.zero_add]
  exact cells_new w vs T j _ (List.getElem?_eq_getElem h)
theorem ret_int {x y : Int} (h : x = y) : Ending.returned (.int .i64 x) = .returned (.int .i64 y) := by rw [h]
set_option maxRecDepth 100000 in
set_option maxHeartbeats 4000000 in
theorem ask_any (vs : List Value) (T : Int) (g o cap : Nat) (w : World) (hc : QsIn w g o vs) (hg : g < w.heap.size) (ha : AskI w vs T) (hl : (vs.length : Int) ≤ 100) :
    Calls Try.prog 17 #[.slice (some ⟨g, o, none⟩) vs.length cap] w (QA w T) := by
  have I0 : Hid (AskI w (vs.drop 0) T) := ha
  have B0 : Hid (Below w.heap.size w w) := Below.refl _ _
  obtain ⟨len, hlen⟩ : ∃ len, vs.length = len := ⟨_, rfl⟩
  rw [hlen] at hl ⊢
  replace hlen : Hid (vs.length = len) := hlen
  replace hc : Hid (QsIn w g o vs) := hc
  replace hg : Hid (g < w.heap.size) := hg
  clear ha
  go_enter Try.func17, Try.ntmps17
  go_wp2
  go_loopw [8] (fun vi wr => ∃ k : Nat, (k : Int) ≤ (len : Int) ∧ vi = .int .i64 (k : Int) ∧ Hid (AskI w (vs.drop k) T) ∧ Hid (Below w.heap.size w wr)) (fun vi _ => len - (intOf vi).toNat)
  case atStart => exact ⟨0, by omega, rfl, I0, B0⟩
  case round =>
    obtain ⟨k, hk, rfl, lf, B⟩ := hrel
    clear I0 B0
    by_cases hlt : (k : Int) < (len : Int)
    · have hkl : k < vs.length := by have := hlen.out; omega
      have c := (B.out.cell (p := ⟨g, o + k, none⟩) hg.out).trans (hc.out k hkl)
      have lq := lf.out
      rw [List.drop_eq_getElem_cons hkl] at lq
      generalize vs[k] = v at *
      obtain ⟨n, hq, q0, q1⟩ := lq.cons
      replace q0 : Hid (n = 0 → AskI w (vs.drop (k + 1)) T) := q0
      replace q1 : Hid (¬ n = 0 → n = T) := q1
      clear lq lf hkl hc hg
      by_cases h0 : n = 0
      · subst h0
        have nx : Hid (AskI w (vs.drop (k + 1)) T) := q0.out rfl
        clear q0 q1
        rcases hq with ⟨p, q, rfl, hq⟩ | ⟨p, rfl, hq⟩ | ⟨p, q, rfl, hq⟩
        · have hr : Hid (Calls Try.prog 46 #[.pointer (some ⟨p, 0, none⟩), .pointer (some ⟨q, 0, none⟩)] wr (QA wr 0)) := hq wr B.out
          clear hq
          go_wp2_with fail
          refine hr.out.mono ?_
          clear hr c
          rintro e y ⟨rfl, hb⟩
          have B1 : Hid (Below w.heap.size w y) := B.out.trans (hb.mono B.out.size)
          clear hb B
          go_wp2
          exact ⟨⟨k + 1, by omega, by simp, nx, B1⟩, by simp [intOf]; omega⟩
        · have hr : Hid (Calls Try.prog 27 #[.pointer (some ⟨p, 0, none⟩)] wr (QA wr 0)) := hq wr B.out
          clear hq
          go_wp2_with fail
          refine hr.out.mono ?_
          clear hr c
          rintro e y ⟨rfl, hb⟩
          have B1 : Hid (Below w.heap.size w y) := B.out.trans (hb.mono B.out.size)
          clear hb B
          go_wp2
          exact ⟨⟨k + 1, by omega, by simp, nx, B1⟩, by simp [intOf]; omega⟩
        · have hr : Hid (Calls Try.prog 49 #[.pointer (some ⟨p, 0, none⟩), .pointer (some ⟨q, 0, none⟩)] wr (QA wr 0)) := hq wr B.out
          clear hq
          go_wp2_with fail
          refine hr.out.mono ?_
          clear hr c
          rintro e y ⟨rfl, hb⟩
          have B1 : Hid (Below w.heap.size w y) := B.out.trans (hb.mono B.out.size)
          clear hb B
          go_wp2
          exact ⟨⟨k + 1, by omega, by simp, nx, B1⟩, by simp [intOf]; omega⟩
      · have fin : Hid (n = T) := q1.out h0
        have hne : (n != 0) = true := by simpa using h0
        clear q0 q1
        rcases hq with ⟨p, q, rfl, hq⟩ | ⟨p, rfl, hq⟩ | ⟨p, q, rfl, hq⟩
        · have hr : Hid (Calls Try.prog 46 #[.pointer (some ⟨p, 0, none⟩), .pointer (some ⟨q, 0, none⟩)] wr (QA wr n)) := hq wr B.out
          clear hq
          go_wp2_with fail
          refine hr.out.mono ?_
          clear hr c
          rintro e y ⟨rfl, hb⟩
          have B1 : Hid (Below w.heap.size w y) := B.out.trans (hb.mono B.out.size)
          clear hb B
          go_wp2
          go_ret
          exact ⟨ret_int fin.out, B1.out⟩
        · have hr : Hid (Calls Try.prog 27 #[.pointer (some ⟨p, 0, none⟩)] wr (QA wr n)) := hq wr B.out
          clear hq
          go_wp2_with fail
          refine hr.out.mono ?_
          clear hr c
          rintro e y ⟨rfl, hb⟩
          have B1 : Hid (Below w.heap.size w y) := B.out.trans (hb.mono B.out.size)
          clear hb B
          go_wp2
          go_ret
          exact ⟨ret_int fin.out, B1.out⟩
        · have hr : Hid (Calls Try.prog 49 #[.pointer (some ⟨p, 0, none⟩), .pointer (some ⟨q, 0, none⟩)] wr (QA wr n)) := hq wr B.out
          clear hq
          go_wp2_with fail
          refine hr.out.mono ?_
          clear hr c
          rintro e y ⟨rfl, hb⟩
          have B1 : Hid (Below w.heap.size w y) := B.out.trans (hb.mono B.out.size)
          clear hb B
          go_wp2
          go_ret
          exact ⟨ret_int fin.out, B1.out⟩
    · obtain rfl : k = len := by omega
      have fin : Hid (0 = T) := by
        have lq := lf.out
        rw [List.drop_of_length_le (by have := hlen.out; omega)] at lq
        exact lq.fin
      clear lf hc hg
      go_wp2
      go_ret
      exact ⟨ret_int fin.out, B.out⟩
end Go.Proofs.Ytllkkgcfhphgmaa
/-
  The statements' own Few: is a device of a size that is looked at? (layer 9) Conditions: its fields lie in memory that was there.
-/
namespace Go.Proofs.Ytllkkgcfhphgmaa
open Go.RowKit
set_option linter.unusedVariables false

def fewF (f : Fd) : Bool := decide (((txt f.nm).size : Int) ≤ 50) && (decide (((txt f.kd).size : Int) ≤ 50) && decide (((txt f.un).size : Int) ≤ 50))
def fewD (d : Dv) : Bool := (decide (((txt d.nm).size : Int) ≤ 50) && (decide (((txt d.sm).size : Int) ≤ 50) && (decide ((d.rq.length : Int) ≤ 100) && decide ((d.fs.length : Int) ≤ 20)))) && d.fs.all fewF
def oneI (b : Bool) : Int := if b = true then 1 else 0
def FwF (l : List Fd) (T : Bool) : Prop := l.all fewF = T
theorem FwF.fin {T : Bool} (h : FwF [] T) : true = T := h
theorem FwF.no {f : Fd} {l : List Fd} {T : Bool} (h : FwF (f :: l) T) (hf : fewF f = false) : false = T := by unfold FwF at h; rw [← h, List.all_cons, hf]; rfl
theorem FwF.yes {f : Fd} {l : List Fd} {T : Bool} (h : FwF (f :: l) T) (hf : fewF f = true) : FwF l T := by unfold FwF at *; rw [← h, List.all_cons, hf]; rfl
theorem ret_one {b : Bool} {n : Int} {T : Bool} (hb : b = T) (hn : n = oneI b) : Ending.returned (.int .i64 n) = .returned (.int .i64 (oneI T)) := by rw [hn, hb]
theorem few_head {d : Dv} (h : ¬ (((txt d.nm).size : Int) ≤ 50 ∧ ((txt d.sm).size : Int) ≤ 50 ∧ (d.rq.length : Int) ≤ 100 ∧ (d.fs.length : Int) ≤ 20)) : fewD d = false := by
  unfold fewD
  have : (decide (((txt d.nm).size : Int) ≤ 50) && (decide (((txt d.sm).size : Int) ≤ 50) && (decide ((d.rq.length : Int) ≤ 100) && decide ((d.fs.length : Int) ≤ 20)))) = false := by
    rw [Bool.eq_false_iff]
    intro c
    simp only [Bool.and_eq_true, decide_eq_true_eq] at c
    exact h c
  rw [this]; rfl
theorem few_tail {d : Dv} (h1 : ((txt d.nm).size : Int) ≤ 50) (h2 : ((txt d.sm).size : Int) ≤ 50) (h3 : (d.rq.length : Int) ≤ 100) (h4 : (d.fs.length : Int) ≤ 20) : fewD d = d.fs.all fewF := by
  unfold fewD
  rw [decide_eq_true h1, decide_eq_true h2, decide_eq_true h3, decide_eq_true h4]; rfl
theorem few_bdS {d : Dv} (h : fewD d = true) : ((txt d.nm).size : Int) ≤ 50 ∧ ((txt d.sm).size : Int) ≤ 50 ∧ (d.rq.length : Int) ≤ 100 ∧ (d.fs.length : Int) ≤ 20 ∧ ∀ f ∈ d.fs, ((txt f.nm).size : Int) ≤ 50 ∧ ((txt f.kd).size : Int) ≤ 50 ∧ ((txt f.un).size : Int) ≤ 50 := by
  unfold fewD at h
  simp only [Bool.and_eq_true, decide_eq_true_eq] at h
  obtain ⟨⟨h1, h2, h3, h4⟩, h5⟩ := h
  refine ⟨h1, h2, h3, h4, fun f hf => ?_⟩
  have k := List.all_eq_true.1 h5 f hf
  unfold fewF at k
  simpa only [Bool.and_eq_true, decide_eq_true_eq] using k
set_option maxRecDepth 100000 in
set_option maxHeartbeats 8000000 in
theorem fewd_any (d : Dv) (fv : Value) (pq : Option Addr) (nq cq : Nat) (w : World) (hq : d.rq.length = nq) (hfv : FldsV w fv d.fs) : Calls Try.prog 7 #[dvV d fv (.slice pq nq cq)] w (QA w (oneI (fewD d))) := by
  have D : Hid (DevB (w.alloc (.cells #[.string (txt d.nm), .int .i64 d.st, .int .i64 d.es, .int .i64 d.mx, .int .i64 d.sz, .string (txt d.sm), fv, .slice pq nq cq, .int .i64 d.po, .int .i64 d.ti, .int .i64 d.re, .int .i64 d.ag] 25)) w.heap.size d fv (.slice pq nq cq)) := DevB.new hfv _
  have B : Hid (Below w.heap.size w (w.alloc (.cells #[.string (txt d.nm), .int .i64 d.st, .int .i64 d.es, .int .i64 d.mx, .int .i64 d.sz, .string (txt d.sm), fv, .slice pq nq cq, .int .i64 d.po, .int .i64 d.ti, .int .i64 d.re, .int .i64 d.ag] 25))) := (Below.refl _ _).alloc (Nat.le_refl _) _
  obtain ⟨pv, cap, rfl⟩ := hfv.form
  have b0 : (w.alloc (.cells #[.string (txt d.nm), .int .i64 d.st, .int .i64 d.es, .int .i64 d.mx, .int .i64 d.sz, .string (txt d.sm), (.slice pv d.fs.length cap), .slice pq nq cq, .int .i64 d.po, .int .i64 d.ti, .int .i64 d.re, .int .i64 d.ag] 25)).heap[w.heap.size]? = some (.cells #[.string (txt d.nm), .int .i64 d.st, .int .i64 d.es, .int .i64 d.mx, .int .i64 d.sz, .string (txt d.sm), (.slice pv d.fs.length cap), .slice pq nq cq, .int .i64 d.po, .int .i64 d.ti, .int .i64 d.re, .int .i64 d.ag] 25) := World.alloc_heap_new w _
  clear hfv
  obtain ⟨len, hlen⟩ : ∃ len, d.fs.length = len := ⟨_, rfl⟩
  rw [hlen] at D B b0 ⊢
  by_cases q0 : ((txt d.nm).size : Int) ≤ 50
  · by_cases q1 : ((txt d.sm).size : Int) ≤ 50
    · by_cases q2 : (nq : Int) ≤ 100
      · by_cases q3 : (len : Int) ≤ 20
        · have e1 := few_tail q0 q1 (by rw [hq]; exact q2) (by rw [hlen]; exact q3)
          rw [e1]
          have I0 : Hid (FwF (d.fs.drop 0) (d.fs.all fewF)) := rfl
          generalize d.fs.all fewF = T at *
          replace hlen : Hid (d.fs.length = len) := hlen
          clear hq e1 b0
          have z6 := D.out.c 6 _ rfl
          have fl : Hid (FldsV (w.alloc (.cells #[.string (txt d.nm), .int .i64 d.st, .int .i64 d.es, .int .i64 d.mx, .int .i64 d.sz, .string (txt d.sm), (.slice pv len cap), .slice pq nq cq, .int .i64 d.po, .int .i64 d.ti, .int .i64 d.re, .int .i64 d.ag] 25)) (.slice pv len cap) d.fs) := D.out.fl
          clear D
          unfold dvV
          generalize txt d.nm = S1 at *
          generalize txt d.sm = S2 at *
          go_enter Try.func7, Try.ntmps7
          go_wp2
          go_loop [3] (fun vi => ∃ k : Nat, (k : Int) ≤ (len : Int) ∧ vi = .int .i64 (k : Int) ∧ Hid (FwF (d.fs.drop k) T)) (fun vi => len - (intOf vi).toNat)
          case atStart => exact ⟨0, by omega, rfl, I0⟩
          case round =>
            obtain ⟨k, hk, rfl, lf⟩ := hrel
            clear I0
            by_cases hlt : (k : Int) < (len : Int)
            · have hkl : k < d.fs.length := by have := hlen.out; omega
              rcases fl.out with ⟨_, _, _, e⟩ | ⟨g, o, cap', e, _, hin, _⟩
              · rw [e] at hkl; cases hkl
              · injection e with e1 e2 e3
                subst e1
                obtain ⟨f, hf⟩ : ∃ f, d.fs[k] = f := ⟨_, rfl⟩
                obtain ⟨c0, c1, c2, c3, c4, c5, c6, c7, c8⟩ := hin.cells hkl hf
                have lq := lf.out
                rw [List.drop_eq_getElem_cons hkl, hf] at lq
                clear lf hin hf e2 e3 hkl fl
                by_cases r0 : ((txt f.nm).size : Int) ≤ 50
                · by_cases r1 : ((txt f.kd).size : Int) ≤ 50
                  · by_cases r2 : ((txt f.un).size : Int) ≤ 50
                    · have nx : Hid (FwF (d.fs.drop (k + 1)) T) := lq.yes (by unfold fewF; rw [decide_eq_true r0, decide_eq_true r1, decide_eq_true r2]; rfl)
                      clear lq
                      generalize txt f.nm = N1 at *
                      generalize txt f.kd = N2 at *
                      generalize txt f.un = N3 at *
                      go_wp2
                      exact ⟨⟨k + 1, by omega, by simp, nx⟩, by simp [intOf]; omega⟩
                    · have fin : Hid (false = T) := lq.no (by unfold fewF; rw [decide_eq_false r2]; simp)
                      clear lq
                      generalize txt f.nm = N1 at *
                      generalize txt f.kd = N2 at *
                      generalize txt f.un = N3 at *
                      go_wp2
                      go_ret
                      exact ⟨ret_one fin.out rfl, B.out⟩
                  · have fin : Hid (false = T) := lq.no (by unfold fewF; rw [decide_eq_false r1]; simp)
                    clear lq
                    generalize txt f.nm = N1 at *
                    generalize txt f.kd = N2 at *
                    generalize txt f.un = N3 at *
                    go_wp2
                    go_ret
                    exact ⟨ret_one fin.out rfl, B.out⟩
                · have fin : Hid (false = T) := lq.no (by unfold fewF; rw [decide_eq_false r0]; simp)
                  clear lq
                  generalize txt f.nm = N1 at *
                  generalize txt f.kd = N2 at *
                  generalize txt f.un = N3 at *
                  go_wp2
                  go_ret
                  exact ⟨ret_one fin.out rfl, B.out⟩
            · obtain rfl : k = len := by omega
              have fin : Hid (true = T) := by
                have lq := lf.out
                rw [List.drop_of_length_le (by have := hlen.out; omega)] at lq
                exact lq.fin
              clear lf fl
              go_wp2
              go_ret
              exact ⟨ret_one fin.out rfl, B.out⟩
        · have e1 := few_head (d := d) (fun h => by rw [hq, hlen] at h; exact q3 h.2.2.2)
          rw [e1]
          clear D hq hlen e1
          unfold dvV
          generalize txt d.nm = S1 at *
          generalize txt d.sm = S2 at *
          go_enter Try.func7, Try.ntmps7
          go_wp2
          go_ret
          exact ⟨rfl, B.out⟩
      · have e1 := few_head (d := d) (fun h => by rw [hq, hlen] at h; exact q2 h.2.2.1)
        rw [e1]
        clear D hq hlen e1
        unfold dvV
        generalize txt d.nm = S1 at *
        generalize txt d.sm = S2 at *
        go_enter Try.func7, Try.ntmps7
        go_wp2
        go_ret
        exact ⟨rfl, B.out⟩
    · have e1 := few_head (d := d) (fun h => by rw [hq, hlen] at h; exact q1 h.2.1)
      rw [e1]
      clear D hq hlen e1
      unfold dvV
      generalize txt d.nm = S1 at *
      generalize txt d.sm = S2 at *
      go_enter Try.func7, Try.ntmps7
      go_wp2
      go_ret
      exact ⟨rfl, B.out⟩
  · have e1 := few_head (d := d) (fun h => by rw [hq, hlen] at h; exact q0 h.1)
    rw [e1]
    clear D hq hlen e1
    unfold dvV
    generalize txt d.nm = S1 at *
    generalize txt d.sm = S2 at *
    go_enter Try.func7, Try.ntmps7
    go_wp2
    go_ret
    exact ⟨rfl, B.out⟩
end Go.Proofs.Ytllkkgcfhphgmaa
