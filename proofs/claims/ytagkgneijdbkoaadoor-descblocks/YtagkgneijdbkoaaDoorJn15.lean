/-
  Texts that belong together, one behind the other: LexWord, LexWord2, LexWordP, LexPN, LexPM, LexWordN. Conditions: as each says.
-/
import Derived.BigQuiet
import Derived.Deep.CutRange
import Derived.Deep.QuietTactic
import Derived.Laws.BytesArg
import Derived.Laws.RangeAny
import Derived.Maps.AppendAt
import Derived.Test.YtagkgneijdbkoaaDoorJn4
import Derived.Test.YtagkgneijdbkoaaDoorJn7
/-
  What the document's own half, Hex, Name and Number return (layer 7). Conditions: a text is at most 5000 bytes.
-/
namespace Go.Proofs.YtagkgneijdbkoaaDoor
open Go.RowKit
set_option linter.unusedVariables false

set_option maxRecDepth 100000 in
set_option maxHeartbeats 4000000 in
theorem rhalf_any (c : Nat) (hc : c < 256) (w : World) : Calls Tryd.prog 45 #[.int .u8 (c : Int)] w fun e w' => e = .returned (.int .i64 (halfC c)) ∧ w' = w := by
  have hci : (0 : Int) ≤ (c : Int) ∧ (c : Int) < 256 := ⟨by omega, by omega⟩
  obtain ⟨V, hV⟩ : ∃ V, halfC c = V := ⟨_, rfl⟩
  rw [hV]
  replace hV : Hid (halfC c = V) := hV
  by_cases h1 : (48 : Int) ≤ (c : Int)
  · by_cases h2 : (c : Int) ≤ 57
    · have fin : Hid ((c : Int) - 48 = V) := by have := hV.out; unfold halfC at this; rwa [if_pos ⟨by omega, by omega⟩] at this
      clear hV
      go_enter Tryd.func45, Tryd.ntmps45
      go_wp2
      go_ret
      exact ⟨by rw [← fin.out]; rfl, rfl⟩
    · by_cases h3 : (97 : Int) ≤ (c : Int)
      · by_cases h4 : (c : Int) ≤ 102
        · have fin : Hid ((c : Int) - 87 = V) := by have := hV.out; unfold halfC at this; rwa [if_neg (by omega), if_pos ⟨by omega, by omega⟩] at this
          clear hV
          go_enter Tryd.func45, Tryd.ntmps45
          go_wp2
          go_ret
          exact ⟨by rw [← fin.out]; rfl, rfl⟩
        · have fin : Hid (-1 = V) := by have := hV.out; unfold halfC at this; rwa [if_neg (by omega), if_neg (by omega)] at this
          clear hV
          go_enter Tryd.func45, Tryd.ntmps45
          go_wp2
          go_ret
          exact ⟨by rw [← fin.out]; rfl, rfl⟩
      · have fin : Hid (-1 = V) := by have := hV.out; unfold halfC at this; rwa [if_neg (by omega), if_neg (by omega)] at this
        clear hV
        go_enter Tryd.func45, Tryd.ntmps45
        go_wp2
        go_ret
        exact ⟨by rw [← fin.out]; rfl, rfl⟩
  · have fin : Hid (-1 = V) := by have := hV.out; unfold halfC at this; rwa [if_neg (by omega), if_neg (by omega)] at this
    have h3 : ¬ (97 : Int) ≤ (c : Int) := by omega
    clear hV
    go_enter Tryd.func45, Tryd.ntmps45
    go_wp2
    go_ret
    exact ⟨by rw [← fin.out]; rfl, rfl⟩

theorem sdrop_at {s : ByteArray} {k : Nat} (hk : k < s.size) : s.data.toList.drop k = s[k] :: s.data.toList.drop (k + 1) := by
  have hl : k < s.data.toList.length := by simpa using hk
  rw [List.drop_eq_getElem_cons hl]
  rfl
/-- the row so far -/
structure HxSt (w x : World) (o : Value) (l : List Nat) : Prop where
  r : RowB x w.heap.size o l
  b : Below w.heap.size w x
theorem HxSt.drewN {w x : World} {o : Value} {l : List Nat} (h : HxSt w x o l) (n : Nat) : HxSt w (x.drewN n) o l := ⟨h.r, ⟨h.b.os, h.b.tape, h.b.output, h.b.size, h.b.block⟩⟩
theorem cell_oneH (w : World) (b : Int) : ∀ (j : Nat) (u : Value), ([.int .u8 b] : List Value)[j]? = some u → (w.alloc (.cells #[.int .u8 b] 5)).cell? ((⟨w.heap.size, 0, none⟩ : Addr).add j) = some u := cell_one_new w _ _

set_option maxRecDepth 100000 in
set_option maxHeartbeats 4000000 in
theorem rhex_main (s : ByteArray) (w : World) (hs : (s.size : Int) ≤ 5000) (h0 : 0 < (s.size : Int)) (hev : (s.size : Int) % 2 = 0) (T : Option (List Nat)) (hT : hexO s.data.toList = T) :
    Calls Tryd.prog 31 #[.string s] w fun e w' => ∃ v, e = .returned (.tuple #[v, .bool T.isSome]) ∧ BytesAt w' v (T.getD []) ∧ Below w.heap.size w w' := by
  obtain ⟨i0, hi, hz0, hz1, hz2⟩ := info_parts info_u8
  have L0 : Hid (LeftH [] s.data.toList T) := by unfold Hid; rw [← hT]; exact LeftH.first _
  have hz : ((s.size : Int) == 0) = false := beq_eq_false_iff_ne.2 (by omega)
  have hq1 : ((s.size : Int) % 2 == 1) = false := beq_eq_false_iff_ne.2 (by omega)
  replace hev : Hid ((s.size : Int) % 2 = 0) := hev
  clear hT
  go_enter Tryd.func31, Tryd.ntmps31
  go_wp2
  go_loopw [4, 5] (fun vo vi wr => ∃ (k : Nat) (out : List Nat), (k : Int) ≤ (s.size : Int) ∧ vi = .int .i64 (k : Int) ∧ ((k : Int) % 2 = 0 ∧ (out.length : Int) ≤ (k : Int)) ∧ Hid (HxSt w wr vo out) ∧ Hid (LeftH out (s.data.toList.drop k) T)) (fun _ vi _ => s.size - (intOf vi).toNat)
  case atStart => exact ⟨0, [], by omega, rfl, ⟨by omega, by simp⟩, ⟨World.ownsRow_nil _ _ _ _, Below.refl _ _⟩, L0⟩
  case round =>
    obtain ⟨k, out, hk, rfl, ⟨hk2, hol⟩, st, left⟩ := hrel
    clear L0
    by_cases hlt : k < s.size
    · have hki : (k : Int) < (s.size : Int) := by omega
      have hk1 : k + 1 < s.size := by have := hev.out; omega
      have hk1i : (k : Int) + 1 < (s.size : Int) := by omega
      have lf := left.out
      rw [sdrop_at hlt, sdrop_at hk1] at lf
      have x1 : s[k].toNat < 256 := s[k].toNat_lt
      have x2 : s[k + 1].toNat < 256 := s[k + 1].toNat_lt
      have b1 := half_bd s[k].toNat
      have b2 := half_bd s[k + 1].toNat
      have f1 : Hid (∀ w, Calls Tryd.prog 45 #[.int .u8 (s[k].toNat : Int)] w fun e w' => e = .returned (.int .i64 (halfC s[k].toNat)) ∧ w' = w) := fun w => rhalf_any _ x1 w
      have f2 : Hid (∀ w, Calls Tryd.prog 45 #[.int .u8 (s[k + 1].toNat : Int)] w fun e w' => e = .returned (.int .i64 (halfC s[k + 1].toNat)) ∧ w' = w) := fun w => rhalf_any _ x2 w
      have nx : Hid ((0 ≤ halfC s[k].toNat ∧ 0 ≤ halfC s[k + 1].toNat) → LeftH (out ++ [(16 * halfC s[k].toNat + halfC s[k + 1].toNat).toNat]) (s.data.toList.drop (k + 2)) T) := fun h => lf.two h.1 h.2
      have bd : Hid (¬ (0 ≤ halfC s[k].toNat ∧ 0 ≤ halfC s[k + 1].toNat) → T = none) := fun h => lf.bad h
      clear lf left x1 x2
      generalize halfC s[k].toNat = p at *
      generalize halfC s[k + 1].toNat = q at *
      have wk : IntKind.i64.wrap ((k : Int) + 1) = (k : Int) + 1 := by simp only [IntKind.wrap_i64]; omega
      have ix : ∀ x : World, (Instr.index 9 (.string s) (.int .i64 ((k : Int) + 1))).run Tryd.prog x = .ok (.int .u8 (s[k + 1].toNat : Int)) x := fun x => by
        rw [run_index_string x 9 s .i64 _ Tryd.underlying9, dif_pos ⟨by omega, hk1i⟩]
        rfl
      go_wp2_with fail
      go_quiet (first
        | (go_at_call 45; with_reducible refine Calls.quiet_of_same (f1.out _))
        | (go_at_call 45; with_reducible refine Calls.quiet_of_same (f2.out _)))
      clear f1 f2 ix wk
      replace st : Hid (HxSt w (wr.drewN nq) u4 out) := st.out.drewN nq
      generalize wr.drewN nq = wd at *
      by_cases h1 : 0 ≤ p
      · by_cases h2 : 0 ≤ q
        · obtain ⟨c, hc⟩ : ∃ c : Nat, (16 * p + q).toNat = c := ⟨_, rfl⟩
          have nl := nx.out ⟨h1, h2⟩
          rw [hc] at nl
          replace nl : Hid (LeftH (out ++ [c]) (s.data.toList.drop (k + 2)) T) := nl
          have wc : IntKind.u8.wrap (16 * p + q) = (c : Int) := by simp only [IntKind.wrap_u8']; omega
          have h63 : out.length + 1 ≤ maxLen := by unfold maxLen; omega
          have hby : (out.length + 1) * 1 ≤ 140737488355328 := by omega
          have hsz := st.out.b.size
          clear nx bd hc
          go_wp2_with (at_builtin; refine wpList_append_own _ rfl _ _ 24 rfl w.heap.size 5 i0 (.int .u8 0) 1 1 Tryd.underlying24 hi hz0 hz1 hz2 rfl (by decide) _ _ _ rfl (World.ownsRow.alloc st.out.r _) ⟨wd.heap.size, 0, none⟩ 1 1 [.int .u8 (c : Int)] rfl rfl (cell_oneH _ _) (by simp [Value.oneCell']) h63 hby (by simp; omega) ?_; intro v' y hown' hgrow _; have st2 : Hid (HxSt w y v' (out ++ [c])) := ⟨by unfold RowB; rw [List.length_append]; unfold u8v; rw [List.map_append]; exact hown', (st.out.b.alloc hsz _).grown hgrow (by simp; omega) (fun q eq => (World.ownsRow.lt st.out.r q eq).1)⟩; clear hown' hgrow)
          exact ⟨⟨k + 2, out ++ [c], by omega, by simp, ⟨by omega, by simp; omega⟩, st2, nl⟩, by simp [intOf]; omega⟩
        · have h2' : q < 0 := by omega
          have fin : Hid (T = none) := bd.out (fun h => h2 h.2)
          have B : Hid (Below w.heap.size w wd) := st.out.b
          clear nx bd st
          go_wp2
          go_ret2
          exact ⟨_, by rw [fin.out]; rfl, by rw [fin.out]; exact .inl ⟨rfl, rfl⟩, B.out⟩
      · have h1' : p < 0 := by omega
        have fin : Hid (T = none) := bd.out (fun h => h1 h.1)
        have B : Hid (Below w.heap.size w wd) := st.out.b
        clear nx bd st
        go_wp2
        go_ret2
        exact ⟨_, by rw [fin.out]; rfl, by rw [fin.out]; exact .inl ⟨rfl, rfl⟩, B.out⟩
    · obtain rfl : k = s.size := by omega
      have fin : Hid (T = some out) := by
        have h := left.out
        rw [List.drop_eq_nil_of_le (by simp)] at h
        exact h.fin
      have X : Hid (BytesAt wr u4 out) := st.out.r.at
      have B : Hid (Below w.heap.size w wr) := st.out.b
      clear left st hlt
      go_wp2
      go_ret2
      exact ⟨_, by rw [fin.out]; rfl, by rw [fin.out]; exact X.out, B.out⟩
set_option maxRecDepth 100000 in
set_option maxHeartbeats 4000000 in
theorem rhex_none (s : ByteArray) (w : World) (h0 : (s.size : Int) = 0) :
    Calls Tryd.prog 31 #[.string s] w fun e w' => e = .returned (.tuple #[.slice none 0 0, .bool false]) ∧ w' = w := by
  go_enter Tryd.func31, Tryd.ntmps31
  go_wp2
  go_ret2
  exact ⟨rfl, rfl⟩
set_option maxRecDepth 100000 in
set_option maxHeartbeats 4000000 in
theorem rhex_odd (s : ByteArray) (w : World) (hs : (s.size : Int) ≤ 5000) (h0 : 0 < (s.size : Int)) (hev : (s.size : Int) % 2 = 1) :
    Calls Tryd.prog 31 #[.string s] w fun e w' => e = .returned (.tuple #[.slice none 0 0, .bool false]) ∧ w' = w := by
  have hz : ((s.size : Int) == 0) = false := beq_eq_false_iff_ne.2 (by omega)
  go_enter Tryd.func31, Tryd.ntmps31
  go_wp2
  go_ret2
  exact ⟨rfl, rfl⟩
theorem rhex_any (s : ByteArray) (w : World) (hs : (s.size : Int) ≤ 5000) :
    Calls Tryd.prog 31 #[.string s] w fun e w' => ∃ v, e = .returned (.tuple #[v, .bool (hexR s.data.toList).isSome]) ∧ BytesAt w' v ((hexR s.data.toList).getD []) ∧ Below w.heap.size w w' := by
  have hl : s.data.toList.length = s.size := by simp
  by_cases h0 : s.size = 0
  · have e : hexR s.data.toList = none := by unfold hexR; rw [if_pos (List.length_eq_zero_iff.1 (hl.trans h0))]
    rw [e]
    refine (rhex_none s w (by omega)).mono ?_
    rintro e w' ⟨rfl, rfl⟩
    exact ⟨_, rfl, .inl ⟨rfl, rfl⟩, Below.refl _ _⟩
  · have e : hexR s.data.toList = hexO s.data.toList := by unfold hexR; rw [if_neg (fun q => h0 (by rw [← hl, q]; rfl))]
    rw [e]
    by_cases h1 : s.size % 2 = 1
    · rw [hex_odd _ (by rw [hl]; exact h1)]
      refine (rhex_odd s w hs (by omega) (by omega)).mono ?_
      rintro e w' ⟨rfl, rfl⟩
      exact ⟨_, rfl, .inl ⟨rfl, rfl⟩, Below.refl _ _⟩
    · exact rhex_main s w hs (by omega) (by omega) _ rfl
end Go.Proofs.YtagkgneijdbkoaaDoor
/-
  What the document's own Name and Number return (layer 7). Conditions: as each says.
-/
namespace Go.Proofs.YtagkgneijdbkoaaDoor
open Go.RowKit
set_option linter.unusedVariables false


theorem name_form {s : ByteArray} (h0 : 0 < s.size) : nameB s.data.toList = (decide (s.size ≤ 12) && (lowB s[0] && allN s.data.toList)) := by
  have hl : s.data.toList.length = s.size := by simp
  have e : s.data.toList = s[0] :: s.data.toList.drop 1 := by
    have := sdrop_at (s := s) (k := 0) h0
    simpa using this
  unfold nameB
  rw [hl]
  congr 1
  obtain ⟨r, hr⟩ : ∃ r, s.data.toList = s[0] :: r := ⟨_, e⟩
  rw [hr]
theorem ret_bb {x y : Bool} (h : y = x) : Ending.returned (.bool x) = .returned (.bool y) := by rw [h]
theorem sget (s : ByteArray) {k : Nat} (h : k < s.size) (h2 : k < s.data.toList.length) : s.data.toList[k] = s[k] := rfl

set_option maxRecDepth 100000 in
set_option maxHeartbeats 4000000 in
theorem rname_main (s : ByteArray) (w : World) (h0 : 0 < s.size) (h12 : (s.size : Int) ≤ 12) (c1 : (97 : Int) ≤ (s[0].toNat : Int)) (c2 : (s[0].toNat : Int) ≤ 122) :
    Calls Tryd.prog 29 #[.string s] w fun e w' => e = .returned (.bool (allN s.data.toList)) ∧ w' = w := by
  have h0i : (0 : Int) < (s.size : Int) := by omega
  have g1 : decide ((s.size : Int) < 1) = false := decide_eq_false (by omega)
  have g2 : decide (12 < (s.size : Int)) = false := decide_eq_false (by omega)
  have g3 : decide ((s[0].toNat : Int) < 97) = false := decide_eq_false (by omega)
  have g4 : decide (122 < (s[0].toNat : Int)) = false := decide_eq_false (by omega)
  obtain ⟨T, hT⟩ : ∃ T, allN s.data.toList = T := ⟨_, rfl⟩
  rw [hT]
  replace hT : Hid (allN s.data.toList = T) := hT
  go_enter Tryd.func29, Tryd.ntmps29
  go_wp2
  go_loop [3] (fun vi => ∃ k : Nat, (k : Int) ≤ (s.size : Int) ∧ vi = .int .i64 (k : Int) ∧ Hid (allN (s.data.toList.take k) = true)) (fun vi => s.size - (intOf vi).toNat)
  case atStart => exact ⟨0, by omega, rfl, rfl⟩
  case round =>
    obtain ⟨k, hk, rfl, hall⟩ := hrel
    by_cases hlt : k < s.size
    · have hki : (k : Int) < (s.size : Int) := by omega
      have hl : k < s.data.toList.length := by simpa using hlt
      have stp : Hid (nameC s[k] = false → T = false) := fun h => by rw [← hT.out]; exact allN_stop hl h
      have nx : Hid (nameC s[k] = true → allN (s.data.toList.take (k + 1)) = true) := fun h => allN_next hl hall.out h
      have lk : s[k].toNat < 256 := s[k].toNat_lt
      clear hall hT g3 g4 c1 c2
      by_cases a1 : (97 : Int) ≤ (s[k].toNat : Int)
      · by_cases a2 : (s[k].toNat : Int) ≤ 122
        · have nl : Hid (allN (s.data.toList.take (k + 1)) = true) := nx.out (by unfold nameC; simp; omega)
          have q1 : decide ((s[k].toNat : Int) < 97) = false := decide_eq_false (by omega)
          have q2 : decide (122 < (s[k].toNat : Int)) = false := decide_eq_false (by omega)
          clear nx stp
          go_wp2
          exact ⟨⟨k + 1, by omega, by simp, nl⟩, by simp [intOf]; omega⟩
        · have fin : Hid (T = false) := stp.out (by unfold nameC; simp; omega)
          have q1 : decide ((s[k].toNat : Int) < 97) = false := decide_eq_false (by omega)
          have q2 : decide (122 < (s[k].toNat : Int)) = true := decide_eq_true (by omega)
          have q3 : decide ((s[k].toNat : Int) < 48) = false := decide_eq_false (by omega)
          have q4 : decide (57 < (s[k].toNat : Int)) = true := decide_eq_true (by omega)
          clear nx stp
          go_wp2
          go_ret
          exact ⟨ret_bb fin.out, rfl⟩
      · have q1 : decide ((s[k].toNat : Int) < 97) = true := decide_eq_true (by omega)
        by_cases a3 : (48 : Int) ≤ (s[k].toNat : Int)
        · have q3 : decide ((s[k].toNat : Int) < 48) = false := decide_eq_false (by omega)
          by_cases a4 : (s[k].toNat : Int) ≤ 57
          · have nl : Hid (allN (s.data.toList.take (k + 1)) = true) := nx.out (by unfold nameC; simp; omega)
            have q4 : decide (57 < (s[k].toNat : Int)) = false := decide_eq_false (by omega)
            clear nx stp
            go_wp2
            exact ⟨⟨k + 1, by omega, by simp, nl⟩, by simp [intOf]; omega⟩
          · have fin : Hid (T = false) := stp.out (by unfold nameC; simp; omega)
            have q4 : decide (57 < (s[k].toNat : Int)) = true := decide_eq_true (by omega)
            clear nx stp
            go_wp2
            go_ret
            exact ⟨ret_bb fin.out, rfl⟩
        · have fin : Hid (T = false) := stp.out (by unfold nameC; simp; omega)
          have q3 : decide ((s[k].toNat : Int) < 48) = true := decide_eq_true (by omega)
          clear nx stp
          go_wp2
          go_ret
          exact ⟨ret_bb fin.out, rfl⟩
    · obtain rfl : k = s.size := by omega
      have fin : Hid (T = true) := by
        have h := hall.out
        rw [List.take_of_length_le (by simp)] at h
        rw [← hT.out]
        exact h
      clear hall hT hlt g3 g4 c1 c2
      go_wp2
      go_ret
      exact ⟨ret_bb fin.out, rfl⟩
set_option maxRecDepth 100000 in
set_option maxHeartbeats 4000000 in
theorem rname_zero (s : ByteArray) (w : World) (h0 : (s.size : Int) < 1) :
    Calls Tryd.prog 29 #[.string s] w fun e w' => e = .returned (.bool false) ∧ w' = w := by
  have g1 : decide ((s.size : Int) < 1) = true := decide_eq_true (by omega)
  go_enter Tryd.func29, Tryd.ntmps29
  go_wp2
  go_ret
  exact ⟨rfl, rfl⟩
set_option maxRecDepth 100000 in
set_option maxHeartbeats 4000000 in
theorem rname_long (s : ByteArray) (w : World) (h12 : 12 < (s.size : Int)) :
    Calls Tryd.prog 29 #[.string s] w fun e w' => e = .returned (.bool false) ∧ w' = w := by
  have g1 : decide ((s.size : Int) < 1) = false := decide_eq_false (by omega)
  have g2 : decide (12 < (s.size : Int)) = true := decide_eq_true (by omega)
  go_enter Tryd.func29, Tryd.ntmps29
  go_wp2
  go_ret
  exact ⟨rfl, rfl⟩
set_option maxRecDepth 100000 in
set_option maxHeartbeats 4000000 in
theorem rname_low (s : ByteArray) (w : World) (h0 : 0 < s.size) (h12 : (s.size : Int) ≤ 12) (c1 : (s[0].toNat : Int) < 97) :
    Calls Tryd.prog 29 #[.string s] w fun e w' => e = .returned (.bool false) ∧ w' = w := by
  have h0i : (0 : Int) < (s.size : Int) := by omega
  have g1 : decide ((s.size : Int) < 1) = false := decide_eq_false (by omega)
  have g2 : decide (12 < (s.size : Int)) = false := decide_eq_false (by omega)
  have g3 : decide ((s[0].toNat : Int) < 97) = true := decide_eq_true (by omega)
  go_enter Tryd.func29, Tryd.ntmps29
  go_wp2
  go_ret
  exact ⟨rfl, rfl⟩
set_option maxRecDepth 100000 in
set_option maxHeartbeats 4000000 in
theorem rname_high (s : ByteArray) (w : World) (h0 : 0 < s.size) (h12 : (s.size : Int) ≤ 12) (c1 : (97 : Int) ≤ (s[0].toNat : Int)) (c2 : (122 : Int) < (s[0].toNat : Int)) :
    Calls Tryd.prog 29 #[.string s] w fun e w' => e = .returned (.bool false) ∧ w' = w := by
  have h0i : (0 : Int) < (s.size : Int) := by omega
  have g1 : decide ((s.size : Int) < 1) = false := decide_eq_false (by omega)
  have g2 : decide (12 < (s.size : Int)) = false := decide_eq_false (by omega)
  have g3 : decide ((s[0].toNat : Int) < 97) = false := decide_eq_false (by omega)
  have g4 : decide (122 < (s[0].toNat : Int)) = true := decide_eq_true (by omega)
  go_enter Tryd.func29, Tryd.ntmps29
  go_wp2
  go_ret
  exact ⟨rfl, rfl⟩
theorem rname_any (s : ByteArray) (w : World) : Calls Tryd.prog 29 #[.string s] w fun e w' => e = .returned (.bool (nameB s.data.toList)) ∧ w' = w := by
  by_cases h0 : 0 < s.size
  · rw [name_form h0]
    by_cases h12 : (s.size : Int) ≤ 12
    · rw [decide_eq_true (show s.size ≤ 12 by omega), Bool.true_and]
      by_cases c1 : (97 : Int) ≤ (s[0].toNat : Int)
      · by_cases c2 : (s[0].toNat : Int) ≤ 122
        · rw [show lowB s[0] = true by unfold lowB; simp; omega, Bool.true_and]
          exact rname_main s w h0 h12 c1 c2
        · rw [show lowB s[0] = false by unfold lowB; simp; omega, Bool.false_and]
          exact rname_high s w h0 h12 c1 (by omega)
      · rw [show lowB s[0] = false by unfold lowB; simp; omega, Bool.false_and]
        exact rname_low s w h0 h12 (by omega)
    · rw [decide_eq_false (show ¬ s.size ≤ 12 by omega), Bool.false_and]
      exact rname_long s w (by omega)
  · have e : s.data.toList = [] := List.length_eq_zero_iff.1 (by rw [show s.data.toList.length = s.size by simp]; omega)
    rw [e]
    exact rname_zero s w (by omega)
set_option maxRecDepth 100000 in
set_option maxHeartbeats 4000000 in
theorem rnum_e (s : ByteArray) (w : World) (lo hi V E : Int) (bV : -9223372036854775808 ≤ V ∧ V ≤ 9223372036854775807) (hE : ¬ E = 0) (hE2 : (E != 0) = true) (f : Hid (Calls Tryd.prog 43 #[.string s] w fun e w' => e = .returned (.tuple #[.int .i64 V, .int .i64 E]) ∧ w' = w)) :
    Calls Tryd.prog 27 #[.string s, .int .i64 lo, .int .i64 hi] w fun e w' => e = .returned (.tuple #[.int .i64 0, .bool false]) ∧ w' = w := by
  go_enter Tryd.func27, Tryd.ntmps27
  go_wp2_with fail
  refine f.out.mono ?_
  rintro e w1 ⟨rfl, rfl⟩
  clear f
  go_wp2
  go_ret2
  exact ⟨rfl, rfl⟩
set_option maxRecDepth 100000 in
set_option maxHeartbeats 4000000 in
theorem rnum_lo (s : ByteArray) (w : World) (lo hi V : Int) (bV : -9223372036854775808 ≤ V ∧ V ≤ 9223372036854775807) (q1 : V < lo) (f : Hid (Calls Tryd.prog 43 #[.string s] w fun e w' => e = .returned (.tuple #[.int .i64 V, .int .i64 0]) ∧ w' = w)) :
    Calls Tryd.prog 27 #[.string s, .int .i64 lo, .int .i64 hi] w fun e w' => e = .returned (.tuple #[.int .i64 0, .bool false]) ∧ w' = w := by
  go_enter Tryd.func27, Tryd.ntmps27
  go_wp2_with fail
  refine f.out.mono ?_
  rintro e w1 ⟨rfl, rfl⟩
  clear f
  go_wp2
  go_ret2
  exact ⟨rfl, rfl⟩
set_option maxRecDepth 100000 in
set_option maxHeartbeats 4000000 in
theorem rnum_hi (s : ByteArray) (w : World) (lo hi V : Int) (bV : -9223372036854775808 ≤ V ∧ V ≤ 9223372036854775807) (q0 : lo ≤ V) (q1 : hi < V) (f : Hid (Calls Tryd.prog 43 #[.string s] w fun e w' => e = .returned (.tuple #[.int .i64 V, .int .i64 0]) ∧ w' = w)) :
    Calls Tryd.prog 27 #[.string s, .int .i64 lo, .int .i64 hi] w fun e w' => e = .returned (.tuple #[.int .i64 0, .bool false]) ∧ w' = w := by
  go_enter Tryd.func27, Tryd.ntmps27
  go_wp2_with fail
  refine f.out.mono ?_
  rintro e w1 ⟨rfl, rfl⟩
  clear f
  go_wp2
  go_ret2
  exact ⟨rfl, rfl⟩
set_option maxRecDepth 100000 in
set_option maxHeartbeats 4000000 in
theorem rnum_ok (s : ByteArray) (w : World) (lo hi V : Int) (bV : -9223372036854775808 ≤ V ∧ V ≤ 9223372036854775807) (q0 : lo ≤ V) (q1 : V ≤ hi) (f : Hid (Calls Tryd.prog 43 #[.string s] w fun e w' => e = .returned (.tuple #[.int .i64 V, .int .i64 0]) ∧ w' = w)) :
    Calls Tryd.prog 27 #[.string s, .int .i64 lo, .int .i64 hi] w fun e w' => e = .returned (.tuple #[.int .i64 V, .bool true]) ∧ w' = w := by
  go_enter Tryd.func27, Tryd.ntmps27
  go_wp2_with fail
  refine f.out.mono ?_
  rintro e w1 ⟨rfl, rfl⟩
  clear f
  go_wp2
  go_ret2
  exact ⟨rfl, rfl⟩
theorem rnum_any (s : ByteArray) (w : World) (hs : s.size ≤ maxLen) (lo hi : Int) : Calls Tryd.prog 27 #[.string s, .int .i64 lo, .int .i64 hi] w fun e w' => e = .returned (.tuple #[.int .i64 (numV s.data.toList lo hi), .bool (numB s.data.toList lo hi)]) ∧ w' = w := by
  have f := rread_any s w hs
  have bV := readV_bd s.data.toList
  unfold numV
  obtain ⟨B, hB⟩ : ∃ B, numB s.data.toList lo hi = B := ⟨_, rfl⟩
  have hB2 := hB
  unfold numB at hB2
  rw [hB]
  by_cases hE : readE s.data.toList = 0
  · rw [hE] at f hB2
    by_cases q0 : lo ≤ readV s.data.toList
    · by_cases q1 : readV s.data.toList ≤ hi
      · obtain rfl : B = true := by rw [← hB2]; simp [q0, q1]
        rw [if_pos rfl]
        exact rnum_ok s w lo hi _ bV q0 q1 f
      · obtain rfl : B = false := by rw [← hB2]; simp; omega
        rw [if_neg (by simp)]
        exact rnum_hi s w lo hi _ bV q0 (by omega) f
    · obtain rfl : B = false := by rw [← hB2]; simp; omega
      rw [if_neg (by simp)]
      exact rnum_lo s w lo hi _ bV (by omega) f
  · obtain rfl : B = false := by rw [← hB2]; simp [hE]
    rw [if_neg (by simp)]
    exact rnum_e s w lo hi _ _ bV hE (bne_iff_ne.2 hE) f
end Go.Proofs.YtagkgneijdbkoaaDoor
/-
  What is asked of the program's own Number, Hex and Name (layer 7), as contracts. Condition: a text is at most 5000 bytes.
-/
namespace Go.Proofs.YtagkgneijdbkoaaDoor
open Go.RowKit
set_option linter.unusedVariables false

/-- what is asked of the program's own Number, Hex and Name -/
def NumP : Prop := ∀ (s : ByteArray) (lo hi : Int) (w : World), (s.size : Int) ≤ 5000 → (-9223372036854775808 ≤ lo ∧ lo ≤ 9223372036854775807) → (-9223372036854775808 ≤ hi ∧ hi ≤ 9223372036854775807) → Calls Tryd.prog 50 #[.string s, .int .i64 lo, .int .i64 hi] w fun e w' => e = .returned (.tuple #[.int .i64 (numV s.data.toList lo hi), .bool (numB s.data.toList lo hi)]) ∧ Below w.heap.size w w'
def HexP : Prop := ∀ (s : ByteArray) (w : World), (s.size : Int) ≤ 5000 → Calls Tryd.prog 52 #[.string s] w fun e w' => ∃ v, e = .returned (.tuple #[v, .bool (hexR s.data.toList).isSome]) ∧ BytesAt w' v ((hexR s.data.toList).getD []) ∧ Below w.heap.size w w'
def NameP : Prop := ∀ (s : ByteArray) (w : World), (s.size : Int) ≤ 5000 → Calls Tryd.prog 47 #[.string s] w fun e w' => e = .returned (.bool (nameB s.data.toList)) ∧ Below w.heap.size w w'
def NuC (f : FuncId) (s : ByteArray) (lo hi V : Int) (B : Bool) : Prop := ∀ x, Calls Tryd.prog f #[.string s, .int .i64 lo, .int .i64 hi] x fun e w' => e = .returned (.tuple #[.int .i64 V, .bool B]) ∧ Below x.heap.size x w'
def HeC (f : FuncId) (s : ByteArray) (B : Bool) (bs : List Nat) : Prop := ∀ x, Calls Tryd.prog f #[.string s] x fun e w' => ∃ v, e = .returned (.tuple #[v, .bool B]) ∧ BytesAt w' v bs ∧ Below x.heap.size x w'
def NaC (f : FuncId) (s : ByteArray) (B : Bool) : Prop := ∀ x, Calls Tryd.prog f #[.string s] x fun e w' => e = .returned (.bool B) ∧ Below x.heap.size x w'
theorem same_w {f : FuncId} {args : Array Value} {x : World} {v : Value} (h : Calls Tryd.prog f args x fun e w' => e = .returned v ∧ w' = x) : Calls Tryd.prog f args x fun e w' => e = .returned v ∧ Below x.heap.size x w' :=
  h.mono fun _ _ ⟨a, b⟩ => ⟨a, by rw [b]; exact Below.refl _ _⟩

end Go.Proofs.YtagkgneijdbkoaaDoor
/-
  What the program's own Number returns (layer 7): it is the document's. Conditions: as the contract says.
-/
namespace Go.Proofs.YtagkgneijdbkoaaDoor
open Go.RowKit
set_option linter.unusedVariables false

set_option maxRecDepth 100000 in
set_option maxHeartbeats 4000000 in
theorem pnum_e (s : ByteArray) (w : World) (lo hi V E : Int) (bV : -9223372036854775808 ≤ V ∧ V ≤ 9223372036854775807) (hE : ¬ E = 0) (hE2 : (E != 0) = true) (f : Hid (Calls Tryd.prog 58 #[.string s] w fun e w' => e = .returned (.tuple #[.int .i64 V, .int .i64 E]) ∧ w' = w)) :
    Calls Tryd.prog 50 #[.string s, .int .i64 lo, .int .i64 hi] w fun e w' => e = .returned (.tuple #[.int .i64 0, .bool false]) ∧ w' = w := by
  go_enter Tryd.func50, Tryd.ntmps50
  go_wp2_with fail
  refine f.out.mono ?_
  rintro e w1 ⟨rfl, rfl⟩
  clear f
  go_wp2
  go_ret2
  exact ⟨rfl, rfl⟩
set_option maxRecDepth 100000 in
set_option maxHeartbeats 4000000 in
theorem pnum_lo (s : ByteArray) (w : World) (lo hi V : Int) (bV : -9223372036854775808 ≤ V ∧ V ≤ 9223372036854775807) (q1 : V < lo) (f : Hid (Calls Tryd.prog 58 #[.string s] w fun e w' => e = .returned (.tuple #[.int .i64 V, .int .i64 0]) ∧ w' = w)) :
    Calls Tryd.prog 50 #[.string s, .int .i64 lo, .int .i64 hi] w fun e w' => e = .returned (.tuple #[.int .i64 0, .bool false]) ∧ w' = w := by
  go_enter Tryd.func50, Tryd.ntmps50
  go_wp2_with fail
  refine f.out.mono ?_
  rintro e w1 ⟨rfl, rfl⟩
  clear f
  go_wp2
  go_ret2
  exact ⟨rfl, rfl⟩
set_option maxRecDepth 100000 in
set_option maxHeartbeats 4000000 in
theorem pnum_hi (s : ByteArray) (w : World) (lo hi V : Int) (bV : -9223372036854775808 ≤ V ∧ V ≤ 9223372036854775807) (q0 : lo ≤ V) (q1 : hi < V) (f : Hid (Calls Tryd.prog 58 #[.string s] w fun e w' => e = .returned (.tuple #[.int .i64 V, .int .i64 0]) ∧ w' = w)) :
    Calls Tryd.prog 50 #[.string s, .int .i64 lo, .int .i64 hi] w fun e w' => e = .returned (.tuple #[.int .i64 0, .bool false]) ∧ w' = w := by
  go_enter Tryd.func50, Tryd.ntmps50
  go_wp2_with fail
  refine f.out.mono ?_
  rintro e w1 ⟨rfl, rfl⟩
  clear f
  go_wp2
  go_ret2
  exact ⟨rfl, rfl⟩
set_option maxRecDepth 100000 in
set_option maxHeartbeats 4000000 in
theorem pnum_ok (s : ByteArray) (w : World) (lo hi V : Int) (bV : -9223372036854775808 ≤ V ∧ V ≤ 9223372036854775807) (q0 : lo ≤ V) (q1 : V ≤ hi) (f : Hid (Calls Tryd.prog 58 #[.string s] w fun e w' => e = .returned (.tuple #[.int .i64 V, .int .i64 0]) ∧ w' = w)) :
    Calls Tryd.prog 50 #[.string s, .int .i64 lo, .int .i64 hi] w fun e w' => e = .returned (.tuple #[.int .i64 V, .bool true]) ∧ w' = w := by
  go_enter Tryd.func50, Tryd.ntmps50
  go_wp2_with fail
  refine f.out.mono ?_
  rintro e w1 ⟨rfl, rfl⟩
  clear f
  go_wp2
  go_ret2
  exact ⟨rfl, rfl⟩
theorem pnum_any (s : ByteArray) (w : World) (hs : s.size ≤ maxLen) (lo hi : Int) : Calls Tryd.prog 50 #[.string s, .int .i64 lo, .int .i64 hi] w fun e w' => e = .returned (.tuple #[.int .i64 (numV s.data.toList lo hi), .bool (numB s.data.toList lo hi)]) ∧ w' = w := by
  have f := read_any s w hs
  have bV := readV_bd s.data.toList
  unfold numV
  obtain ⟨B, hB⟩ : ∃ B, numB s.data.toList lo hi = B := ⟨_, rfl⟩
  have hB2 := hB
  unfold numB at hB2
  rw [hB]
  by_cases hE : readE s.data.toList = 0
  · rw [hE] at f hB2
    by_cases q0 : lo ≤ readV s.data.toList
    · by_cases q1 : readV s.data.toList ≤ hi
      · obtain rfl : B = true := by rw [← hB2]; simp [q0, q1]
        rw [if_pos rfl]
        exact pnum_ok s w lo hi _ bV q0 q1 f
      · obtain rfl : B = false := by rw [← hB2]; simp; omega
        rw [if_neg (by simp)]
        exact pnum_hi s w lo hi _ bV q0 (by omega) f
    · obtain rfl : B = false := by rw [← hB2]; simp; omega
      rw [if_neg (by simp)]
      exact pnum_lo s w lo hi _ bV (by omega) f
  · obtain rfl : B = false := by rw [← hB2]; simp [hE]
    rw [if_neg (by simp)]
    exact pnum_e s w lo hi _ _ bV hE (bne_iff_ne.2 hE) f
theorem HN : NumP := fun s lo hi w hs hlo hhi => same_w (pnum_any s w (by unfold maxLen; omega) lo hi)
end Go.Proofs.YtagkgneijdbkoaaDoor
/-
  What the program's own Name returns (layer 7): it is the document's. Conditions: as the contract says.
-/
namespace Go.Proofs.YtagkgneijdbkoaaDoor
open Go.RowKit
set_option linter.unusedVariables false

theorem below_iter (w : World) (s : ByteArray) (p : Nat) : Below w.heap.size w (w.iter s p) := (Below.refl _ _).alloc (Nat.le_refl _) _
/-- the first byte a letter, each of the first k a letter or a figure -/
def NameK (l : List UInt8) (k : Nat) : Prop := allN (l.take k) = true ∧ (0 < k → ∃ c r, l = c :: r ∧ lowB c = true)
theorem nameK_first (l : List UInt8) : NameK l 0 := ⟨rfl, fun h => absurd h (by omega)⟩
theorem nameK_next {l : List UInt8} {k : Nat} (h : k < l.length) (ha : NameK l k) (hc : nameC l[k] = true) (h0 : k = 0 → lowB l[k] = true) : NameK l (k + 1) := by
  refine ⟨allN_next h ha.1 hc, fun _ => ?_⟩
  by_cases hk : k = 0
  · subst hk
    exact ⟨l[0], l.drop 1, by have e := List.drop_eq_getElem_cons h; simpa using e, h0 rfl⟩
  · exact ha.2 (by omega)
theorem nameB_long {l : List UInt8} (h : ¬ l.length ≤ 12) : nameB l = false := by unfold nameB; rw [decide_eq_false h]; rfl
theorem nameB_all {l : List UInt8} (h : NameK l l.length) (h0 : 0 < l.length) (h12 : l.length ≤ 12) : nameB l = true := by
  obtain ⟨h1, h2⟩ := h
  obtain ⟨c, r, e, hc⟩ := h2 h0
  rw [List.take_length] at h1
  subst e
  unfold nameB
  rw [decide_eq_true h12, h1]
  show (true && (lowB c && true)) = true
  rw [hc]; rfl
theorem nameB_stop {l : List UInt8} {k : Nat} (h : k < l.length) (hc : nameC l[k] = false ∨ (k = 0 ∧ lowB l[k] = false)) : nameB l = false := by
  unfold nameB
  cases l with
  | nil => simp
  | cons c r =>
    rcases hc with hc | ⟨hk, hc⟩
    · show (decide _ && (lowB c && allN (c :: r))) = false
      rw [allN_stop h hc]; simp
    · subst hk
      show (decide _ && (lowB c && allN (c :: r))) = false
      rw [show lowB c = false from hc]; simp

set_option maxRecDepth 100000 in
set_option maxHeartbeats 4000000 in
theorem pname_main (s : ByteArray) (w : World) (h0 : (1 : Int) ≤ (s.size : Int)) (h12 : (s.size : Int) ≤ 12) :
    Calls Tryd.prog 47 #[.string s] w fun e w' => e = .returned (.bool (nameB s.data.toList)) ∧ Below w.heap.size w w' := by
  have g1 : decide ((s.size : Int) < 1) = false := decide_eq_false (by omega)
  have g2 : decide (12 < (s.size : Int)) = false := decide_eq_false (by omega)
  have hlen : s.data.toList.length = s.size := by simp
  obtain ⟨T, hT⟩ : ∃ T, nameB s.data.toList = T := ⟨_, rfl⟩
  rw [hT]
  replace hT : Hid (nameB s.data.toList = T) := hT
  go_enter Tryd.func47, Tryd.ntmps47
  go_wp2
  go_loopw [] (fun wr => ∃ k : Nat, k ≤ s.size ∧ wr = w.iter s k ∧ Hid (NameK s.data.toList k)) (fun wr => s.size - wr.iterPos w.heap.size)
  case atStart => exact ⟨0, Nat.zero_le _, rfl, nameK_first _⟩
  case round =>
    obtain ⟨k, hk, rfl, hall⟩ := hrel
    by_cases hlt : k < s.size
    · have hl : k < s.data.toList.length := by simpa using hlt
      have lk : s[k].toNat < 256 := s[k].toNat_lt
      have stp : Hid (nameC s[k] = false ∨ (k = 0 ∧ lowB s[k] = false) → T = false) := fun h => by rw [← hT.out]; exact nameB_stop hl h
      have nx : Hid (nameC s[k] = true → (k = 0 → lowB s[k] = true) → NameK s.data.toList (k + 1)) := fun h h2 => nameK_next hl hall.out h h2
      clear hall hT
      by_cases ha : s[k].toNat < 128
      · have hd := decode_ascii s k hlt ha
        have hnx : ∀ ty, (Instr.next (.pointer (some ⟨w.heap.size, 0, none⟩)) true ty).run Tryd.prog (w.iter s k) = .ok (.tuple #[.bool true, .int .i64 (k : Int), .int .i32 (s[k].toNat : Int)]) (w.iter s (k + 1)) := fun ty => by rw [run_next_any w s k ty hlt, hd]
        clear hd
        obtain ⟨c, hc⟩ : ∃ c : Nat, s[k].toNat = c := ⟨_, rfl⟩
        have hcn : Hid ((nameC s[k] = decide ((97 ≤ c ∧ c ≤ 122) ∨ (48 ≤ c ∧ c ≤ 57))) ∧ (lowB s[k] = decide (97 ≤ c ∧ c ≤ 122))) := by rw [← hc]; exact ⟨rfl, rfl⟩
        rw [hc] at hnx ha lk
        clear hc
        by_cases a1 : (97 : Int) ≤ (c : Int)
        · have q1 : decide ((97 : Int) ≤ (c : Int)) = true := decide_eq_true a1
          by_cases a2 : (c : Int) ≤ 122
          · have q2 : decide ((c : Int) ≤ 122) = true := decide_eq_true a2
            have nl : Hid (NameK s.data.toList (k + 1)) := nx.out (by rw [hcn.out.1]; exact decide_eq_true (by omega)) (fun _ => by rw [hcn.out.2]; exact decide_eq_true (by omega))
            clear nx stp hcn
            go_wp2
            exact ⟨⟨k + 1, by omega, rfl, nl⟩, by simp; omega⟩
          · have q2 : decide ((c : Int) ≤ 122) = false := decide_eq_false a2
            have q3 : decide ((48 : Int) ≤ (c : Int)) = true := decide_eq_true (by omega)
            have q4 : decide ((c : Int) ≤ 57) = false := decide_eq_false (by omega)
            have fin : Hid (T = false) := stp.out (.inl (by rw [hcn.out.1]; exact decide_eq_false (by omega)))
            clear nx stp hcn
            go_wp2
            go_ret
            exact ⟨ret_bb fin.out, below_iter _ _ _⟩
        · have q1 : decide ((97 : Int) ≤ (c : Int)) = false := decide_eq_false a1
          by_cases a3 : (48 : Int) ≤ (c : Int)
          · have q3 : decide ((48 : Int) ≤ (c : Int)) = true := decide_eq_true a3
            by_cases a4 : (c : Int) ≤ 57
            · have q4 : decide ((c : Int) ≤ 57) = true := decide_eq_true a4
              by_cases k0 : (k : Int) = 0
              · have q5 : ((k : Int) == 0) = true := by simp [k0]
                have fin : Hid (T = false) := stp.out (.inr ⟨by omega, by rw [hcn.out.2]; exact decide_eq_false (by omega)⟩)
                clear nx stp hcn
                go_wp2
                go_ret
                exact ⟨ret_bb fin.out, below_iter _ _ _⟩
              · have q5 : ((k : Int) == 0) = false := beq_eq_false_iff_ne.2 k0
                have nl : Hid (NameK s.data.toList (k + 1)) := nx.out (by rw [hcn.out.1]; exact decide_eq_true (by omega)) (fun h => absurd h (by omega))
                clear nx stp hcn
                go_wp2
                exact ⟨⟨k + 1, by omega, rfl, nl⟩, by simp; omega⟩
            · have q4 : decide ((c : Int) ≤ 57) = false := decide_eq_false a4
              have fin : Hid (T = false) := stp.out (.inl (by rw [hcn.out.1]; exact decide_eq_false (by omega)))
              clear nx stp hcn
              go_wp2
              go_ret
              exact ⟨ret_bb fin.out, below_iter _ _ _⟩
          · have q3 : decide ((48 : Int) ≤ (c : Int)) = false := decide_eq_false a3
            have fin : Hid (T = false) := stp.out (.inl (by rw [hcn.out.1]; exact decide_eq_false (by omega)))
            clear nx stp hcn
            go_wp2
            go_ret
            exact ⟨ret_bb fin.out, below_iter _ _ _⟩
      · have hd := decode_high s k hlt (by omega)
        obtain ⟨R, hR⟩ : ∃ R : Nat, (Utf8.decode s k).1 = R := ⟨_, rfl⟩
        obtain ⟨D, hD⟩ : ∃ D : Nat, (Utf8.decode s k).2 = D := ⟨_, rfl⟩
        have hnx : ∀ ty, (Instr.next (.pointer (some ⟨w.heap.size, 0, none⟩)) true ty).run Tryd.prog (w.iter s k) = .ok (.tuple #[.bool true, .int .i64 (k : Int), .int .i32 (R : Int)]) (w.iter s (k + D)) := fun ty => by rw [run_next_any w s k ty hlt, hR, hD]
        rw [hR] at hd
        have hR1 : (128 : Int) ≤ (R : Int) := by omega
        have q1 : decide ((97 : Int) ≤ (R : Int)) = true := decide_eq_true (by omega)
        have q2 : decide ((R : Int) ≤ 122) = false := decide_eq_false (by omega)
        have q3 : decide ((48 : Int) ≤ (R : Int)) = true := decide_eq_true (by omega)
        have q4 : decide ((R : Int) ≤ 57) = false := decide_eq_false (by omega)
        have fin : Hid (T = false) := stp.out (.inl (by unfold nameC; exact decide_eq_false (by omega)))
        clear nx stp hd hR hD
        go_wp2
        go_ret
        exact ⟨ret_bb fin.out, below_iter _ _ _⟩
    · obtain rfl : k = s.size := by omega
      have fin : Hid (T = true) := by
        rw [← hT.out]
        exact nameB_all (by rw [hlen]; exact hall.out) (by omega) (by omega)
      have hnx : ∀ ty, (Instr.next (.pointer (some ⟨w.heap.size, 0, none⟩)) true ty).run Tryd.prog (w.iter s s.size) = _ := fun ty => run_next_end w s s.size ty (by omega)
      clear hall hT
      go_wp2
      go_ret
      exact ⟨ret_bb fin.out, below_iter _ _ _⟩
set_option maxRecDepth 100000 in
set_option maxHeartbeats 4000000 in
theorem pname_zero (s : ByteArray) (w : World) (h0 : (s.size : Int) < 1) :
    Calls Tryd.prog 47 #[.string s] w fun e w' => e = .returned (.bool false) ∧ w' = w := by
  have g1 : decide ((s.size : Int) < 1) = true := decide_eq_true (by omega)
  go_enter Tryd.func47, Tryd.ntmps47
  go_wp2
  go_ret
  exact ⟨rfl, rfl⟩
set_option maxRecDepth 100000 in
set_option maxHeartbeats 4000000 in
theorem pname_long (s : ByteArray) (w : World) (h12 : 12 < (s.size : Int)) :
    Calls Tryd.prog 47 #[.string s] w fun e w' => e = .returned (.bool false) ∧ w' = w := by
  have g1 : decide ((s.size : Int) < 1) = false := decide_eq_false (by omega)
  have g2 : decide (12 < (s.size : Int)) = true := decide_eq_true (by omega)
  go_enter Tryd.func47, Tryd.ntmps47
  go_wp2
  go_ret
  exact ⟨rfl, rfl⟩
theorem HM : NameP := fun s w hs => by
  have hlen : s.data.toList.length = s.size := by simp
  by_cases h0 : (s.size : Int) < 1
  · have e : s.data.toList = [] := List.length_eq_zero_iff.1 (by rw [hlen]; omega)
    rw [e]
    exact same_w (pname_zero s w h0)
  · by_cases h12 : (s.size : Int) ≤ 12
    · exact pname_main s w (by omega) h12
    · rw [nameB_long (by rw [hlen]; omega)]
      exact same_w (pname_long s w (by omega))
end Go.Proofs.YtagkgneijdbkoaaDoor
/-
  The document's own Hex lays its bytes in a block of its own (layer 8). Condition: a word is at most 5000 bytes.
-/
namespace Go.Proofs.YtagkgneijdbkoaaDoor
open Go.RowKit
set_option linter.unusedVariables false

set_option maxRecDepth 100000 in
set_option maxHeartbeats 4000000 in
theorem rhexn_main (s : ByteArray) (w : World) (hs : (s.size : Int) ≤ 5000) (h0 : 0 < (s.size : Int)) (hev : (s.size : Int) % 2 = 0) (T : Option (List Nat)) (hT : hexO s.data.toList = T) :
    Calls Tryd.prog 31 #[.string s] w fun e w' => ∃ v, e = .returned (.tuple #[v, .bool T.isSome]) ∧ BytesAt w' v (T.getD []) ∧ Below w.heap.size w w' ∧ ∀ q, v.ownBlock = some q → w.heap.size ≤ q := by
  obtain ⟨i0, hi, hz0, hz1, hz2⟩ := info_parts info_u8
  have L0 : Hid (LeftH [] s.data.toList T) := by unfold Hid; rw [← hT]; exact LeftH.first _
  have hz : ((s.size : Int) == 0) = false := beq_eq_false_iff_ne.2 (by omega)
  have hq1 : ((s.size : Int) % 2 == 1) = false := beq_eq_false_iff_ne.2 (by omega)
  replace hev : Hid ((s.size : Int) % 2 = 0) := hev
  clear hT
  go_enter Tryd.func31, Tryd.ntmps31
  go_wp2
  go_loopw [4, 5] (fun vo vi wr => ∃ (k : Nat) (out : List Nat), (k : Int) ≤ (s.size : Int) ∧ vi = .int .i64 (k : Int) ∧ ((k : Int) % 2 = 0 ∧ (out.length : Int) ≤ (k : Int)) ∧ Hid (HxSt w wr vo out) ∧ Hid (LeftH out (s.data.toList.drop k) T)) (fun _ vi _ => s.size - (intOf vi).toNat)
  case atStart => exact ⟨0, [], by omega, rfl, ⟨by omega, by simp⟩, ⟨World.ownsRow_nil _ _ _ _, Below.refl _ _⟩, L0⟩
  case round =>
    obtain ⟨k, out, hk, rfl, ⟨hk2, hol⟩, st, left⟩ := hrel
    clear L0
    by_cases hlt : k < s.size
    · have hki : (k : Int) < (s.size : Int) := by omega
      have hk1 : k + 1 < s.size := by have := hev.out; omega
      have hk1i : (k : Int) + 1 < (s.size : Int) := by omega
      have lf := left.out
      rw [sdrop_at hlt, sdrop_at hk1] at lf
      have x1 : s[k].toNat < 256 := s[k].toNat_lt
      have x2 : s[k + 1].toNat < 256 := s[k + 1].toNat_lt
      have b1 := half_bd s[k].toNat
      have b2 := half_bd s[k + 1].toNat
      have f1 : Hid (∀ w, Calls Tryd.prog 45 #[.int .u8 (s[k].toNat : Int)] w fun e w' => e = .returned (.int .i64 (halfC s[k].toNat)) ∧ w' = w) := fun w => rhalf_any _ x1 w
      have f2 : Hid (∀ w, Calls Tryd.prog 45 #[.int .u8 (s[k + 1].toNat : Int)] w fun e w' => e = .returned (.int .i64 (halfC s[k + 1].toNat)) ∧ w' = w) := fun w => rhalf_any _ x2 w
      have nx : Hid ((0 ≤ halfC s[k].toNat ∧ 0 ≤ halfC s[k + 1].toNat) → LeftH (out ++ [(16 * halfC s[k].toNat + halfC s[k + 1].toNat).toNat]) (s.data.toList.drop (k + 2)) T) := fun h => lf.two h.1 h.2
      have bd : Hid (¬ (0 ≤ halfC s[k].toNat ∧ 0 ≤ halfC s[k + 1].toNat) → T = none) := fun h => lf.bad h
      clear lf left x1 x2
      generalize halfC s[k].toNat = p at *
      generalize halfC s[k + 1].toNat = q at *
      have wk : IntKind.i64.wrap ((k : Int) + 1) = (k : Int) + 1 := by simp only [IntKind.wrap_i64]; omega
      have ix : ∀ x : World, (Instr.index 9 (.string s) (.int .i64 ((k : Int) + 1))).run Tryd.prog x = .ok (.int .u8 (s[k + 1].toNat : Int)) x := fun x => by
        rw [run_index_string x 9 s .i64 _ Tryd.underlying9, dif_pos ⟨by omega, hk1i⟩]
        rfl
      go_wp2_with fail
      go_quiet (first
        | (go_at_call 45; with_reducible refine Calls.quiet_of_same (f1.out _))
        | (go_at_call 45; with_reducible refine Calls.quiet_of_same (f2.out _)))
      clear f1 f2 ix wk
      replace st : Hid (HxSt w (wr.drewN nq) u4 out) := st.out.drewN nq
      generalize wr.drewN nq = wd at *
      by_cases h1 : 0 ≤ p
      · by_cases h2 : 0 ≤ q
        · obtain ⟨c, hc⟩ : ∃ c : Nat, (16 * p + q).toNat = c := ⟨_, rfl⟩
          have nl := nx.out ⟨h1, h2⟩
          rw [hc] at nl
          replace nl : Hid (LeftH (out ++ [c]) (s.data.toList.drop (k + 2)) T) := nl
          have wc : IntKind.u8.wrap (16 * p + q) = (c : Int) := by simp only [IntKind.wrap_u8']; omega
          have h63 : out.length + 1 ≤ maxLen := by unfold maxLen; omega
          have hby : (out.length + 1) * 1 ≤ 140737488355328 := by omega
          have hsz := st.out.b.size
          clear nx bd hc
          go_wp2_with (at_builtin; refine wpList_append_own _ rfl _ _ 24 rfl w.heap.size 5 i0 (.int .u8 0) 1 1 Tryd.underlying24 hi hz0 hz1 hz2 rfl (by decide) _ _ _ rfl (World.ownsRow.alloc st.out.r _) ⟨wd.heap.size, 0, none⟩ 1 1 [.int .u8 (c : Int)] rfl rfl (cell_oneH _ _) (by simp [Value.oneCell']) h63 hby (by simp; omega) ?_; intro v' y hown' hgrow _; have st2 : Hid (HxSt w y v' (out ++ [c])) := ⟨by unfold RowB; rw [List.length_append]; unfold u8v; rw [List.map_append]; exact hown', (st.out.b.alloc hsz _).grown hgrow (by simp; omega) (fun q eq => (World.ownsRow.lt st.out.r q eq).1)⟩; clear hown' hgrow)
          exact ⟨⟨k + 2, out ++ [c], by omega, by simp, ⟨by omega, by simp; omega⟩, st2, nl⟩, by simp [intOf]; omega⟩
        · have h2' : q < 0 := by omega
          have fin : Hid (T = none) := bd.out (fun h => h2 h.2)
          have B : Hid (Below w.heap.size w wd) := st.out.b
          clear nx bd st
          go_wp2
          go_ret2
          exact ⟨_, by rw [fin.out]; rfl, by rw [fin.out]; exact .inl ⟨rfl, rfl⟩, B.out, fun q hq => (by cases hq)⟩
      · have h1' : p < 0 := by omega
        have fin : Hid (T = none) := bd.out (fun h => h1 h.1)
        have B : Hid (Below w.heap.size w wd) := st.out.b
        clear nx bd st
        go_wp2
        go_ret2
        exact ⟨_, by rw [fin.out]; rfl, by rw [fin.out]; exact .inl ⟨rfl, rfl⟩, B.out, fun q hq => (by cases hq)⟩
    · obtain rfl : k = s.size := by omega
      have fin : Hid (T = some out) := by
        have h := left.out
        rw [List.drop_eq_nil_of_le (by simp)] at h
        exact h.fin
      have X : Hid (BytesAt wr u4 out) := st.out.r.at
      have Y : Hid (∀ q, u4.ownBlock = some q → w.heap.size ≤ q) := fun q hq => (World.ownsRow.lt st.out.r q hq).1
      have B : Hid (Below w.heap.size w wr) := st.out.b
      clear left st hlt
      go_wp2
      go_ret2
      exact ⟨_, by rw [fin.out]; rfl, by rw [fin.out]; exact X.out, B.out, Y.out⟩
theorem rhex_new (s : ByteArray) (w : World) (hs : (s.size : Int) ≤ 5000) :
    Calls Tryd.prog 31 #[.string s] w fun e w' => ∃ v, e = .returned (.tuple #[v, .bool (hexR s.data.toList).isSome]) ∧ BytesAt w' v ((hexR s.data.toList).getD []) ∧ Below w.heap.size w w' ∧ ∀ q, v.ownBlock = some q → w.heap.size ≤ q := by
  have hl : s.data.toList.length = s.size := by simp
  by_cases h0 : s.size = 0
  · have e : hexR s.data.toList = none := by unfold hexR; rw [if_pos (List.length_eq_zero_iff.1 (hl.trans h0))]
    rw [e]
    refine (rhex_none s w (by omega)).mono ?_
    rintro e w' ⟨rfl, rfl⟩
    exact ⟨_, rfl, .inl ⟨rfl, rfl⟩, Below.refl _ _, fun q hq => (by cases hq)⟩
  · have e : hexR s.data.toList = hexO s.data.toList := by unfold hexR; rw [if_neg (fun q => h0 (by rw [← hl, q]; rfl))]
    rw [e]
    by_cases h1 : s.size % 2 = 1
    · rw [hex_odd _ (by rw [hl]; exact h1)]
      refine (rhex_odd s w hs (by omega) (by omega)).mono ?_
      rintro e w' ⟨rfl, rfl⟩
      exact ⟨_, rfl, .inl ⟨rfl, rfl⟩, Below.refl _ _, fun q hq => (by cases hq)⟩
    · exact rhexn_main s w hs (by omega) (by omega) _ rfl
end Go.Proofs.YtagkgneijdbkoaaDoor
