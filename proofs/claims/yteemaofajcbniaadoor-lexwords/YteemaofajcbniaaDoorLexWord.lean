/-
  What the document's own half, Hex, Name and Number return (layer 7). Conditions: a text is at most 300 bytes.
-/
import Derived.Maps.AppendAt
import Derived.BigQuiet
import Derived.Deep.QuietTactic
import Derived.Deep.CutRange
import Derived.Test.YteemaofajcbniaaDoorLexWordM
import Derived.Test.YteemaofajcbniaaDoorRefReads2
namespace Go.Proofs.YteemaofajcbniaaDoor
open Go.RowKit
set_option linter.unusedVariables false

set_option maxRecDepth 100000 in
set_option maxHeartbeats 4000000 in
theorem rhalf_any (c : Nat) (hc : c < 256) (w : World) : Calls Tryd.prog 24 #[.int .u8 (c : Int)] w fun e w' => e = .returned (.int .i64 (halfC c)) ∧ w' = w := by
  have hci : (0 : Int) ≤ (c : Int) ∧ (c : Int) < 256 := ⟨by omega, by omega⟩
  obtain ⟨V, hV⟩ : ∃ V, halfC c = V := ⟨_, rfl⟩
  rw [hV]
  replace hV : Hid (halfC c = V) := hV
  by_cases h1 : (48 : Int) ≤ (c : Int)
  · by_cases h2 : (c : Int) ≤ 57
    · have fin : Hid ((c : Int) - 48 = V) := by have := hV.out; unfold halfC at this; rwa [if_pos ⟨by omega, by omega⟩] at this
      clear hV
      go_enter Tryd.func24, Tryd.ntmps24
      go_wp2
      go_ret
      exact ⟨by rw [← fin.out]; rfl, rfl⟩
    · by_cases h3 : (97 : Int) ≤ (c : Int)
      · by_cases h4 : (c : Int) ≤ 102
        · have fin : Hid ((c : Int) - 87 = V) := by have := hV.out; unfold halfC at this; rwa [if_neg (by omega), if_pos ⟨by omega, by omega⟩] at this
          clear hV
          go_enter Tryd.func24, Tryd.ntmps24
          go_wp2
          go_ret
          exact ⟨by rw [← fin.out]; rfl, rfl⟩
        · have fin : Hid (-1 = V) := by have := hV.out; unfold halfC at this; rwa [if_neg (by omega), if_neg (by omega)] at this
          clear hV
          go_enter Tryd.func24, Tryd.ntmps24
          go_wp2
          go_ret
          exact ⟨by rw [← fin.out]; rfl, rfl⟩
      · have fin : Hid (-1 = V) := by have := hV.out; unfold halfC at this; rwa [if_neg (by omega), if_neg (by omega)] at this
        clear hV
        go_enter Tryd.func24, Tryd.ntmps24
        go_wp2
        go_ret
        exact ⟨by rw [← fin.out]; rfl, rfl⟩
  · have fin : Hid (-1 = V) := by have := hV.out; unfold halfC at this; rwa [if_neg (by omega), if_neg (by omega)] at this
    have h3 : ¬ (97 : Int) ≤ (c : Int) := by omega
    clear hV
    go_enter Tryd.func24, Tryd.ntmps24
    go_wp2
    go_ret
    exact ⟨by rw [← fin.out]; rfl, rfl⟩

theorem sdrop_at {s : ByteArray} {k : Nat} (hk : k < s.size) : s.data.toList.drop k = s[k] :: s.data.toList.drop (k + 1) := by
  have hl : k < s.data.toList.length := by simpa using hk
  rw [List.drop_eq_getElem_cons hl]
  rfl
/-- the row so far -/
structure HxSt (w x : World) (o : Value) (l : List Nat) : Prop where
  r : RowB x w.heap.size o l
  b : Below w.heap.size w x
theorem HxSt.drewN {w x : World} {o : Value} {l : List Nat} (h : HxSt w x o l) (n : Nat) : HxSt w (x.drewN n) o l := ⟨h.r, ⟨h.b.os, h.b.tape, h.b.output, h.b.size, h.b.block⟩⟩
theorem cell_oneH (w : World) (b : Int) : ∀ (j : Nat) (u : Value), ([.int .u8 b] : List Value)[j]? = some u → (w.alloc (.cells #[.int .u8 b] 5)).cell? ((⟨w.heap.size, 0, none⟩ : Addr).add j) = some u := cell_one_new w _ _

set_option maxRecDepth 100000 in
set_option maxHeartbeats 4000000 in
theorem rhex_main (s : ByteArray) (w : World) (hs : (s.size : Int) ≤ 300) (h0 : 0 < (s.size : Int)) (hev : (s.size : Int) % 2 = 0) (T : Option (List Nat)) (hT : hexO s.data.toList = T) :
    Calls Tryd.prog 14 #[.string s] w fun e w' => ∃ v, e = .returned (.tuple #[v, .bool T.isSome]) ∧ BytesAt w' v (T.getD []) ∧ Below w.heap.size w w' := by
  obtain ⟨i0, hi, hz0, hz1, hz2⟩ := info_parts info_u8
  have L0 : Hid (LeftH [] s.data.toList T) := by unfold Hid; rw [← hT]; exact LeftH.first _
  have hz : ((s.size : Int) == 0) = false := beq_eq_false_iff_ne.2 (by omega)
  have hq1 : ((s.size : Int) % 2 == 1) = false := beq_eq_false_iff_ne.2 (by omega)
  replace hev : Hid ((s.size : Int) % 2 = 0) := hev
  clear hT
  go_enter Tryd.func14, Tryd.ntmps14
  go_wp2
  go_loopw [4, 5] (fun vo vi wr => ∃ (k : Nat) (out : List Nat), (k : Int) ≤ (s.size : Int) ∧ vi = .int .i64 (k : Int) ∧ ((k : Int) % 2 = 0 ∧ (out.length : Int) ≤ (k : Int)) ∧ Hid (HxSt w wr vo out) ∧ Hid (LeftH out (s.data.toList.drop k) T)) (fun _ vi _ => s.size - (intOf vi).toNat)
  case atStart => exact ⟨0, [], by omega, rfl, ⟨by omega, by simp⟩, ⟨World.ownsRow_nil _ _ _ _, Below.refl _ _⟩, L0⟩
  case round =>
    obtain ⟨k, out, hk, rfl, ⟨hk2, hol⟩, st, left⟩ := hrel
    clear L0
    by_cases hlt : k < s.size
    · have hki : (k : Int) < (s.size : Int) := by omega
      have hk1 : k + 1 < s.size := by have := hev.out; omega
      have hk1i : (k : Int) + 1 < (s.size : Int) := by omega
      have lf := left.out
      rw [sdrop_at hlt, sdrop_at hk1] at lf
      have x1 : s[k].toNat < 256 := s[k].toNat_lt
      have x2 : s[k + 1].toNat < 256 := s[k + 1].toNat_lt
      have b1 := half_bd s[k].toNat
      have b2 := half_bd s[k + 1].toNat
      have f1 : Hid (∀ w, Calls Tryd.prog 24 #[.int .u8 (s[k].toNat : Int)] w fun e w' => e = .returned (.int .i64 (halfC s[k].toNat)) ∧ w' = w) := fun w => rhalf_any _ x1 w
      have f2 : Hid (∀ w, Calls Tryd.prog 24 #[.int .u8 (s[k + 1].toNat : Int)] w fun e w' => e = .returned (.int .i64 (halfC s[k + 1].toNat)) ∧ w' = w) := fun w => rhalf_any _ x2 w
      have nx : Hid ((0 ≤ halfC s[k].toNat ∧ 0 ≤ halfC s[k + 1].toNat) → LeftH (out ++ [(16 * halfC s[k].toNat + halfC s[k + 1].toNat).toNat]) (s.data.toList.drop (k + 2)) T) := fun h => lf.two h.1 h.2
      have bd : Hid (¬ (0 ≤ halfC s[k].toNat ∧ 0 ≤ halfC s[k + 1].toNat) → T = none) := fun h => lf.bad h
      clear lf left x1 x2
      generalize halfC s[k].toNat = p at *
      generalize halfC s[k + 1].toNat = q at *
      have wk : IntKind.i64.wrap ((k : Int) + 1) = (k : Int) + 1 := by simp only [IntKind.wrap_i64]; omega
      have ix : ∀ x : World, (Instr.index 9 (.string s) (.int .i64 ((k : Int) + 1))).run Tryd.prog x = .ok (.int .u8 (s[k + 1].toNat : Int)) x := fun x => by
        rw [run_index_string x 9 s .i64 _ Tryd.underlying9, dif_pos ⟨by omega, hk1i⟩]
        rfl
      go_wp2_with fail
      go_quiet (first
        | (go_at_call 24; with_reducible refine Calls.quiet_of_same (f1.out _))
        | (go_at_call 24; with_reducible refine Calls.quiet_of_same (f2.out _)))
      clear f1 f2 ix wk
      replace st : Hid (HxSt w (wr.drewN nq) u4 out) := st.out.drewN nq
      generalize wr.drewN nq = wd at *
      by_cases h1 : 0 ≤ p
      · by_cases h2 : 0 ≤ q
        · obtain ⟨c, hc⟩ : ∃ c : Nat, (16 * p + q).toNat = c := ⟨_, rfl⟩
          have nl := nx.out ⟨h1, h2⟩
          rw [hc] at nl
          replace nl : Hid (LeftH (out ++ [c]) (s.data.toList.drop (k + 2)) T) := nl
          have wc : IntKind.u8.wrap (16 * p + q) = (c : Int) := by simp only [IntKind.wrap_u8']; omega
          have h63 : out.length + 1 ≤ maxLen := by unfold maxLen; omega
          have hby : (out.length + 1) * 1 ≤ 140737488355328 := by omega
          have hsz := st.out.b.size
          clear nx bd hc
          go_wp2_with (at_builtin; refine wpList_append_own _ rfl _ _ 34 rfl w.heap.size 5 i0 (.int .u8 0) 1 1 Tryd.underlying34 hi hz0 hz1 hz2 rfl (by decide) _ _ _ rfl (World.ownsRow.alloc st.out.r _) ⟨wd.heap.size, 0, none⟩ 1 1 [.int .u8 (c : Int)] rfl rfl (cell_oneH _ _) (by simp [Value.oneCell']) h63 hby (by simp; omega) ?_; intro v' y hown' hgrow _; have st2 : Hid (HxSt w y v' (out ++ [c])) := ⟨by unfold RowB; rw [List.length_append]; unfold u8v; rw [List.map_append]; exact hown', (st.out.b.alloc hsz _).grown hgrow (by simp; omega) (fun q eq => (World.ownsRow.lt st.out.r q eq).1)⟩; clear hown' hgrow)
          exact ⟨⟨k + 2, out ++ [c], by omega, by simp, ⟨by omega, by simp; omega⟩, st2, nl⟩, by simp [intOf]; omega⟩
        · have h2' : q < 0 := by omega
          have fin : Hid (T = none) := bd.out (fun h => h2 h.2)
          have B : Hid (Below w.heap.size w wd) := st.out.b
          clear nx bd st
          go_wp2
          go_ret2
          exact ⟨_, by rw [fin.out]; rfl, by rw [fin.out]; exact .inl ⟨rfl, rfl⟩, B.out⟩
      · have h1' : p < 0 := by omega
        have fin : Hid (T = none) := bd.out (fun h => h1 h.1)
        have B : Hid (Below w.heap.size w wd) := st.out.b
        clear nx bd st
        go_wp2
        go_ret2
        exact ⟨_, by rw [fin.out]; rfl, by rw [fin.out]; exact .inl ⟨rfl, rfl⟩, B.out⟩
    · obtain rfl : k = s.size := by omega
      have fin : Hid (T = some out) := by
        have h := left.out
        rw [List.drop_eq_nil_of_le (by simp)] at h
        exact h.fin
      have X : Hid (BytesAt wr u4 out) := st.out.r.at
      have B : Hid (Below w.heap.size w wr) := st.out.b
      clear left st hlt
      go_wp2
      go_ret2
      exact ⟨_, by rw [fin.out]; rfl, by rw [fin.out]; exact X.out, B.out⟩
set_option maxRecDepth 100000 in
set_option maxHeartbeats 4000000 in
theorem rhex_none (s : ByteArray) (w : World) (h0 : (s.size : Int) = 0) :
    Calls Tryd.prog 14 #[.string s] w fun e w' => e = .returned (.tuple #[.slice none 0 0, .bool false]) ∧ w' = w := by
  go_enter Tryd.func14, Tryd.ntmps14
  go_wp2
  go_ret2
  exact ⟨rfl, rfl⟩
set_option maxRecDepth 100000 in
set_option maxHeartbeats 4000000 in
theorem rhex_odd (s : ByteArray) (w : World) (hs : (s.size : Int) ≤ 300) (h0 : 0 < (s.size : Int)) (hev : (s.size : Int) % 2 = 1) :
    Calls Tryd.prog 14 #[.string s] w fun e w' => e = .returned (.tuple #[.slice none 0 0, .bool false]) ∧ w' = w := by
  have hz : ((s.size : Int) == 0) = false := beq_eq_false_iff_ne.2 (by omega)
  go_enter Tryd.func14, Tryd.ntmps14
  go_wp2
  go_ret2
  exact ⟨rfl, rfl⟩
theorem rhex_any (s : ByteArray) (w : World) (hs : (s.size : Int) ≤ 300) :
    Calls Tryd.prog 14 #[.string s] w fun e w' => ∃ v, e = .returned (.tuple #[v, .bool (hexR s.data.toList).isSome]) ∧ BytesAt w' v ((hexR s.data.toList).getD []) ∧ Below w.heap.size w w' := by
  have hl : s.data.toList.length = s.size := by simp
  by_cases h0 : s.size = 0
  · have e : hexR s.data.toList = none := by unfold hexR; rw [if_pos (List.length_eq_zero_iff.1 (hl.trans h0))]
    rw [e]
    refine (rhex_none s w (by omega)).mono ?_
    rintro e w' ⟨rfl, rfl⟩
    exact ⟨_, rfl, .inl ⟨rfl, rfl⟩, Below.refl _ _⟩
  · have e : hexR s.data.toList = hexO s.data.toList := by unfold hexR; rw [if_neg (fun q => h0 (by rw [← hl, q]; rfl))]
    rw [e]
    by_cases h1 : s.size % 2 = 1
    · rw [hex_odd _ (by rw [hl]; exact h1)]
      refine (rhex_odd s w hs (by omega) (by omega)).mono ?_
      rintro e w' ⟨rfl, rfl⟩
      exact ⟨_, rfl, .inl ⟨rfl, rfl⟩, Below.refl _ _⟩
    · exact rhex_main s w hs (by omega) (by omega) _ rfl
end Go.Proofs.YteemaofajcbniaaDoor
