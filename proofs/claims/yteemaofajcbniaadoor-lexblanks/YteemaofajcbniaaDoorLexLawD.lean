/-
  The law on more blanks (layer 7), out of the contract. Conditions: as each says.
-/
import Derived.Deep.RegionHeld3
import Derived.Deep.AppendLies
import Derived.Deep.CutRange
import Derived.Test.YteemaofajcbniaaDoorLexLawC
namespace Go.Proofs.YteemaofajcbniaaDoor
open Go.RowKit
set_option linter.unusedVariables false

theorem txt_app (a b : Wd) : txt a ++ txt b = txt (a ++ b) := by
  apply ByteArray.ext
  apply Array.toList_inj.1
  rw [ByteArray.data_append, Array.toList_append]
  rfl
theorem add_txt (x : World) (a b : Wd) (h : a.length + b.length ≤ 9223372036854775807) : (Op.stringOp .add (txt a) (txt b)).run Tryd.prog x = .ok (.string (txt (a ++ b))) x := by
  rw [run_string_add_sum x (txt a) (txt b) (by rw [txt_size, txt_size]; exact h), txt_app]
theorem gap_len (k : Nat) : (gapL k).length = k + 1 := by unfold gapL; simp
theorem gap_snoc (k : Nat) : gapL k ++ [32] = gapL (k + 1) := by unfold gapL; rw [← List.replicate_succ']
theorem stake {s : ByteArray} {j : Nat} (h : j < s.size) : s.data.toList.take (j + 1) = s.data.toList.take j ++ [s[j]] := by
  rw [List.take_succ_eq_append_getElem (by simpa using h)]; rfl

set_option maxRecDepth 100000 in
set_option maxHeartbeats 8000000 in
theorem lblanks_main (w : World) (s : ByteArray) (hs : (s.size : Int) ≤ 400) (A : Int) (bA : 0 ≤ A ∧ A < 256) (r : Nat) (hr : A % 3 = (r : Int)) (hr9 : (r : Int) ≤ 2) (N E : Int) (n1 : Nat) (hn1 : (n1 : Int) ≤ 4100) (RA : List Ln) (HA : Hid (RA.length = n1)) (HK : Hid (RowsOk RA)) (aw : AwC7 w) (ca : RoC w s N E RA) (cb : RoC w (txt (gapL (r + 1) ++ blowL (r + 1) s.data.toList)) N E RA) (cs : SaC true RA RA) :
    Calls Tryd.prog 5 #[.string s, .int .u8 A] w fun e w' => e = .returned (.bool true) ∧ Below w.heap.size w w' := by
  obtain ⟨r0, hri, hr0, hr1, hr2⟩ := info_parts info_rr
  obtain ⟨S2, hS2⟩ : ∃ S2, txt (gapL (r + 1) ++ blowL (r + 1) s.data.toList) = S2 := ⟨_, rfl⟩
  rw [hS2] at cb
  replace hS2 : Hid (txt (gapL (r + 1) ++ blowL (r + 1) s.data.toList) = S2) := hS2
  go_enter Tryd.func5, Tryd.ntmps5
  go_wp2_with fail
  refine (aw _ (Below.refl _ _)).mono ?_
  rintro e w1 ⟨rfl, hb⟩
  have B : Hid (Below w.heap.size w w1) := hb
  clear hb aw
  go_wp2
  go_loop [5, 6] (fun g i => ∃ k : Nat, (k : Int) ≤ (r : Int) ∧ i = .int .i64 (k : Int) ∧ g = .string (txt (gapL (k + 1)))) (fun _ i => r - (intOf i).toNat)
  case atStart => exact ⟨0, by omega, rfl, rfl⟩
  case round =>
    obtain ⟨k, hk, rfl, rfl⟩ := hrel
    by_cases hlt : k < r
    · have hki : (k : Int) < (r : Int) := by omega
      have ga : ∀ x : World, (Op.stringOp .add (txt (gapL (k + 1))) ⟨#[32]⟩).run Tryd.prog x = .ok (.string (txt (gapL (k + 2)))) x := fun x => by
        have h := add_txt x (gapL (k + 1)) [32] (by rw [gap_len]; simp; omega)
        rw [gap_snoc] at h
        exact h
      clear ca cb cs
      go_wp2
      exact ⟨⟨k + 1, by omega, by simp, rfl⟩, by simp [intOf]; omega⟩
    · obtain rfl : k = r := by omega
      clear hlt hk
      have gl : Hid ((gapL (k + 1)).length = k + 2) := gap_len _
      go_wp2
      go_loop [7, 8] (fun t i => ∃ (j : Nat) (X : List UInt8), (j : Int) ≤ (s.size : Int) ∧ i = .int .i64 (j : Int) ∧ t = .string (txt X) ∧ (X.length : Int) ≤ 9 * (j : Int) + 4 ∧ Hid (X = gapL (k + 1) ++ blowL (k + 1) (s.data.toList.take j))) (fun _ i => s.size - (intOf i).toNat)
      case atStart => exact ⟨0, gapL (k + 1), by omega, rfl, rfl, by rw [gl.out]; omega, by unfold Hid; simp [blowL]⟩
      case round =>
        obtain ⟨j, X, hj, rfl, rfl, hX, hv⟩ := hrel
        by_cases hlt : j < s.size
        · have hji : (j : Int) < (s.size : Int) := by omega
          have nx : Hid (∀ Y, (if s[j] = 32 then gapL (k + 1) else if s[j] = 10 then gapL (k + 1) ++ 10 :: gapL (k + 1) else [s[j]]) = Y → X ++ Y = gapL (k + 1) ++ blowL (k + 1) (s.data.toList.take (j + 1))) := fun Y hY => by
            rw [stake hlt, blow_snoc, hY, hv.out, List.append_assoc]
          clear ca cb cs hv
          by_cases h32 : (s[j].toNat : Int) = 32
          · have c32 : s[j] = 32 := u8_eq (n := 32) (by omega) h32
            have nl : Hid (X ++ gapL (k + 1) = gapL (k + 1) ++ blowL (k + 1) (s.data.toList.take (j + 1))) := nx.out _ (by rw [if_pos c32])
            have ad := fun x : World => add_txt x X (gapL (k + 1)) (by rw [gl.out]; omega)
            have ln : Hid (((X ++ gapL (k + 1)).length : Int) ≤ 9 * ((j : Int) + 1) + 4) := by unfold Hid; rw [List.length_append, gl.out]; omega
            clear nx c32
            generalize X ++ gapL (k + 1) = X2 at *
            go_wp2
            exact ⟨⟨j + 1, X2, by omega, by simp, rfl, by have := ln.out; omega, nl⟩, by simp [intOf]; omega⟩
          · have c32 : ¬ s[j] = 32 := fun e => h32 (by rw [e]; rfl)
            have q32 : ((s[j].toNat : Int) == 32) = false := beq_eq_false_iff_ne.2 h32
            by_cases h10 : (s[j].toNat : Int) = 10
            · have c10 : s[j] = 10 := u8_eq (n := 10) (by omega) h10
              have nl : Hid (X ++ (gapL (k + 1) ++ 10 :: gapL (k + 1)) = gapL (k + 1) ++ blowL (k + 1) (s.data.toList.take (j + 1))) := nx.out _ (by rw [if_neg c32, if_pos c10])
              have ln : Hid (((X ++ (gapL (k + 1) ++ 10 :: gapL (k + 1))).length : Int) ≤ 9 * ((j : Int) + 1) + 4) := by unfold Hid; simp only [List.length_append, List.length_cons]; rw [gl.out]; omega
              have ad := fun x : World => add_txt x X (gapL (k + 1)) (by rw [gl.out]; omega)
              have ad2 : ∀ x : World, (Op.stringOp .add (txt (X ++ gapL (k + 1))) ⟨#[10]⟩).run Tryd.prog x = .ok (.string (txt (X ++ gapL (k + 1) ++ [10]))) x := fun x => add_txt x (X ++ gapL (k + 1)) [10] (by rw [List.length_append, gl.out]; simp; omega)
              have ad3 := fun x : World => add_txt x (X ++ gapL (k + 1) ++ [10]) (gapL (k + 1)) (by rw [List.length_append, List.length_append, gl.out]; simp; omega)
              rw [show X ++ (gapL (k + 1) ++ 10 :: gapL (k + 1)) = X ++ gapL (k + 1) ++ [10] ++ gapL (k + 1) by simp] at nl ln
              replace nl : Hid (X ++ gapL (k + 1) ++ [10] ++ gapL (k + 1) = gapL (k + 1) ++ blowL (k + 1) (s.data.toList.take (j + 1))) := nl
              replace ln : Hid (((X ++ gapL (k + 1) ++ [10] ++ gapL (k + 1)).length : Int) ≤ 9 * ((j : Int) + 1) + 4) := ln
              clear nx c32 c10
              generalize X ++ gapL (k + 1) ++ [10] ++ gapL (k + 1) = X4 at *
              generalize X ++ gapL (k + 1) ++ [10] = X3 at *
              generalize X ++ gapL (k + 1) = X2 at *
              go_wp2
              exact ⟨⟨j + 1, X4, by omega, by simp, rfl, by have := ln.out; omega, nl⟩, by simp [intOf]; omega⟩
            · have c10 : ¬ s[j] = 10 := fun e => h10 (by rw [e]; rfl)
              have q10 : ((s[j].toNat : Int) == 10) = false := beq_eq_false_iff_ne.2 h10
              have nl : Hid (X ++ [s[j]] = gapL (k + 1) ++ blowL (k + 1) (s.data.toList.take (j + 1))) := nx.out _ (by rw [if_neg c32, if_neg c10])
              have ln : Hid (((X ++ [s[j]]).length : Int) ≤ 9 * ((j : Int) + 1) + 4) := by unfold Hid; simp; omega
              have hk1 : (j : Int) + 1 ≤ (s.size : Int) := by omega
              have hadd : ∀ x : World, (Op.stringOp .add (txt X) (s.extract j (j + 1))).run Tryd.prog x = .ok (.string (txt (X ++ [s[j]]))) x := fun x => by
                rw [run_string_add_sum x (txt X) (s.extract j (j + 1)) (by rw [txt_size, ByteArray.size_extract]; omega), txt_cat hlt]
              clear nx c32 c10
              generalize X ++ [s[j]] = X2 at *
              go_wp2
              exact ⟨⟨j + 1, X2, by omega, by simp, rfl, by have := ln.out; omega, nl⟩, by simp [intOf]; omega⟩
        · obtain rfl : j = s.size := by omega
          have eX : txt X = S2 := by
            have h := hv.out
            rw [List.take_of_length_le (by simp)] at h
            rw [h]; exact hS2.out
          rw [eX]
          clear hv hX eX hS2 gl hlt hj
          go_wp2_with fail
          refine (ca _ B.out).mono ?_
          rintro e w2 ⟨v1, rfl, h1, hb⟩
          replace B : Hid (Below w.heap.size w w2) := belowT B.out hb
          have R1 : Hid (RowsAt w2 v1 RA) := h1
          clear hb ca h1
          go_wp2_with fail
          refine (cb _ B.out).mono ?_
          rintro e w3 ⟨v2, rfl, h2, hb⟩
          replace B : Hid (Below w.heap.size w w3) := belowT B.out hb
          replace R1 : Hid (RowsAt w3 v1 RA) := R1.out.below hb
          have R2 : Hid (RowsAt w3 v2 RA) := h2
          clear hb cb h2
          have F1 := R1.out.form2 HA.out
          have F2 := R2.out.form2 HA.out
          rcases F1 with ⟨rfl, z1⟩ | ⟨g1, o1, c1, rfl⟩
          · subst z1
            rcases F2 with ⟨rfl, z2⟩ | ⟨g2, o2, c2, rfl⟩
            · skip
              go_wp2
              go_loopw [15, 16] (fun vm vi wr => ∃ (i : Nat) (fs : List Dn), (i : Int) ≤ 0 ∧ vi = .int .i64 (i : Int) ∧ Hid (MkSt w3 wr vm fs) ∧ Hid (fs.map (·.1) = RA.take i)) (fun _ vi _ => 0 - (intOf vi).toNat)
              case atStart => exact ⟨0, [], by omega, rfl, MkSt.first _, by unfold Hid; simp⟩
              case round =>
                obtain ⟨i, fs, hi, rfl, st, hfs⟩ := hrel
                obtain rfl : i = 0 := by omega
                have RM : Hid (RowsAt wr u15 RA) := by
                  have k := st.out.rows
                  rw [hfs.out, List.take_of_length_le (by have := HA.out; omega)] at k
                  exact k
                have R4 : Hid (RowsAt wr (.slice none 0 0) RA) := R2.out.below st.out.b
                have B4 : Hid (Below w.heap.size w wr) := belowT B.out st.out.b
                clear st hfs R1 R2 HA HK B
                go_wp2_with fail
                refine (cs _ _ _ R4.out RM.out).mono ?_
                rintro e w5 ⟨rfl, hb⟩
                replace B4 : Hid (Below w.heap.size w w5) := belowT B4.out hb
                clear hb cs R4 RM
                go_wp2
                go_ret
                exact ⟨rfl, B4.out⟩
            · skip
              go_wp2
              go_loopw [15, 16] (fun vm vi wr => ∃ (i : Nat) (fs : List Dn), (i : Int) ≤ 0 ∧ vi = .int .i64 (i : Int) ∧ Hid (MkSt w3 wr vm fs) ∧ Hid (fs.map (·.1) = RA.take i)) (fun _ vi _ => 0 - (intOf vi).toNat)
              case atStart => exact ⟨0, [], by omega, rfl, MkSt.first _, by unfold Hid; simp⟩
              case round =>
                obtain ⟨i, fs, hi, rfl, st, hfs⟩ := hrel
                obtain rfl : i = 0 := by omega
                have RM : Hid (RowsAt wr u15 RA) := by
                  have k := st.out.rows
                  rw [hfs.out, List.take_of_length_le (by have := HA.out; omega)] at k
                  exact k
                have R4 : Hid (RowsAt wr (.slice (some ⟨g2, o2, none⟩) 0 c2) RA) := R2.out.below st.out.b
                have B4 : Hid (Below w.heap.size w wr) := belowT B.out st.out.b
                clear st hfs R1 R2 HA HK B
                go_wp2_with fail
                refine (cs _ _ _ R4.out RM.out).mono ?_
                rintro e w5 ⟨rfl, hb⟩
                replace B4 : Hid (Below w.heap.size w w5) := belowT B4.out hb
                clear hb cs R4 RM
                go_wp2
                go_ret
                exact ⟨rfl, B4.out⟩
          · rcases F2 with ⟨rfl, z2⟩ | ⟨g2, o2, c2, rfl⟩
            · subst z2
              go_wp2
              go_loopw [15, 16] (fun vm vi wr => ∃ (i : Nat) (fs : List Dn), (i : Int) ≤ 0 ∧ vi = .int .i64 (i : Int) ∧ Hid (MkSt w3 wr vm fs) ∧ Hid (fs.map (·.1) = RA.take i)) (fun _ vi _ => 0 - (intOf vi).toNat)
              case atStart => exact ⟨0, [], by omega, rfl, MkSt.first _, by unfold Hid; simp⟩
              case round =>
                obtain ⟨i, fs, hi, rfl, st, hfs⟩ := hrel
                obtain rfl : i = 0 := by omega
                have RM : Hid (RowsAt wr u15 RA) := by
                  have k := st.out.rows
                  rw [hfs.out, List.take_of_length_le (by have := HA.out; omega)] at k
                  exact k
                have R4 : Hid (RowsAt wr (.slice none 0 0) RA) := R2.out.below st.out.b
                have B4 : Hid (Below w.heap.size w wr) := belowT B.out st.out.b
                clear st hfs R1 R2 HA HK B
                go_wp2_with fail
                refine (cs _ _ _ R4.out RM.out).mono ?_
                rintro e w5 ⟨rfl, hb⟩
                replace B4 : Hid (Below w.heap.size w w5) := belowT B4.out hb
                clear hb cs R4 RM
                go_wp2
                go_ret
                exact ⟨rfl, B4.out⟩
            · skip
              go_wp2
              go_loopw [15, 16] (fun vm vi wr => ∃ (i : Nat) (fs : List Dn), (i : Int) ≤ (n1 : Int) ∧ vi = .int .i64 (i : Int) ∧ Hid (MkSt w3 wr vm fs) ∧ Hid (fs.map (·.1) = RA.take i)) (fun _ vi _ => n1 - (intOf vi).toNat)
              case atStart => exact ⟨0, [], by omega, rfl, MkSt.first _, by unfold Hid; simp⟩
              case round =>
                obtain ⟨i, fs, hi, rfl, st, hfs⟩ := hrel
                by_cases hlt : (i : Int) < (n1 : Int)
                · skip
                  obtain ⟨gu, ou, cu, k0, k1, ks⟩ := row_later R1.out HA.out HK.out st.out.b (i := i) (by have := HA.out; omega)
                  obtain ⟨gu', ou', cu', m0, m1, _⟩ := row_later R1.out HA.out HK.out (Below.refl _ _) (i := i) (by have := HA.out; omega)
                  have lt3 : g1 < w3.heap.size := block_lt_of_cell m0
                  have e01 := (st.out.b.cell (p := ⟨g1, o1 + i * 2 + 1, none⟩) lt3).symm.trans k1
                  have nx : Hid ((fs ++ [(RA[i]'(by have := HA.out; omega), Value.slice (some ⟨gu, ou, none⟩) (RA[i]'(by have := HA.out; omega)).2.length cu)]).map (·.1) = RA.take (i + 1)) := by
                    unfold Hid
                    rw [map_dn, hfs.out, List.take_add_one]
                    congr 1
                    rw [List.getElem?_eq_getElem (by have := HA.out; omega)]
                    rfl
                  have fl : fs.length = i := by have h1 : (fs.map (·.1)).length = fs.length := List.length_map _; rw [hfs.out, List.length_take] at h1; have := HA.out; omega
                  have hf63 : fs.length + 1 ≤ maxLen := by unfold maxLen; omega
                  have hfby : (fs.length + 1) * 32 ≤ 140737488355328 := by omega
                  generalize RA[i]'(by have := HA.out; omega) = q at *
                  obtain ⟨ql, qw⟩ := q
                  replace k1 : wr.cell? ⟨g1, o1 + i * 2 + 1, none⟩ = some (.slice (some ⟨gu, ou, none⟩) qw.length cu) := k1
                  replace k0 : wr.cell? ⟨g1, o1 + i * 2, none⟩ = some (.int .i64 (ql : Int)) := k0
                  replace m0 : Hid (w3.cell? ⟨g1, o1 + i * 2, none⟩ = some (.int .i64 (ql : Int))) := m0
                  replace m1 : Hid (w3.cell? ⟨g1, o1 + i * 2 + 1, none⟩ = some (.slice (some ⟨gu, ou, none⟩) qw.length cu)) := e01
                  replace ks : Hid (StrsAt w3 (.slice (some ⟨gu, ou, none⟩) qw.length cu) qw) := ks
                  replace nx : Hid ((fs ++ [((ql, qw), Value.slice (some ⟨gu, ou, none⟩) qw.length cu)]).map (·.1) = RA.take (i + 1)) := nx
                  have lt1 : g1 < wr.heap.size := block_lt_of_cell k0
                  clear e01
                  generalize qw.length = m at *
                  have sb := st.out.b.size
                  clear cs fl
                  go_upto_region 25 with fail
                  go_region_held3 (fun x => x.cell? ⟨g1, o1 + i * 2, none⟩ = some (.int .i64 (ql : Int)) ∧ x.cell? ⟨g1, o1 + i * 2 + 1, none⟩ = some (.slice (some ⟨gu, ou, none⟩) m cu))
                    (first
                      | go_keep
                      | exact ⟨(st2.out.b.cell (p := ⟨g1, o1 + i * 2, none⟩) lt3).trans m0.out, (st2.out.b.cell (p := ⟨g1, o1 + i * 2 + 1, none⟩) lt3).trans m1.out⟩)
                    ((refine step_append_lies _ (by rfl) _ _ _ (by rfl) w3.heap.size 41 r0 (.agg #[.int .i64 0, .slice none 0 0]) 2 32 Tryd.underlying27 hri hr0 hr1 hr2 rfl (by omega) u15 fs.length (dnC fs) (by rfl) ((World.ownsRow.alloc st.out.ro _).drew)
                        ⟨wr.heap.size, 0, none⟩ 1 1 [.int .i64 (ql : Int), .slice (some ⟨gu, ou, none⟩) m cu] (by rfl) (by rfl) (World.news_of_block (cs := #[.int .i64 (ql : Int), .slice (some ⟨gu, ou, none⟩) m cu]) (t := 41) (fr := (0, 0)) (heap_alloc_new wr _)) (by simp [Value.oneCell'])
                        (by omega) hf63 hfby (by simp; omega) (wr.heap.size + 1) (by simp) ?_; intro gg cap y hO gO hat hlt2; have st2 : Hid (MkSt w3 y (.slice (some ⟨gg, 0, none⟩) (fs.length + 1) cap) (fs ++ [((ql, qw), .slice (some ⟨gu, ou, none⟩) m cu)])) := MkSt.add ((World.ownsRow.alloc st.out.ro _).drew) st.out.st ((st.out.b.alloc sb _).drew) _ ks.out hO gO))
                  all_goals
                    clear hO gO hat hlt2
                    go_wp2
                    exact ⟨⟨i + 1, _, by omega, by simp, st2, nx⟩, by simp [intOf]; omega⟩
                · skip
                  obtain rfl : n1 = i := by omega
                  have RM : Hid (RowsAt wr u15 RA) := by
                    have k := st.out.rows
                    rw [hfs.out, List.take_of_length_le (by have := HA.out; omega)] at k
                    exact k
                  have R4 : Hid (RowsAt wr (.slice (some ⟨g2, o2, none⟩) n1 c2) RA) := R2.out.below st.out.b
                  have B4 : Hid (Below w.heap.size w wr) := belowT B.out st.out.b
                  clear st hfs R1 R2 HA HK B
                  go_wp2_with fail
                  refine (cs _ _ _ R4.out RM.out).mono ?_
                  rintro e w5 ⟨rfl, hb⟩
                  replace B4 : Hid (Below w.heap.size w w5) := belowT B4.out hb
                  clear hb cs R4 RM
                  go_wp2
                  go_ret
                  exact ⟨rfl, B4.out⟩

set_option maxRecDepth 100000 in
set_option maxHeartbeats 8000000 in
theorem lblanks_long (w : World) (s : ByteArray) (hs : 400 < (s.size : Int)) (A : Int) (aw : AwC7 w) :
    Calls Tryd.prog 5 #[.string s, .int .u8 A] w fun e w' => e = .returned (.bool true) ∧ Below w.heap.size w w' := by
  go_enter Tryd.func5, Tryd.ntmps5
  go_wp2_with fail
  refine (aw _ (Below.refl _ _)).mono ?_
  rintro e w1 ⟨rfl, hb⟩
  have B : Hid (Below w.heap.size w w1) := hb
  clear hb
  go_wp2_with fail
  refine (aw _ B.out).mono ?_
  rintro e w2 ⟨rfl, hb⟩
  replace B : Hid (Below w.heap.size w w2) := belowT B.out hb
  clear hb
  go_wp2
  go_ret
  exact ⟨rfl, B.out⟩
/-- the law, out of the contract -/
theorem lblanks_any (h : RowsP) (w : World) (T : Tab7 w) (s : ByteArray) (a : Nat) (ha : a < 256) : Calls Tryd.prog 5 #[.string s, .int .u8 (a : Int)] w fun e w' => e = .returned (.bool true) ∧ Below w.heap.size w w' := by
  have aw := awake7 h T
  by_cases hs : (s.size : Int) ≤ 400
  · have hl : s.data.toList.length = s.size := by simp
    have hr : a % 3 ≤ 2 := by omega
    have lw : (gapL (a % 3 + 1) ++ blowL (a % 3 + 1) s.data.toList).length ≤ 4000 := by
      rw [List.length_append, gap_len]
      have h1 := blow_len (a % 3 + 1) s.data.toList
      have h2 : (2 * (a % 3 + 1) + 3) * s.data.toList.length ≤ 9 * 400 := Nat.mul_le_mul (by omega) (by omega)
      omega
    have ca := roC h T s
    have cb := roC h T (txt (gapL (a % 3 + 1) ++ blowL (a % 3 + 1) s.data.toList))
    have ed : (txt (gapL (a % 3 + 1) ++ blowL (a % 3 + 1) s.data.toList)).data.toList = gapL (a % 3 + 1) ++ blowL (a % 3 + 1) s.data.toList := rfl
    have e1 : lexRows (gapL (a % 3 + 1) ++ blowL (a % 3 + 1) s.data.toList) = lexRows s.data.toList := by unfold lexRows; rw [if_pos lw, if_pos (by omega), scan_wide]
    have e2 : lexLine (gapL (a % 3 + 1) ++ blowL (a % 3 + 1) s.data.toList) = lexLine s.data.toList := by unfold lexLine; rw [if_pos lw, if_pos (by omega), scan_wide]
    have e3 : lexErr (gapL (a % 3 + 1) ++ blowL (a % 3 + 1) s.data.toList) = lexErr s.data.toList := by unfold lexErr; rw [if_pos lw, if_pos (by omega), scan_wide]
    rw [ed, e1, e2, e3] at cb
    obtain ⟨l1, l2⟩ := lex_len s.data.toList
    exact lblanks_main w s hs (a : Int) ⟨by omega, by omega⟩ (a % 3) (by omega) (by omega) _ _ _ (by omega) _ rfl (lex_rok _) aw ca cb (saC (by omega) (fun r hr => by have := l2 r hr; omega) (alike_self _ _) (lex_rok _) (lex_rok _))
  · exact lblanks_long w s (by omega) _ aw
end Go.Proofs.YteemaofajcbniaaDoor
