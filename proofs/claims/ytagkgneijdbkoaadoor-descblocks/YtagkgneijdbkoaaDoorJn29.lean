/-
  Texts that belong together, one behind the other: DsRefA. Conditions: as each says.
-/
import Derived.Deep.RegionHeld3
import Derived.Test.YtagkgneijdbkoaaDoorJn14
import Derived.Test.YtagkgneijdbkoaaDoorJn15
/-
  What the document's own octet and fraction return (layer 8). Condition: a word is at most 5000 bytes.
-/
namespace Go.Proofs.YtagkgneijdbkoaaDoor
open Go.RowKit
set_option linter.unusedVariables false

set_option maxRecDepth 100000 in
set_option maxHeartbeats 2000000 in
theorem roct_any (s : ByteArray) (w : World) (hs : (s.size : Int) ≤ 5000) :
    Calls Tryd.prog 30 #[.string s] w fun e w' => e = .returned (.int .i64 (octI s.data.toList)) ∧ Below w.heap.size w w' := by
  have f : Hid (Calls Tryd.prog 31 #[.string s] w fun e w' => ∃ v, e = .returned (.tuple #[v, .bool (hexR s.data.toList).isSome]) ∧ BytesAt w' v ((hexR s.data.toList).getD []) ∧ Below w.heap.size w w') := rhex_any s w hs
  cases hx : hexR s.data.toList with
  | none =>
    rw [hx] at f
    have e : octI s.data.toList = -1 := by unfold octI; rw [oct_none hx]
    rw [e]
    go_enter Tryd.func30, Tryd.ntmps30
    go_wp2_with fail
    refine f.out.mono ?_
    rintro e w1 ⟨v, rfl, hv, hb⟩
    replace hb : Hid (Below w.heap.size w w1) := hb
    clear hv
    go_wp2
    go_ret
    exact ⟨rfl, hb.out⟩
  | some bs =>
    rw [hx] at f
    have hby := (hexR_b hx).1
    have hle : (bs.length : Int) ≤ 5000 := by have := (hexR_b hx).2; simp at this; omega
    by_cases h1 : bs.length = 1
    · obtain ⟨b, rfl⟩ : ∃ b, bs = [b] := by
        match bs, h1 with
        | [b], _ => exact ⟨b, rfl⟩
      have e : octI s.data.toList = (b : Int) := by unfold octI; rw [oct_some hx]
      have hb256 : b < 256 := hby b (by simp)
      rw [e]
      go_enter Tryd.func30, Tryd.ntmps30
      go_wp2_with fail
      refine f.out.mono ?_
      rintro e w1 ⟨v, rfl, hv, hb⟩
      replace hb : Hid (Below w.heap.size w w1) := hb
      rcases hv with ⟨_, h⟩ | ⟨g, o, cap, rfl, hi, hg⟩
      · cases h
      have c0 : w1.cell? ⟨g, o + 0, none⟩ = some (.int .u8 (b : Int)) := hi 0 (by simp)
      rw [Nat.add_zero] at c0
      clear hi
      simp only [Option.getD_some, List.length_singleton]
      go_wp2
      go_ret
      exact ⟨by simp, hb.out⟩
    · have e : octI s.data.toList = -1 := by unfold octI; rw [oct_long hx h1]
      rw [e]
      have n1 : ((bs.length : Int) != 1) = true := bne_iff_ne.2 (by omega)
      have n0 : ((0 : Int) != 1) = true := rfl
      go_enter Tryd.func30, Tryd.ntmps30
      go_wp2_with fail
      refine f.out.mono ?_
      rintro e w1 ⟨v, rfl, hv, hb⟩
      replace hb : Hid (Below w.heap.size w w1) := hb
      rcases hv with ⟨rfl, h⟩ | ⟨g, o, cap, rfl, hi, hg⟩
      · go_wp2
        go_ret
        exact ⟨rfl, hb.out⟩
      · clear hi
        simp only [Option.getD_some]
        go_wp2
        go_ret
        exact ⟨rfl, hb.out⟩

/-- the first stroke from a place on -/
def ixF (l : List UInt8) (k : Nat) : Int := if Lib.indexByte (l.drop k) 47 = -1 then -1 else (k : Int) + Lib.indexByte (l.drop k) 47
theorem ixF_end (l : List UInt8) : ixF l l.length = -1 := by unfold ixF; rw [List.drop_length]; rfl
theorem ixF_first (l : List UInt8) : ixF l 0 = Lib.indexByte l 47 := by
  unfold ixF
  rw [List.drop_zero]
  split
  · rename_i h; rw [h]
  · omega
theorem ixF_step (l : List UInt8) (k : Nat) (h : k < l.length) : ixF l k = if l[k] = 47 then (k : Int) else ixF l (k + 1) := by
  have e : l.drop k = l[k] :: l.drop (k + 1) := List.drop_eq_getElem_cons h
  have g := Lib.indexByte_ge (l.drop (k + 1)) 47
  have key : Lib.indexByte (l.drop k) 47 = if l[k] = 47 then 0 else if Lib.indexByte (l.drop (k + 1)) 47 = -1 then -1 else Lib.indexByte (l.drop (k + 1)) 47 + 1 := by
    rw [e, Lib.indexByte]
    simp only [beq_iff_eq]
  unfold ixF
  rw [key]
  generalize Lib.indexByte (l.drop (k + 1)) 47 = X at *
  by_cases h1 : l[k] = 47
  · simp only [h1, if_true]; rw [if_neg (by decide)]; omega
  · simp only [h1, if_false]
    by_cases h2 : X = -1
    · simp only [h2, if_true]
    · simp only [h2, if_false]; rw [if_neg (by omega)]; omega
theorem num_all (l : List UInt8) : numB l (-9223372036854775808) 9223372036854775807 = decide (readE l = 0) ∧ (readE l = 0 → numV l (-9223372036854775808) 9223372036854775807 = readV l) ∧ I64 (numV l (-9223372036854775808) 9223372036854775807) := by
  have b := readV_bd l
  have h : numB l (-9223372036854775808) 9223372036854775807 = decide (readE l = 0) := by unfold numB; rw [decide_eq_decide]; exact ⟨fun h => h.1, fun h => ⟨h, b.1, b.2⟩⟩
  refine ⟨h, fun e => ?_, ?_⟩
  · unfold numV; rw [if_pos (by rw [h, e]; rfl)]
  · unfold numV; split
    · exact b
    · unfold I64; omega

/-- a return of a fraction of the document's that lies in a block of its own, and of one thing more -/
theorem res_pairR {fn : Func} {p u : Tmp} (h : fn.results = #[.cell p 57, .tmp u]) {tmps : Array Value} {w : World} {b : Nat} {x y e : Value}
    (hp : tmps.getD p undef = .pointer (some ⟨b, 0, none⟩)) (hu : tmps.getD u undef = e) (h0 : w.cell? ⟨b, 0, none⟩ = some x) (h1 : w.cell? ⟨b, 1, none⟩ = some y) :
    (results fn tmps).run Tryd.prog w = .ok (.tuple #[.agg #[x, y], e]) w := by
  rw [results_cell_tmp h, hp, hu]
  simp only [asAddr]
  simp [go_sem, Result.andThen, h0, h1]

set_option maxRecDepth 100000 in
set_option maxHeartbeats 4000000 in
theorem rfrac_any (s : ByteArray) (w : World) (hs : (s.size : Int) ≤ 5000) :
    Calls Tryd.prog 28 #[.string s] w fun e w' => ∃ n d, e = .returned (.tuple #[rv n d, .bool (frB s.data.toList)]) ∧ (frB s.data.toList = true → n = frN s.data.toList ∧ d = frD s.data.toList) ∧ Below w.heap.size w w' := by
  have hl : s.data.toList.length = s.size := by simp
  have S0 : Hid (ixF s.data.toList s.size = -1) := by unfold Hid; rw [← hl]; exact ixF_end _
  have B0 : Hid (Below w.heap.size w (w.alloc (.cells #[.int .i64 0, .int .i64 0] 57))) := (Below.refl _ _).alloc (Nat.le_refl _) _
  have H0 : Hid (Has (w.alloc (.cells #[.int .i64 0, .int .i64 0] 57)) w.heap.size (.int .i64 0) (.int .i64 0)) := has_new _ _ _ _
  go_enter Tryd.func28, Tryd.ntmps28
  go_wp2
  generalize w.alloc (.cells #[.int .i64 0, .int .i64 0] 57) = w0 at *
  have wk0 : IntKind.i64.wrap ((s.size : Int) - 1) = (s.size : Int) - 1 := by simp only [IntKind.wrap_i64]; omega
  go_loopw [4, 5] (fun vc vi wr => wr = w0 ∧ ∃ k : Nat, (k : Int) ≤ (s.size : Int) ∧ vi = .int .i64 ((k : Int) - 1) ∧ vc = .int .i64 (ixF s.data.toList k)) (fun vc vi wr => (intOf vi + 1).toNat)
  case atStart => exact ⟨rfl, s.size, Int.le_refl _, rfl, by rw [S0.out]⟩
  case round =>
    obtain ⟨rfl, k, hk, rfl, rfl⟩ := hrel
    clear S0 wk0
    cases k with
    | succ k =>
      have hki : (k : Int) < (s.size : Int) := by omega
      have hkn : k < s.size := by omega
      have st : Hid (ixF s.data.toList k = if s[k] = 47 then (k : Int) else ixF s.data.toList (k + 1)) := ixF_step s.data.toList k (by omega)
      have wk : IntKind.i64.wrap ((k : Int) - 1) = (k : Int) - 1 := by simp only [IntKind.wrap_i64]; omega
      have ek : ((k + 1 : Nat) : Int) - 1 = (k : Int) := by omega
      rw [ek]
      have ix : ∀ x : World, (Instr.index 9 (.string s) (.int .i64 (k : Int))).run Tryd.prog x = .ok (.int .u8 (s[k].toNat : Int)) x := fun x => by
        rw [run_index_string x 9 s .i64 _ Tryd.underlying9, dif_pos ⟨by omega, hki⟩]
        rfl
      by_cases h47 : s[k] = 47
      · have e47 : ((s[k].toNat : Int) == 47) = true := by rw [h47]; rfl
        rw [h47] at st
        replace st : ixF s.data.toList k = (k : Int) := st.out.trans (if_pos rfl)
        go_wp2
        exact ⟨⟨trivial, k, by omega, rfl, by rw [st]⟩, by simp [intOf]⟩
      · have e47 : ((s[k].toNat : Int) == 47) = false := by
          rw [beq_eq_false_iff_ne]
          intro e
          apply h47
          apply UInt8.toNat_inj.1
          have : s[k].toNat = 47 := by omega
          exact this
        replace st : ixF s.data.toList k = ixF s.data.toList (k + 1) := st.out.trans (if_neg h47)
        go_wp2
        exact ⟨⟨trivial, k, by omega, rfl, by rw [st]⟩, by simp [intOf]⟩
    | zero =>
      rw [ixF_first]
      rcases stroke_ways s with ⟨h1, _⟩ | ⟨i, hi, hle, hat⟩
      · have hf : frB s.data.toList = false := by
          cases hb : frB s.data.toList
          · rfl
          · exact absurd h1 ((fr_iff _).1 hb).1
        rw [h1]
        obtain ⟨c0, c1, z0, z1, zl⟩ := H0.out
        clear H0
        go_wp2
        have hq := fun x y => wrote2 (x := x) (y := y) c0 c1
        refine bodyPost_ret (res_pairR Tryd.results28 rfl rfl (hq _ _).1 (hq _ _).2) rfl ?_
        exact ⟨0, 0, (by rw [hf]; rfl), fun h => (by rw [hf] at h; cases h), B0.out.setCell (by simp) _ |>.setCell (by simp) _⟩
      · have hie : ¬ Lib.indexByte s.data.toList 47 = -1 := by rw [hi]; omega
        obtain ⟨U, hU⟩ : ∃ U, cutU s = U := ⟨_, rfl⟩
        obtain ⟨V, hV⟩ : ∃ V, cutV s = V := ⟨_, rfl⟩
        have cs := cut_sizes s
        rw [hU, hV] at cs
        have eU : s.extract 0 i = U := by rw [← hU]; unfold cutU; rw [if_neg hie, hi]; rfl
        have eV : s.extract (i + 1) s.size = V := by rw [← hV]; unfold cutV; rw [if_neg hie, hi]; rfl
        have F : Hid (frB s.data.toList = true ↔ readE U.data.toList = 0 ∧ readE V.data.toList = 0 ∧ rightB (readV U.data.toList) (readV V.data.toList) = true) := by
          have := fr_iff s.data.toList
          unfold frN frD at this
          rw [txt_of, hU, hV] at this
          unfold Hid
          rw [this]
          exact ⟨fun h => h.2, fun h => ⟨hie, h⟩⟩
        have G : Hid (frN s.data.toList = readV U.data.toList ∧ frD s.data.toList = readV V.data.toList) := by
          unfold Hid frN frD; rw [txt_of, hU, hV]; exact ⟨rfl, rfl⟩
        have nU := num_all U.data.toList
        have nV := num_all V.data.toList
        have f1 : Hid (∀ w, Calls Tryd.prog 27 #[.string (s.extract 0 i), .int .i64 (-9223372036854775808), .int .i64 9223372036854775807] w fun e w' => e = .returned (.tuple #[.int .i64 (numV U.data.toList (-9223372036854775808) 9223372036854775807), .bool (numB U.data.toList (-9223372036854775808) 9223372036854775807)]) ∧ w' = w) := by rw [eU]; exact fun w => rnum_any U w (by unfold maxLen; omega) _ _
        have f2 : Hid (∀ w, Calls Tryd.prog 27 #[.string (s.extract (i + 1) s.size), .int .i64 (-9223372036854775808), .int .i64 9223372036854775807] w fun e w' => e = .returned (.tuple #[.int .i64 (numV V.data.toList (-9223372036854775808) 9223372036854775807), .bool (numB V.data.toList (-9223372036854775808) 9223372036854775807)]) ∧ w' = w) := by rw [eV]; exact fun w => rnum_any V w (by unfold maxLen; omega) _ _
        rw [nU.1] at f1
        rw [nV.1] at f2
        obtain ⟨n, hn⟩ : ∃ n, numV U.data.toList (-9223372036854775808) 9223372036854775807 = n := ⟨_, rfl⟩
        obtain ⟨d, hd⟩ : ∃ d, numV V.data.toList (-9223372036854775808) 9223372036854775807 = d := ⟨_, rfl⟩
        rw [hn] at nU f1
        rw [hd] at nV f2
        have fr : Hid (∀ w, Calls Tryd.prog 44 #[rv n d] w fun e w' => e = .returned (.bool (rightB n d)) ∧ Below w.heap.size w w') := fun w => rright_any n d w nU.2.2 nV.2.2
        have gU : Hid (readE U.data.toList = 0 → n = readV U.data.toList) := nU.2.1
        have gV : Hid (readE V.data.toList = 0 → d = readV V.data.toList) := nV.2.1
        have c1 : (0 : Int) ≤ (i : Int) := by omega
        have c2 : (i : Int) ≤ (s.size : Int) := by omega
        have c3 : (0 : Int) ≤ (i : Int) + 1 := by omega
        have c4 : (i : Int) + 1 ≤ (s.size : Int) := by omega
        have wk : IntKind.i64.wrap ((i : Int) + 1) = (i : Int) + 1 := by simp only [IntKind.wrap_i64]; omega
        have B1 : Hid (Below w.heap.size w (wr.alloc (.cells #[.int .i64 n, .int .i64 d] 57))) := B0.out.alloc B0.out.size _
        have H1 : Hid (Has (wr.alloc (.cells #[.int .i64 n, .int .i64 d] 57)) w.heap.size (.int .i64 0) (.int .i64 0)) := H0.out.alloc _
        have H2 : Hid (Has (wr.alloc (.cells #[.int .i64 n, .int .i64 d] 57)) wr.heap.size (.int .i64 n) (.int .i64 d)) := has_new _ _ _ _
        rw [hi]
        clear nU nV hn hd cs hU hV eU eV hie hat
        cases hE1 : decide (readE U.data.toList = 0)
        · rw [hE1] at f1
          go_wp2_with fail
          refine (f1.out _).mono ?_
          rintro e w1 ⟨rfl, rfl⟩
          clear f1
          go_wp2_with fail
          refine (f2.out _).mono ?_
          rintro e w1 ⟨rfl, rfl⟩
          clear f2
          have hf : frB s.data.toList = false := by
            cases hb : frB s.data.toList
            · rfl
            · have := (F.out.1 hb).1
              rw [this] at hE1
              simp at hE1
          go_wp2_with fail
          generalize w1.alloc (.cells #[.int .i64 n, .int .i64 d] 57) = w2 at *
          obtain ⟨c0, c1, z0, z1, zl⟩ := H1.out
          obtain ⟨p0, p1, y0, y1, yl⟩ := H2.out
          clear H1 H2
          clear F G gU gV fr
          go_region
          all_goals
            go_wp2
            have hq := fun x y => wrote2 (w := w2) (x := x) (y := y) c0 c1
            refine bodyPost_ret (res_pairR Tryd.results28 rfl rfl (hq _ _).1 (hq _ _).2) rfl ?_
            exact ⟨n, d, (by rw [hf]; rfl), fun h => (by rw [hf] at h; cases h), B1.out.drew.setCell (by simp) _ |>.setCell (by simp) _⟩
        · rw [hE1] at f1
          go_wp2_with fail
          refine (f1.out _).mono ?_
          rintro e w1 ⟨rfl, rfl⟩
          clear f1
          cases hE2 : decide (readE V.data.toList = 0)
          · rw [hE2] at f2
            have hf : frB s.data.toList = false := by
              cases hb : frB s.data.toList
              · rfl
              · have := (F.out.1 hb).2.1
                rw [this] at hE2
                simp at hE2
            go_wp2_with fail
            refine (f2.out _).mono ?_
            rintro e w1 ⟨rfl, rfl⟩
            clear f2
            go_wp2_with fail
            generalize w1.alloc (.cells #[.int .i64 n, .int .i64 d] 57) = w2 at *
            obtain ⟨c0, c1, z0, z1, zl⟩ := H1.out
            obtain ⟨p0, p1, y0, y1, yl⟩ := H2.out
            clear H1 H2
            clear F G gU gV fr
            go_region
            all_goals
              go_wp2
              have hq := fun x y => wrote2 (w := w2) (x := x) (y := y) c0 c1
              refine bodyPost_ret (res_pairR Tryd.results28 rfl rfl (hq _ _).1 (hq _ _).2) rfl ?_
              exact ⟨n, d, (by rw [hf]; rfl), fun h => (by rw [hf] at h; cases h), B1.out.drew.setCell (by simp) _ |>.setCell (by simp) _⟩
          · rw [hE2] at f2
            have e1 : readE U.data.toList = 0 := by simpa using hE1
            have e2 : readE V.data.toList = 0 := by simpa using hE2
            have hn := gU.out e1
            have hd := gV.out e2
            have hf : Hid (frB s.data.toList = rightB n d) := by
              unfold Hid
              rw [Bool.eq_iff_iff, F.out, hn, hd]
              exact ⟨fun h => h.2.2, fun h => ⟨e1, e2, h⟩⟩
            have hg : Hid (n = frN s.data.toList ∧ d = frD s.data.toList) := by
              unfold Hid
              rw [G.out.1, G.out.2]; exact ⟨hn, hd⟩
            clear F G gU gV hn hd e1 e2 hE1 hE2
            go_wp2_with fail
            refine (f2.out _).mono ?_
            rintro e w1 ⟨rfl, rfl⟩
            clear f2
            go_wp2_with fail
            generalize rightB n d = R at *

            generalize w1.alloc (.cells #[.int .i64 n, .int .i64 d] 57) = w2 at *
            obtain ⟨c0, c1, z0, z1, zl⟩ := H1.out
            obtain ⟨p0, p1, y0, y1, yl⟩ := H2.out
            clear H0 B0
            go_region_with (go_at_call 44; refine (fr.out _).mono ?_; rintro e w3 ⟨rfl, hb⟩; have D1 : Hid (Below w.heap.size w w3) := below_trans B1.out.drew hb; obtain ⟨m0, m1, m2, m3, m4⟩ := Has.below (w := w2.drewN 1) (has_drewN H1.out 1) hb; obtain ⟨q0, q1, q2, q3, q4⟩ := Has.below (w := w2.drewN 1) (has_drewN H2.out 1) hb; clear hb)
            all_goals
              go_wp2
              have hq := fun x y => wrote2 (w := w3) (x := x) (y := y) m0 m1
              refine bodyPost_ret (res_pairR Tryd.results28 rfl rfl (hq _ _).1 (hq _ _).2) rfl ?_
              exact ⟨n, d, (by rw [hf.out]; rfl), fun _ => hg.out, D1.out.setCell (by simp) _ |>.setCell (by simp) _⟩
end Go.Proofs.YtagkgneijdbkoaaDoor
