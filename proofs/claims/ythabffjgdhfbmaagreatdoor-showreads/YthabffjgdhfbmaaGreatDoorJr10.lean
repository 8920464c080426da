/-
  Texts that belong together, one behind the other: DsRefA, DsRes, DsReadK, DsLineK, DsLineE. Conditions: as each says.
-/
import Derived.Deep.RegionHeld3
import Derived.Lib.QuietBelowIn
import Derived.RangeFuncCalls
import Derived.Sort.BigQuietIn
import Derived.Test.YthabffjgdhfbmaaGreatDoorProg
import Derived.Test.YthabffjgdhfbmaaGreatDoorJr1
import Derived.Test.YthabffjgdhfbmaaGreatDoorJr2
import Derived.Test.YthabffjgdhfbmaaGreatDoorJr3
import Derived.Test.YthabffjgdhfbmaaGreatDoorJr4
import Derived.Test.YthabffjgdhfbmaaGreatDoorJr5
import Derived.Test.YthabffjgdhfbmaaGreatDoorJr6
import Derived.Test.YthabffjgdhfbmaaGreatDoorJr7
import Derived.Test.YthabffjgdhfbmaaGreatDoorJr8
set_option maxRecDepth 100000
set_option maxHeartbeats 32000000
set_option linter.unusedVariables false
namespace Go.Proofs.YthabffjgdhfbmaaGreatDoor
open Go.RowKit
theorem roct_any (s : ByteArray) (w : World) (hs : (s.size : Int) ≤ 5000) :
 Calls Tryz.prog 67 #[.string s] w fun e w' => e = .returned (.int .i64 (octI s.data.toList)) ∧ Below w.heap.size w w' := by
 have f : Hid (Calls Tryz.prog 68 #[.string s] w fun e w' => ∃ v, e = .returned (.tuple #[v, .bool (hexR s.data.toList).isSome]) ∧ BytesAt w' v ((hexR s.data.toList).getD []) ∧ Below w.heap.size w w') := rhex_any s w hs
 cases hx : hexR s.data.toList with
 | none =>
  rw [hx] at f
  have e : octI s.data.toList = -1 := by unfold octI; rw [oct_none hx]
  rw [e]
  go_enter Tryz.func67, Tryz.ntmps67
  go_wp2_with fail
  refine f.out.mono ?_
  rintro e w1 ⟨v, rfl, hv, hb⟩
  replace hb : Hid (Below w.heap.size w w1) := hb
  clear hv
  go_wp2
  go_ret
  exact ⟨rfl, hb.out⟩
 | some bs =>
  rw [hx] at f
  have hby := (hexR_b hx).1
  have hle : (bs.length : Int) ≤ 5000 := by have := (hexR_b hx).2; simp at this; omega
  by_cases h1 : bs.length = 1
  · obtain ⟨b, rfl⟩ : ∃ b, bs = [b] := by
     match bs, h1 with
     | [b], _ => exact ⟨b, rfl⟩
    have e : octI s.data.toList = (b : Int) := by unfold octI; rw [oct_some hx]
    have hb256 : b < 256 := hby b (by simp)
    rw [e]
    go_enter Tryz.func67, Tryz.ntmps67
    go_wp2_with fail
    refine f.out.mono ?_
    rintro e w1 ⟨v, rfl, hv, hb⟩
    replace hb : Hid (Below w.heap.size w w1) := hb
    rcases hv with ⟨_, h⟩ | ⟨g, o, cap, rfl, hi, hg⟩
    · cases h
    have c0 : w1.cell? ⟨g, o + 0, none⟩ = some (.int .u8 (b : Int)) := hi 0 (by simp)
    rw [Nat.add_zero] at c0
    clear hi
    simp only [Option.getD_some, List.length_singleton]
    go_wp2
    go_ret
    exact ⟨by simp, hb.out⟩
  · have e : octI s.data.toList = -1 := by unfold octI; rw [oct_long hx h1]
    rw [e]
    have n1 : ((bs.length : Int) != 1) = true := bne_iff_ne.2 (by omega)
    have n0 : ((0 : Int) != 1) = true := rfl
    go_enter Tryz.func67, Tryz.ntmps67
    go_wp2_with fail
    refine f.out.mono ?_
    rintro e w1 ⟨v, rfl, hv, hb⟩
    replace hb : Hid (Below w.heap.size w w1) := hb
    rcases hv with ⟨rfl, h⟩ | ⟨g, o, cap, rfl, hi, hg⟩
    · go_wp2
      go_ret
      exact ⟨rfl, hb.out⟩
    · clear hi
      simp only [Option.getD_some]
      go_wp2
      go_ret
      exact ⟨rfl, hb.out⟩
def ixF (l : List UInt8) (k : Nat) : Int := if Lib.indexByte (l.drop k) 47 = -1 then -1 else (k : Int) + Lib.indexByte (l.drop k) 47
theorem ixF_end (l : List UInt8) : ixF l l.length = -1 := by unfold ixF; rw [List.drop_length]; rfl
theorem ixF_first (l : List UInt8) : ixF l 0 = Lib.indexByte l 47 := by
 unfold ixF
 rw [List.drop_zero]
 split
 · rename_i h; rw [h]
 · omega
theorem ixF_step (l : List UInt8) (k : Nat) (h : k < l.length) : ixF l k = if l[k] = 47 then (k : Int) else ixF l (k + 1) := by
 have e : l.drop k = l[k] :: l.drop (k + 1) := List.drop_eq_getElem_cons h
 have g := Lib.indexByte_ge (l.drop (k + 1)) 47
 have key : Lib.indexByte (l.drop k) 47 = if l[k] = 47 then 0 else if Lib.indexByte (l.drop (k + 1)) 47 = -1 then -1 else Lib.indexByte (l.drop (k + 1)) 47 + 1 := by
  rw [e, Lib.indexByte]
  simp only [beq_iff_eq]
 unfold ixF
 rw [key]
 generalize Lib.indexByte (l.drop (k + 1)) 47 = X at *
 by_cases h1 : l[k] = 47
 · simp only [h1, if_true]; rw [if_neg (by decide)]; omega
 · simp only [h1, if_false]
   by_cases h2 : X = -1
   · simp only [h2, if_true]
   · simp only [h2, if_false]; rw [if_neg (by omega)]; omega
theorem num_all (l : List UInt8) : numB l (-9223372036854775808) 9223372036854775807 = decide (readE l = 0) ∧ (readE l = 0 → numV l (-9223372036854775808) 9223372036854775807 = readV l) ∧ I64 (numV l (-9223372036854775808) 9223372036854775807) := by
 have b := readV_bd l
 have h : numB l (-9223372036854775808) 9223372036854775807 = decide (readE l = 0) := by unfold numB; rw [decide_eq_decide]; exact ⟨fun h => h.1, fun h => ⟨h, b.1, b.2⟩⟩
 refine ⟨h, fun e => ?_, ?_⟩
 · unfold numV; rw [if_pos (by rw [h, e]; rfl)]
 · unfold numV; split
   · exact b
   · unfold I64; omega
theorem res_pairR {fn : Func} {p u : Tmp} (h : fn.results = #[.cell p 62, .tmp u]) {tmps : Array Value} {w : World} {b : Nat} {x y e : Value}
 (hp : tmps.getD p undef = .pointer (some ⟨b, 0, none⟩)) (hu : tmps.getD u undef = e) (h0 : w.cell? ⟨b, 0, none⟩ = some x) (h1 : w.cell? ⟨b, 1, none⟩ = some y) :
 (results fn tmps).run Tryz.prog w = .ok (.tuple #[.agg #[x, y], e]) w := by
 rw [results_cell_tmp h, hp, hu]
 simp only [asAddr]
 simp [go_sem, Result.andThen, h0, h1]
theorem rfrac_any (s : ByteArray) (w : World) (hs : (s.size : Int) ≤ 5000) :
 Calls Tryz.prog 66 #[.string s] w fun e w' => ∃ n d, e = .returned (.tuple #[rv n d, .bool (frB s.data.toList)]) ∧ (frB s.data.toList = true → n = frN s.data.toList ∧ d = frD s.data.toList) ∧ Below w.heap.size w w' := by
 have hl : s.data.toList.length = s.size := by simp
 have S0 : Hid (ixF s.data.toList s.size = -1) := by unfold Hid; rw [← hl]; exact ixF_end _
 have B0 : Hid (Below w.heap.size w (w.alloc (.cells #[.int .i64 0, .int .i64 0] 62))) := (Below.refl _ _).alloc (Nat.le_refl _) _
 have H0 : Hid (Has (w.alloc (.cells #[.int .i64 0, .int .i64 0] 62)) w.heap.size (.int .i64 0) (.int .i64 0)) := has_new _ _ _ _
 go_enter Tryz.func66, Tryz.ntmps66
 go_wp2
 generalize w.alloc (.cells #[.int .i64 0, .int .i64 0] 62) = w0 at *
 have wk0 : IntKind.i64.wrap ((s.size : Int) - 1) = (s.size : Int) - 1 := by simp only [IntKind.wrap_i64]; omega
 go_loopw [4, 5] (fun vc vi wr => wr = w0 ∧ ∃ k : Nat, (k : Int) ≤ (s.size : Int) ∧ vi = .int .i64 ((k : Int) - 1) ∧ vc = .int .i64 (ixF s.data.toList k)) (fun vc vi wr => (intOf vi + 1).toNat)
 case atStart => exact ⟨rfl, s.size, Int.le_refl _, rfl, by rw [S0.out]⟩
 case round =>
  obtain ⟨rfl, k, hk, rfl, rfl⟩ := hrel
  clear S0 wk0
  cases k with
  | succ k =>
   have hki : (k : Int) < (s.size : Int) := by omega
   have hkn : k < s.size := by omega
   have st : Hid (ixF s.data.toList k = if s[k] = 47 then (k : Int) else ixF s.data.toList (k + 1)) := ixF_step s.data.toList k (by omega)
   have wk : IntKind.i64.wrap ((k : Int) - 1) = (k : Int) - 1 := by simp only [IntKind.wrap_i64]; omega
   have ek : ((k + 1 : Nat) : Int) - 1 = (k : Int) := by omega
   rw [ek]
   have ix : ∀ x : World, (Instr.index 9 (.string s) (.int .i64 (k : Int))).run Tryz.prog x = .ok (.int .u8 (s[k].toNat : Int)) x := fun x => by
    rw [run_index_string x 9 s .i64 _ Tryz.underlying9, dif_pos ⟨by omega, hki⟩]
    rfl
   by_cases h47 : s[k] = 47
   · have e47 : ((s[k].toNat : Int) == 47) = true := by rw [h47]; rfl
     rw [h47] at st
     replace st : ixF s.data.toList k = (k : Int) := st.out.trans (if_pos rfl)
     go_wp2
     exact ⟨⟨trivial, k, by omega, rfl, by rw [st]⟩, by simp [intOf]⟩
   · have e47 : ((s[k].toNat : Int) == 47) = false := by
      rw [beq_eq_false_iff_ne]
      intro e
      apply h47
      apply UInt8.toNat_inj.1
      have : s[k].toNat = 47 := by omega
      exact this
     replace st : ixF s.data.toList k = ixF s.data.toList (k + 1) := st.out.trans (if_neg h47)
     go_wp2
     exact ⟨⟨trivial, k, by omega, rfl, by rw [st]⟩, by simp [intOf]⟩
  | zero =>
   rw [ixF_first]
   rcases stroke_ways s with ⟨h1, _⟩ | ⟨i, hi, hle, hat⟩
   · have hf : frB s.data.toList = false := by
      cases hb : frB s.data.toList
      · rfl
      · exact absurd h1 ((fr_iff _).1 hb).1
     rw [h1]
     obtain ⟨c0, c1, z0, z1, zl⟩ := H0.out
     clear H0
     go_wp2
     have hq := fun x y => wrote2 (x := x) (y := y) c0 c1
     refine bodyPost_ret (res_pairR Tryz.results66 rfl rfl (hq _ _).1 (hq _ _).2) rfl ?_
     exact ⟨0, 0, (by rw [hf]; rfl), fun h => (by rw [hf] at h; cases h), B0.out.setCell (by simp) _ |>.setCell (by simp) _⟩
   · have hie : ¬ Lib.indexByte s.data.toList 47 = -1 := by rw [hi]; omega
     obtain ⟨U, hU⟩ : ∃ U, cutU s = U := ⟨_, rfl⟩
     obtain ⟨V, hV⟩ : ∃ V, cutV s = V := ⟨_, rfl⟩
     have cs := cut_sizes s
     rw [hU, hV] at cs
     have eU : s.extract 0 i = U := by rw [← hU]; unfold cutU; rw [if_neg hie, hi]; rfl
     have eV : s.extract (i + 1) s.size = V := by rw [← hV]; unfold cutV; rw [if_neg hie, hi]; rfl
     have F : Hid (frB s.data.toList = true ↔ readE U.data.toList = 0 ∧ readE V.data.toList = 0 ∧ rightB (readV U.data.toList) (readV V.data.toList) = true) := by
      have := fr_iff s.data.toList
      unfold frN frD at this
      rw [txt_of, hU, hV] at this
      unfold Hid
      rw [this]
      exact ⟨fun h => h.2, fun h => ⟨hie, h⟩⟩
     have G : Hid (frN s.data.toList = readV U.data.toList ∧ frD s.data.toList = readV V.data.toList) := by
      unfold Hid frN frD; rw [txt_of, hU, hV]; exact ⟨rfl, rfl⟩
     have nU := num_all U.data.toList
     have nV := num_all V.data.toList
     have f1 : Hid (∀ w, Calls Tryz.prog 65 #[.string (s.extract 0 i), .int .i64 (-9223372036854775808), .int .i64 9223372036854775807] w fun e w' => e = .returned (.tuple #[.int .i64 (numV U.data.toList (-9223372036854775808) 9223372036854775807), .bool (numB U.data.toList (-9223372036854775808) 9223372036854775807)]) ∧ w' = w) := by rw [eU]; exact fun w => rnum_any U w (by unfold maxLen; omega) _ _
     have f2 : Hid (∀ w, Calls Tryz.prog 65 #[.string (s.extract (i + 1) s.size), .int .i64 (-9223372036854775808), .int .i64 9223372036854775807] w fun e w' => e = .returned (.tuple #[.int .i64 (numV V.data.toList (-9223372036854775808) 9223372036854775807), .bool (numB V.data.toList (-9223372036854775808) 9223372036854775807)]) ∧ w' = w) := by rw [eV]; exact fun w => rnum_any V w (by unfold maxLen; omega) _ _
     rw [nU.1] at f1
     rw [nV.1] at f2
     obtain ⟨n, hn⟩ : ∃ n, numV U.data.toList (-9223372036854775808) 9223372036854775807 = n := ⟨_, rfl⟩
     obtain ⟨d, hd⟩ : ∃ d, numV V.data.toList (-9223372036854775808) 9223372036854775807 = d := ⟨_, rfl⟩
     rw [hn] at nU f1
     rw [hd] at nV f2
     have fr : Hid (∀ w, Calls Tryz.prog 62 #[rv n d] w fun e w' => e = .returned (.bool (rightB n d)) ∧ Below w.heap.size w w') := fun w => rright_any n d w nU.2.2 nV.2.2
     have gU : Hid (readE U.data.toList = 0 → n = readV U.data.toList) := nU.2.1
     have gV : Hid (readE V.data.toList = 0 → d = readV V.data.toList) := nV.2.1
     have c1 : (0 : Int) ≤ (i : Int) := by omega
     have c2 : (i : Int) ≤ (s.size : Int) := by omega
     have c3 : (0 : Int) ≤ (i : Int) + 1 := by omega
     have c4 : (i : Int) + 1 ≤ (s.size : Int) := by omega
     have wk : IntKind.i64.wrap ((i : Int) + 1) = (i : Int) + 1 := by simp only [IntKind.wrap_i64]; omega
     have B1 : Hid (Below w.heap.size w (wr.alloc (.cells #[.int .i64 n, .int .i64 d] 62))) := B0.out.alloc B0.out.size _
     have H1 : Hid (Has (wr.alloc (.cells #[.int .i64 n, .int .i64 d] 62)) w.heap.size (.int .i64 0) (.int .i64 0)) := H0.out.alloc _
     have H2 : Hid (Has (wr.alloc (.cells #[.int .i64 n, .int .i64 d] 62)) wr.heap.size (.int .i64 n) (.int .i64 d)) := has_new _ _ _ _
     rw [hi]
     clear nU nV hn hd cs hU hV eU eV hie hat
     cases hE1 : decide (readE U.data.toList = 0)
     · rw [hE1] at f1
       go_wp2_with fail
       refine (f1.out _).mono ?_
       rintro e w1 ⟨rfl, rfl⟩
       clear f1
       go_wp2_with fail
       refine (f2.out _).mono ?_
       rintro e w1 ⟨rfl, rfl⟩
       clear f2
       have hf : frB s.data.toList = false := by
        cases hb : frB s.data.toList
        · rfl
        · have := (F.out.1 hb).1
          rw [this] at hE1
          simp at hE1
       go_wp2_with fail
       generalize w1.alloc (.cells #[.int .i64 n, .int .i64 d] 62) = w2 at *
       obtain ⟨c0, c1, z0, z1, zl⟩ := H1.out
       obtain ⟨p0, p1, y0, y1, yl⟩ := H2.out
       clear H1 H2
       clear F G gU gV fr
       go_region
       all_goals
        go_wp2
        have hq := fun x y => wrote2 (w := w2) (x := x) (y := y) c0 c1
        refine bodyPost_ret (res_pairR Tryz.results66 rfl rfl (hq _ _).1 (hq _ _).2) rfl ?_
        exact ⟨n, d, (by rw [hf]; rfl), fun h => (by rw [hf] at h; cases h), B1.out.drew.setCell (by simp) _ |>.setCell (by simp) _⟩
     · rw [hE1] at f1
       go_wp2_with fail
       refine (f1.out _).mono ?_
       rintro e w1 ⟨rfl, rfl⟩
       clear f1
       cases hE2 : decide (readE V.data.toList = 0)
       · rw [hE2] at f2
         have hf : frB s.data.toList = false := by
          cases hb : frB s.data.toList
          · rfl
          · have := (F.out.1 hb).2.1
            rw [this] at hE2
            simp at hE2
         go_wp2_with fail
         refine (f2.out _).mono ?_
         rintro e w1 ⟨rfl, rfl⟩
         clear f2
         go_wp2_with fail
         generalize w1.alloc (.cells #[.int .i64 n, .int .i64 d] 62) = w2 at *
         obtain ⟨c0, c1, z0, z1, zl⟩ := H1.out
         obtain ⟨p0, p1, y0, y1, yl⟩ := H2.out
         clear H1 H2
         clear F G gU gV fr
         go_region
         all_goals
          go_wp2
          have hq := fun x y => wrote2 (w := w2) (x := x) (y := y) c0 c1
          refine bodyPost_ret (res_pairR Tryz.results66 rfl rfl (hq _ _).1 (hq _ _).2) rfl ?_
          exact ⟨n, d, (by rw [hf]; rfl), fun h => (by rw [hf] at h; cases h), B1.out.drew.setCell (by simp) _ |>.setCell (by simp) _⟩
       · rw [hE2] at f2
         have e1 : readE U.data.toList = 0 := by simpa using hE1
         have e2 : readE V.data.toList = 0 := by simpa using hE2
         have hn := gU.out e1
         have hd := gV.out e2
         have hf : Hid (frB s.data.toList = rightB n d) := by
          unfold Hid
          rw [Bool.eq_iff_iff, F.out, hn, hd]
          exact ⟨fun h => h.2.2, fun h => ⟨e1, e2, h⟩⟩
         have hg : Hid (n = frN s.data.toList ∧ d = frD s.data.toList) := by
          unfold Hid
          rw [G.out.1, G.out.2]; exact ⟨hn, hd⟩
         clear F G gU gV hn hd e1 e2 hE1 hE2
         go_wp2_with fail
         refine (f2.out _).mono ?_
         rintro e w1 ⟨rfl, rfl⟩
         clear f2
         go_wp2_with fail
         generalize rightB n d = R at *
         generalize w1.alloc (.cells #[.int .i64 n, .int .i64 d] 62) = w2 at *
         obtain ⟨c0, c1, z0, z1, zl⟩ := H1.out
         obtain ⟨p0, p1, y0, y1, yl⟩ := H2.out
         clear H0 B0
         go_region_with (go_at_call 62; refine (fr.out _).mono ?_; rintro e w3 ⟨rfl, hb⟩; have D1 : Hid (Below w.heap.size w w3) := below_trans B1.out.drew hb; obtain ⟨m0, m1, m2, m3, m4⟩ := Has.below (w := w2.drewN 1) (has_drewN H1.out 1) hb; obtain ⟨q0, q1, q2, q3, q4⟩ := Has.below (w := w2.drewN 1) (has_drewN H2.out 1) hb; clear hb)
         all_goals
          go_wp2
          have hq := fun x y => wrote2 (w := w3) (x := x) (y := y) m0 m1
          refine bodyPost_ret (res_pairR Tryz.results66 rfl rfl (hq _ _).1 (hq _ _).2) rfl ?_
          exact ⟨n, d, (by rw [hf.out]; rfl), fun _ => hg.out, D1.out.setCell (by simp) _ |>.setCell (by simp) _⟩
theorem results_cell_tmp2 {fn : Func} {p u v : Tmp} {ty : TypeId} (h : fn.results = #[.cell p ty, .tmp u, .tmp v]) (tmps : Array Value) (P : Program) (w : World) :
 (results fn tmps).run P w =
  ((asAddr (tmps.getD p undef)).run P w).andThen fun a w1 => ((loadVar ty a).run P w1).andThen fun x w2 => .ok (.tuple #[x, tmps.getD u undef, tmps.getD v undef]) w2 := by
 simp only [results, h]
 simp [Sem.run_bind, Result.andThen]
theorem res_dev3 {fn : Func} {p u v : Tmp} (h : fn.results = #[.cell p 33, .tmp u, .tmp v]) {tmps : Array Value} {w : World} {b : Nat} {v0 v1 v2 v3 v4 v5 v6 v7 v8 v9 v10 v11 e1 e2 : Value}
 (hp : tmps.getD p undef = .pointer (some ⟨b, 0, none⟩)) (hu : tmps.getD u undef = e1) (hv : tmps.getD v undef = e2)
 (hc : w.heap[b]? = some (.cells #[v0, v1, v2, v3, v4, v5, v6, v7, v8, v9, v10, v11] 33 (0, 0))) :
 (results fn tmps).run Tryz.prog w = .ok (.tuple #[.agg #[v0, v1, v2, v3, v4, v5, v6, v7, v8, v9, v10, v11], e1, e2]) w := by
 have c := rd_cell hc
 have c0 := (c 0).1
 have c1 := (c 1).1
 have c2 := (c 2).1
 have c3 := (c 3).1
 have c4 := (c 4).1
 have c5 := (c 5).1
 have c6 := (c 6).1
 have c7 := (c 7).1
 have c8 := (c 8).1
 have c9 := (c 9).1
 have c10 := (c 10).1
 have c11 := (c 11).1
 simp only [List.getElem?_toArray, List.getElem?_cons_zero, List.getElem?_cons_succ] at c0 c1 c2 c3 c4 c5 c6 c7 c8 c9 c10 c11
 rw [results_cell_tmp2 h, hp, hu, hv]
 simp only [asAddr]
 simp [go_sem, Result.andThen, c0, c1, c2, c3, c4, c5, c6, c7, c8, c9, c10, c11]
theorem flds_own {x : World} {N : Nat} {fv : Value} {fs : List Fd} (h : x.ownsRow N 70 9 fv fs.length (fdCs fs)) : FldsAt x fv fs := by
 rcases own_slice h with ⟨e, hn⟩ | ⟨g, cap, e, _, hg⟩
 · exact .inl ⟨e, List.length_eq_zero_iff.1 hn⟩
 · refine .inr ⟨g, 0, cap, e, ?_, fun j hj k v hv => ?_, hg⟩
   · rcases h.2 with ⟨h1, _⟩ | ⟨g', cap', cur, h1, _, _, h4, _⟩
     · rw [e] at h1; cases h1
     · rw [e] at h1; cases h1; exact h4
   have hk : k < 9 := by
    have := (List.getElem?_eq_some_iff.1 hv).1
    rwa [fdC_len] at this
   have k2 := h
   rw [e] at k2
   rw [Nat.zero_add, World.ownsRow.cellAt k2 (9 * j + k) (by omega), fdCs_get fs j k hj hk]
   exact hv
theorem step_err {d : Dv} {seen : List Wd} {ws : List Wd} {n : Nat} (h : stepM d seen ws = .error n) : n = 6 ∨ n = 7 ∨ n = 8 := by
 unfold stepM at h
 split at h
 · cases h; exact .inl rfl
 · split at h
   · cases h; exact .inl rfl
   split at h
   · cases h; exact .inr (.inr rfl)
   split at h
   · cases h; exact .inr (.inl rfl)
   split at h
   · cases h; exact .inl rfl
   · cases h
abbrev nilS : Value := .slice none 0 0
structure RdSt (w : World) (R B M N G : Nat) (ms : Array MapEntry) (mc : Nat) (x : World) (d : Dv) (fv qv : Value) (seen : List Wd) : Prop where
 st : DsSt N B M x d fv qv seen
 mn : MeanOk N B M x G ms mc
 sn : SeenOk d seen
 rc : x.heap[R]? = some (.cells dz 33 (0, 0))
 b : Below w.heap.size w x
structure RdN (w : World) (R B M N : Nat) : Prop where
 R0 : w.heap.size ≤ R
 M0 : w.heap.size ≤ M
 B0 : w.heap.size ≤ B
 RN : R < N
 MN : M < N
 BN : B < N
 RB : R ≠ B
 RM : R ≠ M
 BM : B ≠ M
theorem Fr.below {w x y : World} {B M : Nat} {r : Option Nat} {L : Nat} (h : Fr B M r x y) (hb : Below L w x) (hL : L ≤ x.heap.size) (hB : L ≤ B) (hM : L ≤ M) (hr : ∀ j, j < L → some j ≠ r) : Below L w y :=
 ⟨h.os.trans hb.os, h.tape.trans hb.tape, h.output.trans hb.output, Nat.le_trans hb.size h.size, fun k hk => (h.block k (by omega) (by omega) (by omega) (hr k hk)).trans (hb.block k hk)⟩
theorem RdSt.step {w : World} {R B M N G : Nat} {ms : Array MapEntry} {mc : Nat} {x y : World} {d d' : Dv} {fv qv fv' qv' : Value} {seen seen' : List Wd} (nn : RdN w R B M N) (h : RdSt w R B M N G ms mc x d fv qv seen) (hf : Fr B M fv.ownBlock x y) (hs : DsSt N B M y d' fv' qv' seen') (hsn : SeenOk d' seen') : RdSt w R B M N G ms mc y d' fv' qv' seen' := by
 have hr : ∀ j, j < N → some j ≠ fv.ownBlock := fun j hj => own_ge h.st.ro hj
 refine ⟨hs, h.mn.fr hf hr, hsn, ?_, hf.below h.b h.b.size nn.B0 nn.M0 (fun j hj => hr j (by have := nn.R0; have := nn.RN; omega))⟩
 exact (hf.block R (Array.getElem?_eq_some_iff.1 h.rc).1 nn.RB nn.RM (hr R nn.RN)).trans h.rc
theorem RdSt.below {w : World} {R B M N G : Nat} {ms : Array MapEntry} {mc : Nat} {x y : World} {d : Dv} {fv qv : Value} {seen : List Wd} (nn : RdN w R B M N) (h : RdSt w R B M N G ms mc x d fv qv seen) (hb : Below x.heap.size x y) : RdSt w R B M N G ms mc y d fv qv seen :=
 h.step nn (.of_below hb) (h.st.below nn.BN nn.MN hb) h.sn
def TkC (R B M N G : Nat) (ms : Array MapEntry) (mc : Nat) (w : World) : Prop := ∀ (x : World) (d : Dv) (fv qv : Value) (seen : List Wd), RdSt w R B M N G ms mc x d fv qv seen → (seen.length : Int) ≤ 5000 → ∀ (ws : List Wd) (vw : Value), WdsAt w.heap.size x vw ws → (∀ z ∈ ws, (z.length : Int) ≤ 5000) → (ws.length : Int) ≤ 5000 → Calls Tryz.prog 76 #[.pointer (some ⟨B, 0, none⟩), .map (some G), vw] x (TakeQ N B M x d fv qv seen ws)
theorem tkC {R B M N G : Nat} {ms : Array MapEntry} {mc : Nat} {w : World} (nn : RdN w R B M N) : TkC R B M N G ms mc w := fun x d fv qv seen h hsl ws vw hw hz hl => take_any nn.BN nn.MN nn.BM nn.B0 h.st h.mn h.sn hsl hw hz hl
def LaC (R B M N G : Nat) (ms : Array MapEntry) (mc : Nat) (w : World) : Prop := ∀ (x : World) (d : Dv) (fv qv : Value) (seen : List Wd), RdSt w R B M N G ms mc x d fv qv seen → (seen.length : Int) ≤ 5000 → Calls Tryz.prog 77 #[.pointer (some ⟨B, 0, none⟩), .map (some G)] x fun e y => e = .returned (.bool (lackB seen)) ∧ Below x.heap.size x y
theorem laC {R B M N G : Nat} {ms : Array MapEntry} {mc : Nat} {w : World} (nn : RdN w R B M N) : LaC R B M N G ms mc w := fun x d fv qv seen h hsl => lacks_any h.mn nn.BN nn.MN nn.BM h.st hsl
theorem map_under (w : World) (o : Obj) (b : Obj) (g : Nat) (h : w.heap[g]? = some o) : (w.alloc b).heap[g]? = some o := by
 have hg : g < w.heap.size := (Array.getElem?_eq_some_iff.1 h).1
 rw [show (w.alloc b).heap = w.heap.push b from rfl, Array.getElem?_push_lt hg, ← Array.getElem?_eq_getElem hg]; exact h
theorem own_off {x y : World} {N : Nat} {e : TypeId} {s : Nat} {v : Value} {n : Nat} {xs : List Value} (h : x.ownsRow N e s v n xs) (hk : ∀ k, N ≤ k → y.heap[k]? = x.heap[k]?) : y.ownsRow N e s v n xs := by
 refine ⟨h.1, ?_⟩
 rcases h.2 with h | ⟨g, cap, cur, h1, h2, h3, h4⟩
 · exact .inl h
 · exact .inr ⟨g, cap, cur, h1, h2, (hk g h2).trans h3, h4⟩
theorem rq_off {x y : World} {N : Nat} {fv qv : Value} {bs : List Nat} (h : RqAt N x fv qv bs) (hk : ∀ k, N ≤ k → y.heap[k]? = x.heap[k]?) : BytesAt y qv bs := by
 rcases h with h | ⟨g, o, cap, h1, h2, h3, h4, _⟩
 · exact .inl h
 · refine .inr ⟨g, o, cap, h1, fun j hj => ?_, ?_⟩
   · exact (World.cell?_of_block (a := ⟨g, o + j, none⟩) (hk g h4)).trans (h2 j hj)
   · have := hk g h4
     rw [Array.getElem?_eq_getElem h3] at this
     exact (Array.getElem?_eq_some_iff.1 this).1
theorem drew_cell (W : World) (a : Addr) : W.drew.cell? a = W.cell? a := rfl
theorem drew_heap (W : World) : W.drew.heap = W.heap := rfl
def errP (rb : Nat) (ln n : Int) (i : Nat) (v : Value) (z : World) : Prop :=
 match i with
 | 0 => v = .agg dz
 | 1 => v = .pointer (some ⟨rb, 0, none⟩)
 | 2 => v = .int .i64 ln
 | 3 => v = .int .i64 n
 | 5 => v = .int .i64 ln
 | 6 => v = .int .i64 n
 | _ => True
structure ErrW (y : World) (R rb : Nat) (ln : Int) (x : Array Bool) (z : World) : Prop where
 lr : z.cell? ⟨rb, 0, none⟩ = some (.int .i64 ln)
 f0 : x.getD 4 false = false → z = y.drew
 f1 : x.getD 4 false = true → z = (put12 y R (.string ⟨#[]⟩) (.int .i64 0) (.int .i64 0) (.int .i64 0) (.int .i64 0) (.string ⟨#[]⟩) (.slice none 0 0) (.slice none 0 0) (.int .i64 0) (.int .i64 0) (.int .i64 0) (.int .i64 0)).drew
theorem ErrW.other {y : World} {R rb : Nat} {ln : Int} {x : Array Bool} {z : World} (h : ErrW y R rb ln x z) {i : Nat} (hi : i ≠ 4) : ErrW y R rb ln (x.setIfInBounds i true) z :=
 ⟨h.lr, by rw [getD_set_ne false hi]; exact h.f0, by rw [getD_set_ne false hi]; exact h.f1⟩
theorem ErrW.stored {y : World} {R rb : Nat} {ln : Int} {x : Array Bool} {z : World} (h : ErrW y R rb ln x z) (hr : rb ≠ R) (hx : x.getD 4 false = false) (hs : 4 < x.size) : ErrW y R rb ln (x.setIfInBounds 4 true) (put12 y R (.string ⟨#[]⟩) (.int .i64 0) (.int .i64 0) (.int .i64 0) (.int .i64 0) (.string ⟨#[]⟩) (.slice none 0 0) (.slice none 0 0) (.int .i64 0) (.int .i64 0) (.int .i64 0) (.int .i64 0)).drew := by
 have e := getD_set_at hs
 have hl := h.lr
 rw [h.f0 hx, drew_cell] at hl
 have k : (put12 y R (.string ⟨#[]⟩) (.int .i64 0) (.int .i64 0) (.int .i64 0) (.int .i64 0) (.string ⟨#[]⟩) (.slice none 0 0) (.slice none 0 0) (.int .i64 0) (.int .i64 0) (.int .i64 0) (.int .i64 0)).cell? ⟨rb, 0, none⟩ = some (.int .i64 ln) := (World.cell?_of_block (a := ⟨rb, 0, none⟩) (put12_off (y := y) hr (.string ⟨#[]⟩) (.int .i64 0) (.int .i64 0) (.int .i64 0) (.int .i64 0) (.string ⟨#[]⟩) (.slice none 0 0) (.slice none 0 0) (.int .i64 0) (.int .i64 0) (.int .i64 0) (.int .i64 0))).trans hl
 refine ⟨by rw [drew_cell]; exact k, fun h4 => ?_, fun _ => rfl⟩
 · rw [e] at h4; cases h4
theorem errK {rb : Nat} {ln n : Int} {x : Array Bool} {z z' : World} : RegK (errP rb ln n) x z z' := fun j v _ h => by unfold errP at *; exact h
theorem sn_len {d : Dv} {seen : List Wd} (h : SeenOk d seen) : seen.length ≤ 18 := by
 have h1 : (notF seen).length ≤ 10 := nodup_sub (notF seen) tenK h.nd (fun x hx => by
  have hm := List.mem_filter.1 hx
  exact (h.sub x hm.1).resolve_right (by simpa using hm.2))
 have h2 : ∀ l : List Wd, l.length = (notF l).length + l.count kFie := fun l => by
  induction l with
  | nil => rfl
  | cons a l ih =>
   unfold notF at *
   by_cases ha : a = kFie
   · subst ha; simp; omega
   · simp [ha]; omega
 have := h2 seen
 have := h.cnt
 have := h.le
 omega
def allK : List Wd := tenK ++ [kFie]
def allC : Array Value := #[.string ⟨#[100, 101, 118, 105, 99, 101]⟩, .string ⟨#[115, 116, 97, 114, 116]⟩, .string ⟨#[101, 115, 99, 97, 112, 101]⟩, .string ⟨#[115, 105, 122, 101]⟩, .string ⟨#[115, 117, 109]⟩, .string ⟨#[114, 101, 113, 117, 101, 115, 116]⟩, .string ⟨#[112, 111, 108, 108]⟩, .string ⟨#[116, 105, 109, 101, 111, 117, 116]⟩, .string ⟨#[114, 101, 116, 114, 105, 101, 115]⟩, .string ⟨#[97, 103, 101]⟩, .string ⟨#[102, 105, 101, 108, 100]⟩]
theorem allC_at (i : Nat) (h : i < 11) : allC[i]? = some (.string (txt (allK[i]'h))) := by
 match i, h with
 | 0, _ => rfl
 | 1, _ => rfl
 | 2, _ => rfl
 | 3, _ => rfl
 | 4, _ => rfl
 | 5, _ => rfl
 | 6, _ => rfl
 | 7, _ => rfl
 | 8, _ => rfl
 | 9, _ => rfl
 | 10, _ => rfl
def NewB (w : World) (v v' : Value) : Prop := v'.ownBlock = v.ownBlock ∨ ∀ g, v'.ownBlock = some g → w.heap.size ≤ g
def LineQ (w : World) (d : Dv) (fv qv : Value) (seen ws : List Wd) (e : Ending) (y : World) : Prop :=
 ∃ d2 p1 n1 c1 p2 n2 c2, e = .returned (.tuple #[dvV d2 (.slice p1 n1 c1) (.slice p2 n2 c2), .int .i64 ((errN (stepM d seen ws) : Nat) : Int)]) ∧ Below w.heap.size w y ∧ ∀ d', stepM d seen ws = .ok d' → d2 = d' ∧ FldsAt y (.slice p1 n1 c1) d'.fs ∧ BytesAt y (.slice p2 n2 c2) d'.rq ∧ NewB w fv (.slice p1 n1 c1) ∧ NewB w qv (.slice p2 n2 c2)
def LineW (w : World) (d : Dv) (fv qv : Value) : World := ((w.alloc (.cells (dvA d fv qv) 25)).alloc (.cells dz 25)).alloc (.cells allC 9)
structure LineM (w x : World) (d : Dv) (fv qv : Value) : Prop where
 dc : x.heap[w.heap.size]? = some (.cells (dvA d fv qv) 25 (0, 0))
 rc : x.heap[w.heap.size + 1]? = some (.cells dz 25 (0, 0))
 b : Below w.heap.size w x
theorem lineM_first (w : World) (d : Dv) (fv qv : Value) : LineM w (LineW w d fv qv) d fv qv ∧ (LineW w d fv qv).heap[w.heap.size + 2]? = some (.cells allC 9 (0, 0)) := by
 unfold LineW
 refine ⟨⟨map_under _ _ _ _ (map_under _ _ _ _ (World.alloc_heap_new w _)), ?_, ?_⟩, ?_⟩
 · have k := map_under _ _ (.cells allC 9) _ (World.alloc_heap_new (w.alloc (.cells (dvA d fv qv) 25)) (.cells dz 25))
   rwa [World.size_alloc] at k
 · exact (((Below.refl _ _).alloc (Nat.le_refl _) _).alloc (by rw [World.size_alloc]; omega) _).alloc (by rw [World.size_alloc, World.size_alloc]; omega) _
 · have k := World.alloc_heap_new ((w.alloc (.cells (dvA d fv qv) 25)).alloc (.cells dz 25)) (.cells allC 9)
   rwa [World.size_alloc, World.size_alloc] at k
theorem LineM.below {w x y : World} {d : Dv} {fv qv : Value} (h : LineM w x d fv qv) (hb : Below x.heap.size x y) : LineM w y d fv qv :=
 ⟨(hb.block _ (Array.getElem?_eq_some_iff.1 h.dc).1).trans h.dc, (hb.block _ (Array.getElem?_eq_some_iff.1 h.rc).1).trans h.rc, h.b.trans (hb.mono h.b.size)⟩
theorem LineM.cells {w x : World} {d : Dv} {fv qv : Value} (h : LineM w x d fv qv) : (∀ i v, (dvA d fv qv)[i]? = some v → x.cell? ⟨w.heap.size, i, none⟩ = some v ∧ x.frozen? ⟨w.heap.size, i, none⟩ = false) ∧ ∀ i v, dz[i]? = some v → x.cell? ⟨w.heap.size + 1, i, none⟩ = some v ∧ x.frozen? ⟨w.heap.size + 1, i, none⟩ = false :=
 ⟨fun i v hv => ⟨(rd_cell h.dc i).1.trans hv, (rd_cell h.dc i).2⟩, fun i v hv => ⟨(rd_cell h.rc i).1.trans hv, (rd_cell h.rc i).2⟩⟩
theorem res_dev2 {fn : Func} {p u : Tmp} (h : fn.results = #[.cell p 25, .tmp u]) {tmps : Array Value} {w : World} {b : Nat} {v0 v1 v2 v3 v4 v5 v6 v7 v8 v9 v10 v11 e1 : Value}
 (hp : tmps.getD p undef = .pointer (some ⟨b, 0, none⟩)) (hu : tmps.getD u undef = e1)
 (hc : w.heap[b]? = some (.cells #[v0, v1, v2, v3, v4, v5, v6, v7, v8, v9, v10, v11] 25 (0, 0))) :
 (results fn tmps).run Tryz.prog w = .ok (.tuple #[.agg #[v0, v1, v2, v3, v4, v5, v6, v7, v8, v9, v10, v11], e1]) w := by
 have c := rd_cell hc
 have c0 := (c 0).1
 have c1 := (c 1).1
 have c2 := (c 2).1
 have c3 := (c 3).1
 have c4 := (c 4).1
 have c5 := (c 5).1
 have c6 := (c 6).1
 have c7 := (c 7).1
 have c8 := (c 8).1
 have c9 := (c 9).1
 have c10 := (c 10).1
 have c11 := (c 11).1
 simp only [List.getElem?_toArray, List.getElem?_cons_zero, List.getElem?_cons_succ] at c0 c1 c2 c3 c4 c5 c6 c7 c8 c9 c10 c11
 rw [results_cell_tmp h, hp, hu]
 simp only [asAddr]
 simp [go_sem, Result.andThen, c0, c1, c2, c3, c4, c5, c6, c7, c8, c9, c10, c11]
theorem allK_mem (f : Wd) : decide (f ∈ allK.take 11) = knownB f := by
 unfold knownB
 rw [decide_eq_decide]
 show f ∈ allK ↔ _
 unfold allK
 simp
theorem allK_step (f : Wd) (k : Nat) (h : k < 11) : decide (f ∈ allK.take (k + 1)) = (decide (f ∈ allK.take k) || decide (allK[k]'h = f)) := by
 rw [List.take_succ_eq_append_getElem (show k < allK.length from h), Bool.eq_iff_iff, decide_eq_true_iff, List.mem_append, Bool.or_eq_true, decide_eq_true_iff, decide_eq_true_iff, List.mem_singleton]
 exact or_congr Iff.rfl ⟨Eq.symm, Eq.symm⟩
theorem fq_put {w y : World} {fv qv : Value} {fs : List Fd} {rq : List Nat} {R : Nat} (h : FldsAt w fv fs ∧ BytesAt w qv rq) (hb : Below w.heap.size w y) (hR : w.heap.size ≤ R) (v0 v1 v2 v3 v4 v5 v6 v7 v8 v9 v10 v11 : Value) : FldsAt (put12 y R v0 v1 v2 v3 v4 v5 v6 v7 v8 v9 v10 v11) fv fs ∧ BytesAt (put12 y R v0 v1 v2 v3 v4 v5 v6 v7 v8 v9 v10 v11) qv rq :=
 ⟨h.1.below (put12_below hb hR v0 v1 v2 v3 v4 v5 v6 v7 v8 v9 v10 v11), h.2.below (put12_below hb hR v0 v1 v2 v3 v4 v5 v6 v7 v8 v9 v10 v11)⟩
theorem LineM.set {w x : World} {d d' : Dv} {fv qv fv' qv' : Value} (h : LineM w x d fv qv) (i : Nat) (v : Value) (e : (dvA d fv qv).setIfInBounds i v = dvA d' fv' qv') : LineM w (x.setCell ⟨w.heap.size, i, none⟩ v) d' fv' qv' :=
 ⟨(rd_set h.dc i v).trans (by rw [e]), (Below.heap_setCell _ _ _ _ (show w.heap.size + 1 ≠ w.heap.size by omega)).trans h.rc, h.b.setCell (p := ⟨w.heap.size, i, none⟩) (Nat.le_refl _) _⟩
def LineZ (w y : World) (d : Dv) (fv qv : Value) : World := putD y (w.heap.size + 1) d fv qv
theorem LineM.res {w y : World} {d : Dv} {fv qv : Value} (h : LineM w y d fv qv) : (LineZ w y d fv qv).heap[w.heap.size + 1]? = some (.cells (dvA d fv qv) 25 (0, 0)) := put12_at h.rc _ _ _ _ _ _ _ _ _ _ _ _
theorem LineM.low {w y : World} {d : Dv} {fv qv : Value} (h : LineM w y d fv qv) : Below w.heap.size w (LineZ w y d fv qv) := put12_below h.b (by omega) _ _ _ _ _ _ _ _ _ _ _ _
theorem LineZ.off {w y : World} {d : Dv} {fv qv : Value} {k : Nat} (hk : k ≠ w.heap.size + 1) : (LineZ w y d fv qv).heap[k]? = y.heap[k]? := put12_off hk _ _ _ _ _ _ _ _ _ _ _ _
theorem LineM.quit {w y : World} {d d2 : Dv} {p1 p2 : Option Addr} {n1 c1 n2 c2 : Nat} (h : LineM w y d2 (.slice p1 n1 c1) (.slice p2 n2 c2)) {seen ws : List Wd} {n : Nat} (he : stepM d seen ws = .error n) (v : Value) (hv : v = .int .i64 (n : Int)) {fv qv : Value} :
 LineQ w d fv qv seen ws (.returned (.tuple #[dvV d2 (.slice p1 n1 c1) (.slice p2 n2 c2), v])) (LineZ w y d2 (.slice p1 n1 c1) (.slice p2 n2 c2)) :=
 ⟨d2, p1, n1, c1, p2, n2, c2, by rw [he, hv]; rfl, h.low, fun d' hd => by rw [he] at hd; cases hd⟩
theorem LineM.done {w y : World} {d d2 : Dv} {p1 p2 : Option Addr} {n1 c1 n2 c2 : Nat} (h : LineM w y d2 (.slice p1 n1 c1) (.slice p2 n2 c2)) {seen ws : List Wd} (he : stepM d seen ws = .ok d2)
 (hf : FldsAt (LineZ w y d2 (.slice p1 n1 c1) (.slice p2 n2 c2)) (.slice p1 n1 c1) d2.fs) (hq : BytesAt (LineZ w y d2 (.slice p1 n1 c1) (.slice p2 n2 c2)) (.slice p2 n2 c2) d2.rq) {fv qv : Value} (hn1 : NewB w fv (.slice p1 n1 c1)) (hn2 : NewB w qv (.slice p2 n2 c2)) :
 LineQ w d fv qv seen ws (.returned (.tuple #[dvV d2 (.slice p1 n1 c1) (.slice p2 n2 c2), .int .i64 0])) (LineZ w y d2 (.slice p1 n1 c1) (.slice p2 n2 c2)) :=
 ⟨d2, p1, n1, c1, p2, n2, c2, by rw [he]; rfl, h.low, fun d' hd => by rw [he] at hd; cases hd; exact ⟨rfl, hf, hq, hn1, hn2⟩⟩
theorem LineM.old {w y : World} {d : Dv} {fv qv : Value} (h : LineM w y d fv qv) {v : Value} {fs : List Fd} {u : Value} {rq : List Nat} (k : FldsAt w v fs ∧ BytesAt w u rq) : FldsAt (LineZ w y d fv qv) v fs ∧ BytesAt (LineZ w y d fv qv) u rq := ⟨k.1.below h.low, k.2.below h.low⟩
theorem BytesAt.z {w y : World} {d : Dv} {fv qv : Value} {p : Option Addr} {n c : Nat} {bs : List Nat} (h : BytesAt y (.slice p n c) bs) (hp : ∀ a, p = some a → a.block ≠ w.heap.size + 1) (hs : y.heap.size ≤ (LineZ w y d fv qv).heap.size) : BytesAt (LineZ w y d fv qv) (.slice p n c) bs := by
 rcases h with h | ⟨g, o, cap, h1, h2, h3⟩
 · exact .inl h
 · injection h1 with e1 e2 e3
   exact .inr ⟨g, o, cap, by rw [e1, e2, e3], fun j hj => (World.cell?_of_block (a := ⟨g, o + j, none⟩) (LineZ.off (show g ≠ w.heap.size + 1 from hp _ e1))).trans (h2 j hj), Nat.lt_of_lt_of_le h3 hs⟩
theorem BytesAt.form {y : World} {v : Value} {bs : List Nat} (h : BytesAt y v bs) : ∃ p n c, v = .slice p n c := by
 rcases h with ⟨rfl, _⟩ | ⟨g, o, cap, rfl, _⟩
 · exact ⟨none, 0, 0, rfl⟩
 · exact ⟨_, _, _, rfl⟩
theorem BytesAt.len {y : World} {p : Option Addr} {n c : Nat} {bs : List Nat} (h : BytesAt y (.slice p n c) bs) : n = bs.length := by
 rcases h with ⟨h1, rfl⟩ | ⟨g, o, cap, h1, _⟩
 · injection h1
 · injection h1
theorem BytesAt.set {y : World} {p : Option Addr} {n c : Nat} {bs : List Nat} (h : BytesAt y (.slice p n c) bs) {B i : Nat} (hp : ∀ a, p = some a → a.block ≠ B) {u : Value} : BytesAt (y.setCell ⟨B, i, none⟩ u) (.slice p n c) bs := by
 rcases h with h | ⟨g, o, cap, h1, h2, h3⟩
 · exact .inl h
 · injection h1 with e1 e2 e3
   exact .inr ⟨g, o, cap, by rw [e1, e2, e3], fun j hj => (World.cell?_of_block (a := ⟨g, o + j, none⟩) (Below.heap_setCell _ _ _ _ (show g ≠ B from hp _ e1))).trans (h2 j hj), by simpa using h3⟩
theorem FldsAt.z {w y : World} {d : Dv} {fv qv : Value} {p : Option Addr} {n c : Nat} {fs : List Fd} (h : FldsAt y (.slice p n c) fs) (hp : ∀ a, p = some a → a.block ≠ w.heap.size + 1) (hs : y.heap.size ≤ (LineZ w y d fv qv).heap.size) : FldsAt (LineZ w y d fv qv) (.slice p n c) fs := by
 rcases h with h | ⟨g, o, cap, h1, h0, h2, h3⟩
 · exact .inl h
 · injection h1 with e1 e2 e3
   exact .inr ⟨g, o, cap, by rw [e1, e2, e3], h0, fun j hj k v hv => (World.cell?_of_block (a := ⟨g, o + 9 * j + k, none⟩) (LineZ.off (show g ≠ w.heap.size + 1 from hp _ e1))).trans (h2 j hj k v hv), Nat.lt_of_lt_of_le h3 hs⟩
theorem FldsAt.set {y : World} {p : Option Addr} {n c : Nat} {fs : List Fd} (h : FldsAt y (.slice p n c) fs) {B i : Nat} (hp : ∀ a, p = some a → a.block ≠ B) {u : Value} : FldsAt (y.setCell ⟨B, i, none⟩ u) (.slice p n c) fs := by
 rcases h with h | ⟨g, o, cap, h1, h0, h2, h3⟩
 · exact .inl h
 · injection h1 with e1 e2 e3
   exact .inr ⟨g, o, cap, by rw [e1, e2, e3], h0, fun j hj k v hv => (World.cell?_of_block (a := ⟨g, o + 9 * j + k, none⟩) (Below.heap_setCell _ _ _ _ (show g ≠ B from hp _ e1))).trans (h2 j hj k v hv), by simpa using h3⟩
theorem flds_own' {x : World} {N : Nat} {e : TypeId} {fv : Value} {fs : List Fd} (h : x.ownsRow N e 9 fv fs.length (fdCs fs)) : FldsAt x fv fs := by
 rcases own_slice h with ⟨e, hn⟩ | ⟨g, cap, e, _, hg⟩
 · exact .inl ⟨e, List.length_eq_zero_iff.1 hn⟩
 · refine .inr ⟨g, 0, cap, e, ?_, fun j hj k v hv => ?_, hg⟩
   · rcases h.2 with ⟨h1, _⟩ | ⟨g', cap', cur, h1, _, _, h4, _⟩
     · rw [e] at h1; cases h1
     · rw [e] at h1; cases h1; exact h4
   have hk : k < 9 := by
    have := (List.getElem?_eq_some_iff.1 hv).1
    rwa [fdC_len] at this
   have k2 := h
   rw [e] at k2
   rw [Nat.zero_add, World.ownsRow.cellAt k2 (9 * j + k) (by omega), fdCs_get fs j k hj hk]
   exact hv
theorem LineZ.size {w y : World} {d : Dv} {fv qv : Value} : y.heap.size ≤ (LineZ w y d fv qv).heap.size := by
 unfold LineZ putD put12
 simp only [World.size_setCell]
 exact Nat.le_refl _
def NewP (p : Option Addr) (N : Nat) : Prop := ∀ a, p = some a → N ≤ a.block
theorem NewP.b {p : Option Addr} {N : Nat} {w : World} {v : Value} {n c : Nat} (h : NewP p N) (hN : w.heap.size ≤ N) : NewB w v (.slice p n c) := .inr fun g hg => by
 cases p with
 | none => cases hg
 | some a => cases hg; exact Nat.le_trans hN (h a rfl)
theorem len_two {a : List Wd} (h : a.length = 2) : ∃ z t, a = [z, t] := by
 match a, h with
 | [z, t], _ => exact ⟨z, t, rfl⟩
end Go.Proofs.YthabffjgdhfbmaaGreatDoor
