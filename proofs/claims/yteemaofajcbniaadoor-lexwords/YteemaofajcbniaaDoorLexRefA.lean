/-
  What the document's own Rows returns (layer 7). Conditions: as each says.
-/
import Derived.Test.YteemaofajcbniaaDoorLexKit
namespace Go.Proofs.YteemaofajcbniaaDoor
open Go.RowKit
set_option linter.unusedVariables false

theorem info_rrows : (Tryd.prog.info? 41).map (fun i => (i.zero, i.size, i.bytes)) = some (some (.agg #[.int .i64 0, .slice none 0 0]), 2, 32) := by kernel_rfl

set_option maxRecDepth 100000 in
set_option maxHeartbeats 16000000 in
theorem rrows_short (s : ByteArray) (w : World) (hs : (s.size : Int) ≤ 4000) (T : Except Nat (List Ln)) (hT : scanL 1 [] [] s.data.toList = T) :
    Calls Tryd.prog 9 #[.string s] w fun e w' => ∃ v, e = .returned (.tuple #[v, .int .i64 ((tLine T : Nat) : Int), .int .i64 ((tErr T : Nat) : Int)]) ∧ RowsAt w' v (tRows T) ∧ Below w.heap.size w w' := by
  obtain ⟨i0, hi, hz0, hz1, hz2⟩ := info_parts info_st
  obtain ⟨r0, hri, hr0, hr1, hr2⟩ := info_parts info_rrows
  have L0 : Hid (LeftK s [] 1 [] [] 0 T) := by
    unfold Hid LeftK
    rw [if_pos (Nat.zero_le _), ← hT]
    exact LeftL.first _
  clear hT
  go_enter Tryd.func9, Tryd.ntmps9
  go_wp2
  go_loopw [5, 6, 7, 8, 9] (fun vo vl vw vd vi wr => ∃ (k l : Nat) (fs : List Dn) (ws : List Wd) (d : Wd), (k : Int) ≤ (s.size : Int) + 1 ∧ vi = .int .i64 (k : Int) ∧ vl = .int .i64 (l : Int) ∧ vd = .string (txt d) ∧ ((l : Int) ≤ (k : Int) + 1 ∧ (ws.length : Int) ≤ (k : Int) ∧ (fs.length : Int) ≤ (k : Int) ∧ (d.length : Int) ≤ (k : Int)) ∧ Hid (WsOk ws) ∧ Hid (LxSt w wr 41 vo vw fs ws) ∧ Hid (LeftK s fs l ws d k T)) (fun _ _ _ _ vi _ => s.size + 1 - (intOf vi).toNat)
  case atStart => exact ⟨0, 1, [], [], [], by omega, rfl, rfl, rfl, ⟨by omega, by simp, by simp, by simp⟩, (fun d hd => by cases hd), LxSt.first w _, L0⟩
  case round =>
    obtain ⟨k, l, fs, ws, d, hk, rfl, rfl, rfl, ⟨bl, bw, bf, bd⟩, wok, st, left⟩ := hrel
    clear L0
    by_cases hlt : k < s.size
    · have hki : (k : Int) < (s.size : Int) := by omega
      have hke : ((k : Int) == (s.size : Int)) = false := beq_eq_false_iff_ne.2 (by omega)
      by_cases h10 : (s[k].toNat : Int) = 10
      · have hc10 : s[k] = 10 := u8_eq (n := 10) (by omega) h10
        have hw63 : ws.length + 1 ≤ maxLen := by unfold maxLen; omega
        have hwby : (ws.length + 1) * 16 ≤ 140737488355328 := by omega
        have hf63 : fs.length + 1 ≤ maxLen := by unfold maxLen; omega
        have hfby : (fs.length + 1) * 32 ≤ 140737488355328 := by omega
        have lf := (LeftL.line (hc10 ▸ left.out.at hlt))
        by_cases hd : d = []
        · subst hd
          rw [flush_nil] at lf
          have et : txt [] = ⟨#[]⟩ := rfl
          rw [et]
          by_cases hw : ws = []
          · subst hw
            have nl : Hid (LeftK s (fs) (l + 1) [] [] (k + 1) T) := LeftK.of hlt (by rw [close_nil] at lf; simpa using lf)
            rcases own_slice st.out.rw with ⟨rfl, _⟩ | ⟨g, cap, rfl, _⟩
            all_goals
              have st2 := LxSt.letGo st.out
              clear left lf wok hw63 hwby hf63 hfby
              go_wp2
              exact ⟨⟨k + 1, l + 1, fs, [], [], by omega, by simp, by simp, rfl, ⟨by omega, by simp <;> omega, by simp <;> omega, by simp <;> omega⟩, (fun d hd => by cases hd), st2, nl⟩, by simp [intOf] <;> omega⟩
          · obtain ⟨c, r, rest, heq0⟩ := head_form wok.out hw
            have heq : Hid (ws = (c :: r) :: rest) := heq0
            rw [heq0] at lf
            obtain ⟨g1, cap1, rfl⟩ := own_row st.out.rw (by rw [heq0]; simp)
            have c0 := str_cell st.out.rw (by rw [heq0]; simp) heq0
            have wl0 : 0 < (ws.length : Int) := by rw [heq0]; simp <;> omega
            have tg := txt_get c r (by rw [txt_size]; simp)
            have ts : 0 < ((txt (c :: r)).size : Int) := by rw [txt_size]; simp <;> omega
            clear heq0 hw
            by_cases hh : (c.toNat : Int) = 35
            · have c35 : c = 35 := u8_eq (n := 35) (by omega) hh
              have nl : Hid (LeftK s (fs) (l + 1) [] [] (k + 1) T) := LeftK.of hlt (by rw [close_no c35] at lf; simpa using lf)
              have st2 := LxSt.letGo st.out
              clear left lf wok heq c35 hw63 hwby hf63 hfby st
              go_wp2
              exact ⟨⟨k + 1, l + 1, fs, [], [], by omega, by simp, by simp, rfl, ⟨by omega, by simp <;> omega, by simp <;> omega, by simp <;> omega⟩, (fun d hd => by cases hd), st2, nl⟩, by simp [intOf] <;> omega⟩
            · have c35 : ¬ c = 35 := fun e => hh (by rw [e]; rfl)
              rw [close_yes c35] at lf
              rw [← heq.out] at lf
              have nl : Hid (LeftK s (fs ++ [((l, ws), .slice (some ⟨g1, 0, none⟩) ws.length cap1)]) (l + 1) [] [] (k + 1) T) := LeftK.of hlt (by rw [map_dn]; exact lf)
              clear left lf wok c35 hw63 hwby
              have hne : ¬ ws = [] := by rw [heq.out]; simp
              clear heq
              go_wp2_with (at_builtin; refine wpList_append_own_at _ rfl _ _ 27 rfl w.heap.size 41 r0 (.agg #[.int .i64 0, .slice none 0 0]) 2 32 Tryd.underlying27 hri hr0 hr1 hr2 rfl (by decide) _ _ _ rfl (World.ownsRow.alloc st.out.ro _) ⟨wr.heap.size, 0, none⟩ 1 1 [.int .i64 (l : Int), .slice (some ⟨g1, 0, none⟩) ws.length cap1] rfl rfl (cell_two_new _ _ _ _) (by simp [Value.oneCell']) hf63 hfby (by have := st.out.b.size; simp; omega) ?_; intro v2 y2 hO gO _ vO; have st2 : Hid (LxSt w y2 41 v2 (.slice none 0 0) (fs ++ [((l, ws), .slice (some ⟨g1, 0, none⟩) ws.length cap1)]) []) := LxSt.line st.out hne l hO gO vO; clear hO gO vO)
              exact ⟨⟨k + 1, l + 1, fs ++ [((l, ws), .slice (some ⟨g1, 0, none⟩) ws.length cap1)], [], [], by omega, by simp, by simp, rfl, ⟨by omega, by simp <;> omega, by simp <;> omega, by simp <;> omega⟩, (fun d hd => by cases hd), st2, nl⟩, by simp [intOf] <;> omega⟩
        · have te := txt_emp hd
          have tn := txt_ne hd
          rw [flush_ne hd] at lf
          obtain ⟨c, r, rest, heq0⟩ := head_form (wsok_snoc wok.out hd) (by simp)
          have heq : Hid (ws ++ [d] = (c :: r) :: rest) := heq0
          rw [heq0] at lf
          have wl0 : 0 ≤ (ws.length : Int) := by omega
          have tg := txt_get c r (by rw [txt_size]; simp)
          have ts : 0 < ((txt (c :: r)).size : Int) := by rw [txt_size]; simp <;> omega
          clear heq0
          by_cases hh : (c.toNat : Int) = 35
          · have c35 : c = 35 := u8_eq (n := 35) (by omega) hh
            have nl : Hid (LeftK s (fs) (l + 1) [] [] (k + 1) T) := LeftK.of hlt (by rw [close_no c35] at lf; simpa using lf)
            clear left lf wok c35 hf63 hfby
            go_wp2_with (at_builtin; refine wpList_append_own_at _ rfl _ _ 38 rfl w.heap.size 9 i0 (.string ⟨#[]⟩) 1 16 Tryd.underlying38 hi hz0 hz1 hz2 rfl (by decide) _ _ _ rfl (World.ownsRow.alloc st.out.rw _) ⟨wr.heap.size, 0, none⟩ 1 1 [.string (txt d)] rfl rfl (cell_one_new _ _ _) (by simp [Value.oneCell']) hw63 hwby (by have := st.out.b.size; simp; omega) ?_; intro v1 y1 hA gA _ vA; obtain ⟨g1, cap1, rfl⟩ := own_row hA (by omega); have c0 := str_cell2 hA (by omega) heq.out; replace st : Hid (LxSt w y1 41 u5 (.slice (some ⟨g1, 0, none⟩) (ws.length + 1) cap1) fs (ws ++ [d])) := LxSt.word st.out d hA gA vA; clear hA gA vA)
            have st2 := LxSt.letGo st.out
            exact ⟨⟨k + 1, l + 1, fs, [], [], by omega, by simp, by simp, rfl, ⟨by omega, by simp <;> omega, by simp <;> omega, by simp <;> omega⟩, (fun d hd => by cases hd), st2, nl⟩, by simp [intOf] <;> omega⟩
          · have c35 : ¬ c = 35 := fun e => hh (by rw [e]; rfl)
            rw [close_yes c35] at lf
            rw [← heq.out] at lf
            clear left wok c35
            replace lf : Hid (LeftL (fs.map (·.1) ++ [(l, ws ++ [d])]) (l + 1) [] [] (s.data.toList.drop (k + 1)) T) := lf
            go_wp2_with (first
              | (at_builtin; refine wpList_append_own_at _ rfl _ _ 38 rfl w.heap.size 9 i0 (.string ⟨#[]⟩) 1 16 Tryd.underlying38 hi hz0 hz1 hz2 rfl (by decide) _ _ _ rfl (World.ownsRow.alloc st.out.rw _) ⟨wr.heap.size, 0, none⟩ 1 1 [.string (txt d)] rfl rfl (cell_one_new _ _ _) (by simp [Value.oneCell']) hw63 hwby (by have := st.out.b.size; simp; omega) ?_; intro v1 y1 hA gA _ vA; obtain ⟨g1, cap1, rfl⟩ := own_row hA (by omega); have c0 := str_cell2 hA (by omega) heq.out; replace st : Hid (LxSt w y1 41 u5 (.slice (some ⟨g1, 0, none⟩) (ws.length + 1) cap1) fs (ws ++ [d])) := LxSt.word st.out d hA gA vA; clear hA gA vA)
              | (at_builtin; refine wpList_append_own_at _ rfl _ _ 27 rfl w.heap.size 41 r0 (.agg #[.int .i64 0, .slice none 0 0]) 2 32 Tryd.underlying27 hri hr0 hr1 hr2 rfl (by decide) _ _ _ rfl (World.ownsRow.alloc st.out.ro _) ⟨y1.heap.size, 0, none⟩ 1 1 [.int .i64 (l : Int), .slice (some ⟨g1, 0, none⟩) (ws.length + 1) cap1] rfl rfl (cell_two_new _ _ _ _) (by simp [Value.oneCell']) hf63 hfby (by have := st.out.b.size; simp; omega) ?_; intro v2 y2 hO gO _ vO; have st2 : Hid (LxSt w y2 41 v2 (.slice none 0 0) (fs ++ [((l, ws ++ [d]), .slice (some ⟨g1, 0, none⟩) (ws.length + 1) cap1)]) []) := LxSt.line st.out (by simp) l hO gO vO; clear hO gO vO))
            have nl : Hid (LeftK s (fs ++ [((l, ws ++ [d]), .slice (some ⟨g1, 0, none⟩) (ws.length + 1) cap1)]) (l + 1) [] [] (k + 1) T) := LeftK.of hlt (by rw [map_dn]; exact lf.out)
            exact ⟨⟨k + 1, l + 1, fs ++ [((l, ws ++ [d]), .slice (some ⟨g1, 0, none⟩) (ws.length + 1) cap1)], [], [], by omega, by simp, by simp, rfl, ⟨by omega, by simp <;> omega, by simp <;> omega, by simp <;> omega⟩, (fun d hd => by cases hd), st2, nl⟩, by simp [intOf] <;> omega⟩
      · have hc10 : ¬ s[k] = 10 := fun e => h10 (by rw [e]; rfl)
        have hq10 : ((s[k].toNat : Int) == 10) = false := beq_eq_false_iff_ne.2 h10
        by_cases h32 : (s[k].toNat : Int) = 32
        · have hc32 : s[k] = 32 := u8_eq (n := 32) (by omega) h32
          have lf := LeftL.blank (hc32 ▸ left.out.at hlt)
          have hw63 : ws.length + 1 ≤ maxLen := by unfold maxLen; omega
          have hwby : (ws.length + 1) * 16 ≤ 140737488355328 := by omega
          by_cases hd : d = []
          · subst hd
            rw [flush_nil] at lf
            have et : txt [] = ⟨#[]⟩ := rfl
            rw [et]
            have nl : Hid (LeftK s fs l ws [] (k + 1) T) := LeftK.of hlt lf
            clear left lf hw63 hwby hc32 hc10
            go_wp2
            exact ⟨⟨k + 1, l, fs, ws, [], by omega, by simp, rfl, rfl, ⟨by omega, by omega, by omega, by simp <;> omega⟩, wok, st, nl⟩, by simp [intOf] <;> omega⟩
          · have te := txt_emp hd
            have tn := txt_ne hd
            rw [flush_ne hd] at lf
            have nl : Hid (LeftK s fs l (ws ++ [d]) [] (k + 1) T) := LeftK.of hlt lf
            replace wok : Hid (WsOk (ws ++ [d])) := wsok_snoc wok.out hd
            clear left lf hc32 hc10
            go_wp2_with (at_builtin; refine wpList_append_own_at _ rfl _ _ 38 rfl w.heap.size 9 i0 (.string ⟨#[]⟩) 1 16 Tryd.underlying38 hi hz0 hz1 hz2 rfl (by decide) _ _ _ rfl (World.ownsRow.alloc st.out.rw _) ⟨wr.heap.size, 0, none⟩ 1 1 [.string (txt d)] rfl rfl (cell_one_new _ _ _) (by simp [Value.oneCell']) hw63 hwby (by have := st.out.b.size; simp; omega) ?_; intro v1 y1 hA gA _ vA; obtain ⟨g1, cap1, rfl⟩ := own_row hA (by omega); replace st : Hid (LxSt w y1 41 u5 (.slice (some ⟨g1, 0, none⟩) (ws.length + 1) cap1) fs (ws ++ [d])) := LxSt.word st.out d hA gA vA; clear hA gA vA)
            exact ⟨⟨k + 1, l, fs, ws ++ [d], [], by omega, by simp, rfl, rfl, ⟨by omega, by simp <;> omega, by omega, by simp <;> omega⟩, wok, st, nl⟩, by simp [intOf] <;> omega⟩
        · have hc32 : ¬ s[k] = 32 := fun e => h32 (by rw [e]; rfl)
          have hq32 : ((s[k].toNat : Int) == 32) = false := beq_eq_false_iff_ne.2 h32
          by_cases hlo : (s[k].toNat : Int) < 32
          · have fin : Hid (T = .error l) := (left.out.at hlt).bad hc10 hc32 (by omega)
            have B : Hid (Below w.heap.size w wr) := st.out.b
            clear left hc32 hc10 st wok
            go_wp2
            go_ret3
            exact ⟨_, by rw [fin.out]; rfl, by rw [fin.out]; exact .inl ⟨rfl, rfl⟩, B.out⟩
          · by_cases hhi : (126 : Int) < (s[k].toNat : Int)
            · have fin : Hid (T = .error l) := (left.out.at hlt).bad hc10 hc32 (by omega)
              have B : Hid (Below w.heap.size w wr) := st.out.b
              have q1 : (32 : Int) ≤ (s[k].toNat : Int) := by omega
              clear left hc32 hc10 st wok
              go_wp2
              go_ret3
              exact ⟨_, by rw [fin.out]; rfl, by rw [fin.out]; exact .inl ⟨rfl, rfl⟩, B.out⟩
            · have nl : Hid (LeftK s fs l ws (d ++ [s[k]]) (k + 1) T) := LeftK.of hlt ((left.out.at hlt).byte hc10 hc32 (by omega))
              have q1 : (32 : Int) ≤ (s[k].toNat : Int) := by omega
              have q2 : (s[k].toNat : Int) ≤ 126 := by omega
              have hk1 : (k : Int) + 1 ≤ (s.size : Int) := by omega
              have hadd : ∀ x : World, (Op.stringOp .add (txt d) (s.extract k (k + 1))).run Tryd.prog x = .ok (.string (txt (d ++ [s[k]]))) x := fun x => by
                rw [run_string_add_sum x (txt d) (s.extract k (k + 1)) (by rw [txt_size, ByteArray.size_extract]; omega), txt_cat hlt]
              have dl : Hid (((d ++ [s[k]]).length : Int) ≤ (k : Int) + 1) := by unfold Hid; simp; omega
              clear left hc32 hc10
              generalize d ++ [s[k]] = d' at *
              go_wp2
              exact ⟨⟨k + 1, l, fs, ws, d', by omega, by simp, rfl, rfl, ⟨by omega, by omega, by omega, by have := dl.out; omega⟩, wok, st, nl⟩, by simp [intOf] <;> omega⟩
    · by_cases heq' : k = s.size
      · subst heq'
        have hw63 : ws.length + 1 ≤ maxLen := by unfold maxLen; omega
        have hwby : (ws.length + 1) * 16 ≤ 140737488355328 := by omega
        have hf63 : fs.length + 1 ≤ maxLen := by unfold maxLen; omega
        have hfby : (fs.length + 1) * 32 ≤ 140737488355328 := by omega
        have lf := left.out.end'
        by_cases hd : d = []
        · subst hd
          rw [flush_nil] at lf
          have et : txt [] = ⟨#[]⟩ := rfl
          rw [et]
          by_cases hw : ws = []
          · subst hw
            have nl : Hid (LeftK s (fs) (l + 1) [] [] (s.size + 1) T) := LeftK.past (by rw [close_nil] at lf; rw [lf]; simp)
            rcases own_slice st.out.rw with ⟨rfl, _⟩ | ⟨g, cap, rfl, _⟩
            all_goals
              have st2 := LxSt.letGo st.out
              clear left lf wok hw63 hwby hf63 hfby
              go_wp2
              exact ⟨⟨s.size + 1, l + 1, fs, [], [], by omega, by simp, by simp, rfl, ⟨by omega, by simp <;> omega, by simp <;> omega, by simp <;> omega⟩, (fun d hd => by cases hd), st2, nl⟩, by simp [intOf] <;> omega⟩
          · obtain ⟨c, r, rest, heq0⟩ := head_form wok.out hw
            have heq : Hid (ws = (c :: r) :: rest) := heq0
            rw [heq0] at lf
            obtain ⟨g1, cap1, rfl⟩ := own_row st.out.rw (by rw [heq0]; simp)
            have c0 := str_cell st.out.rw (by rw [heq0]; simp) heq0
            have wl0 : 0 < (ws.length : Int) := by rw [heq0]; simp <;> omega
            have tg := txt_get c r (by rw [txt_size]; simp)
            have ts : 0 < ((txt (c :: r)).size : Int) := by rw [txt_size]; simp <;> omega
            clear heq0 hw
            by_cases hh : (c.toNat : Int) = 35
            · have c35 : c = 35 := u8_eq (n := 35) (by omega) hh
              have nl : Hid (LeftK s (fs) (l + 1) [] [] (s.size + 1) T) := LeftK.past (by rw [close_no c35] at lf; rw [lf]; simp)
              have st2 := LxSt.letGo st.out
              clear left lf wok heq c35 hw63 hwby hf63 hfby st
              go_wp2
              exact ⟨⟨s.size + 1, l + 1, fs, [], [], by omega, by simp, by simp, rfl, ⟨by omega, by simp <;> omega, by simp <;> omega, by simp <;> omega⟩, (fun d hd => by cases hd), st2, nl⟩, by simp [intOf] <;> omega⟩
            · have c35 : ¬ c = 35 := fun e => hh (by rw [e]; rfl)
              rw [close_yes c35] at lf
              rw [← heq.out] at lf
              have nl : Hid (LeftK s (fs ++ [((l, ws), .slice (some ⟨g1, 0, none⟩) ws.length cap1)]) (l + 1) [] [] (s.size + 1) T) := LeftK.past (by rw [lf, map_dn])
              clear left lf wok c35 hw63 hwby
              have hne : ¬ ws = [] := by rw [heq.out]; simp
              clear heq
              go_wp2_with (at_builtin; refine wpList_append_own_at _ rfl _ _ 27 rfl w.heap.size 41 r0 (.agg #[.int .i64 0, .slice none 0 0]) 2 32 Tryd.underlying27 hri hr0 hr1 hr2 rfl (by decide) _ _ _ rfl (World.ownsRow.alloc st.out.ro _) ⟨wr.heap.size, 0, none⟩ 1 1 [.int .i64 (l : Int), .slice (some ⟨g1, 0, none⟩) ws.length cap1] rfl rfl (cell_two_new _ _ _ _) (by simp [Value.oneCell']) hf63 hfby (by have := st.out.b.size; simp; omega) ?_; intro v2 y2 hO gO _ vO; have st2 : Hid (LxSt w y2 41 v2 (.slice none 0 0) (fs ++ [((l, ws), .slice (some ⟨g1, 0, none⟩) ws.length cap1)]) []) := LxSt.line st.out hne l hO gO vO; clear hO gO vO)
              exact ⟨⟨s.size + 1, l + 1, fs ++ [((l, ws), .slice (some ⟨g1, 0, none⟩) ws.length cap1)], [], [], by omega, by simp, by simp, rfl, ⟨by omega, by simp <;> omega, by simp <;> omega, by simp <;> omega⟩, (fun d hd => by cases hd), st2, nl⟩, by simp [intOf] <;> omega⟩
        · have te := txt_emp hd
          have tn := txt_ne hd
          rw [flush_ne hd] at lf
          obtain ⟨c, r, rest, heq0⟩ := head_form (wsok_snoc wok.out hd) (by simp)
          have heq : Hid (ws ++ [d] = (c :: r) :: rest) := heq0
          rw [heq0] at lf
          have wl0 : 0 ≤ (ws.length : Int) := by omega
          have tg := txt_get c r (by rw [txt_size]; simp)
          have ts : 0 < ((txt (c :: r)).size : Int) := by rw [txt_size]; simp <;> omega
          clear heq0
          by_cases hh : (c.toNat : Int) = 35
          · have c35 : c = 35 := u8_eq (n := 35) (by omega) hh
            have nl : Hid (LeftK s (fs) (l + 1) [] [] (s.size + 1) T) := LeftK.past (by rw [close_no c35] at lf; rw [lf]; simp)
            clear left lf wok c35 hf63 hfby
            go_wp2_with (at_builtin; refine wpList_append_own_at _ rfl _ _ 38 rfl w.heap.size 9 i0 (.string ⟨#[]⟩) 1 16 Tryd.underlying38 hi hz0 hz1 hz2 rfl (by decide) _ _ _ rfl (World.ownsRow.alloc st.out.rw _) ⟨wr.heap.size, 0, none⟩ 1 1 [.string (txt d)] rfl rfl (cell_one_new _ _ _) (by simp [Value.oneCell']) hw63 hwby (by have := st.out.b.size; simp; omega) ?_; intro v1 y1 hA gA _ vA; obtain ⟨g1, cap1, rfl⟩ := own_row hA (by omega); have c0 := str_cell2 hA (by omega) heq.out; replace st : Hid (LxSt w y1 41 u5 (.slice (some ⟨g1, 0, none⟩) (ws.length + 1) cap1) fs (ws ++ [d])) := LxSt.word st.out d hA gA vA; clear hA gA vA)
            have st2 := LxSt.letGo st.out
            exact ⟨⟨s.size + 1, l + 1, fs, [], [], by omega, by simp, by simp, rfl, ⟨by omega, by simp <;> omega, by simp <;> omega, by simp <;> omega⟩, (fun d hd => by cases hd), st2, nl⟩, by simp [intOf] <;> omega⟩
          · have c35 : ¬ c = 35 := fun e => hh (by rw [e]; rfl)
            rw [close_yes c35] at lf
            rw [← heq.out] at lf
            clear left wok c35
            replace lf : Hid (T = .ok (fs.map (·.1) ++ [(l, ws ++ [d])])) := lf
            go_wp2_with (first
              | (at_builtin; refine wpList_append_own_at _ rfl _ _ 38 rfl w.heap.size 9 i0 (.string ⟨#[]⟩) 1 16 Tryd.underlying38 hi hz0 hz1 hz2 rfl (by decide) _ _ _ rfl (World.ownsRow.alloc st.out.rw _) ⟨wr.heap.size, 0, none⟩ 1 1 [.string (txt d)] rfl rfl (cell_one_new _ _ _) (by simp [Value.oneCell']) hw63 hwby (by have := st.out.b.size; simp; omega) ?_; intro v1 y1 hA gA _ vA; obtain ⟨g1, cap1, rfl⟩ := own_row hA (by omega); have c0 := str_cell2 hA (by omega) heq.out; replace st : Hid (LxSt w y1 41 u5 (.slice (some ⟨g1, 0, none⟩) (ws.length + 1) cap1) fs (ws ++ [d])) := LxSt.word st.out d hA gA vA; clear hA gA vA)
              | (at_builtin; refine wpList_append_own_at _ rfl _ _ 27 rfl w.heap.size 41 r0 (.agg #[.int .i64 0, .slice none 0 0]) 2 32 Tryd.underlying27 hri hr0 hr1 hr2 rfl (by decide) _ _ _ rfl (World.ownsRow.alloc st.out.ro _) ⟨y1.heap.size, 0, none⟩ 1 1 [.int .i64 (l : Int), .slice (some ⟨g1, 0, none⟩) (ws.length + 1) cap1] rfl rfl (cell_two_new _ _ _ _) (by simp [Value.oneCell']) hf63 hfby (by have := st.out.b.size; simp; omega) ?_; intro v2 y2 hO gO _ vO; have st2 : Hid (LxSt w y2 41 v2 (.slice none 0 0) (fs ++ [((l, ws ++ [d]), .slice (some ⟨g1, 0, none⟩) (ws.length + 1) cap1)]) []) := LxSt.line st.out (by simp) l hO gO vO; clear hO gO vO))
            have nl : Hid (LeftK s (fs ++ [((l, ws ++ [d]), .slice (some ⟨g1, 0, none⟩) (ws.length + 1) cap1)]) (l + 1) [] [] (s.size + 1) T) := LeftK.past (by rw [lf.out, map_dn])
            exact ⟨⟨s.size + 1, l + 1, fs ++ [((l, ws ++ [d]), .slice (some ⟨g1, 0, none⟩) (ws.length + 1) cap1)], [], [], by omega, by simp, by simp, rfl, ⟨by omega, by simp <;> omega, by simp <;> omega, by simp <;> omega⟩, (fun d hd => by cases hd), st2, nl⟩, by simp [intOf] <;> omega⟩
      · obtain rfl : k = s.size + 1 := by omega
        have fin : Hid (T = .ok (fs.map (·.1))) := left.out.out
        have X : Hid (RowsAt wr u5 (fs.map (·.1))) := st.out.rows
        have B : Hid (Below w.heap.size w wr) := st.out.b
        clear left st wok hlt heq'
        go_wp2
        go_ret3
        exact ⟨_, by rw [fin.out]; rfl, by rw [fin.out]; exact X.out, B.out⟩

set_option maxRecDepth 100000 in
set_option maxHeartbeats 2000000 in
theorem rrows_long (s : ByteArray) (w : World) (hs : 4000 < (s.size : Int)) :
    Calls Tryd.prog 9 #[.string s] w fun e w' => e = .returned (.tuple #[.slice none 0 0, .int .i64 0, .int .i64 7]) ∧ w' = w := by
  go_enter Tryd.func9, Tryd.ntmps9
  go_wp2
  go_ret3
  exact ⟨rfl, rfl⟩
theorem rrows_any (s : ByteArray) (w : World) :
    Calls Tryd.prog 9 #[.string s] w fun e w' => ∃ v, e = .returned (.tuple #[v, .int .i64 ((lexLine s.data.toList : Nat) : Int), .int .i64 ((lexErr s.data.toList : Nat) : Int)]) ∧ RowsAt w' v (lexRows s.data.toList) ∧ Below w.heap.size w w' := by
  have hl : s.data.toList.length = s.size := by simp
  by_cases hs : (s.size : Int) ≤ 4000
  · have k := rrows_short s w hs _ rfl
    unfold lexLine lexErr lexRows
    rw [hl, if_pos (by omega), if_pos (by omega), if_pos (by omega)]
    exact k
  · refine (rrows_long s w (by omega)).mono ?_
    rintro e w' ⟨rfl, rfl⟩
    unfold lexLine lexErr lexRows
    rw [hl, if_neg (by omega), if_neg (by omega), if_neg (by omega)]
    exact ⟨_, rfl, .inl ⟨rfl, rfl⟩, Below.refl _ _⟩
end Go.Proofs.YteemaofajcbniaaDoor
