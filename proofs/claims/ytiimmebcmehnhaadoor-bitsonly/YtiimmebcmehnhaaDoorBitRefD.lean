/-
  What the document's own Read returns of dec, and of any right kind (layer 6). Conditions: one to eight bytes, in memory that was there before.
-/
import Derived.Test.YtiimmebcmehnhaaDoorBitRefC
namespace Go.Proofs.YtiimmebcmehnhaaDoor
open Go.RowKit
set_option linter.unusedVariables false

set_option maxRecDepth 100000 in
set_option maxHeartbeats 8000000 in
theorem bread_dec (w : World) (g o cap : Nat) (bs : List Nat) (hl : 1 ≤ (bs.length : Int) ∧ (bs.length : Int) ≤ 8) (hbs : AllBytes bs) (hb : BytesIn w g o bs) (V : Int) (R : Bool) (hV : V = (decO bs).getD 0) (hR : R = (decO bs).isSome) :
    Calls Tryd.prog 13 #[.string kDec, .slice (some ⟨g, o, none⟩) bs.length cap] w fun e w' => e = .returned (.tuple #[.int .i64 V, .bool R]) ∧ w' = w := by
  have hb' : Hid (BytesIn w g o bs ∧ AllBytes bs) := ⟨hb, hbs⟩
  have hVR : Hid (V = (decO bs).getD 0 ∧ R = (decO bs).isSome) := ⟨hV, hR⟩
  clear hb hbs hV hR
  go_enter Tryd.func13, Tryd.ntmps13
  go_wp2
  go_loop [8] (fun i => ∃ k : Nat, (k : Int) ≤ (bs.length : Int) ∧ i = .int .i64 (k : Int) ∧ Hid (∀ j (hj : j < k) (hl : j < bs.length), bs[j] = 32)) (fun i => bs.length - (intOf i).toNat)
  case atStart => exact ⟨0, by omega, rfl, fun j hj => by omega⟩
  case round =>
    obtain ⟨i, hi, rfl, hbl⟩ := hrel
    by_cases hlt : i < bs.length
    · have hii : (i : Int) < (bs.length : Int) := by omega
      have hcell0 := hb'.out.1 i hlt
      have hc : bs[i] < 256 := hb'.out.2 _ (List.getElem_mem hlt)
      by_cases hsp : bs[i] = 32
      · have nx : Hid (∀ j (hj : j < i + 1) (hl : j < bs.length), bs[j] = 32) := fun j hj hl2 => by
          rcases Nat.lt_or_ge j i with h | h
          · exact hbl.out j h hl2
          · obtain rfl : j = i := by omega
            exact hsp
        have hcell : w.cell? ⟨g, o + i, none⟩ = some (.int .u8 32) := by rw [hcell0, hsp]; rfl
        clear hbl hVR hcell0 hsp hc
        go_wp2
        exact ⟨⟨i + 1, by omega, by simp, nx⟩, by simp [intOf]; omega⟩
      · have sk : skipB bs = bs[i] :: bs.drop (i + 1) := by
          rw [skip_drop hbl.out (by omega) (fun _ => hsp), List.drop_eq_getElem_cons hlt]
        by_cases hm : bs[i] = 45
        · rw [hm] at sk
          have eD := bdec_minus sk
          have hcell : w.cell? ⟨g, o + i, none⟩ = some (.int .u8 45) := by rw [hcell0, hm]; rfl
          clear hbl hcell0 hsp hc sk hm
          by_cases hend : i + 1 = bs.length
          · have e1 : bs.drop (i + 1) = [] := List.drop_eq_nil_of_le (by omega)
            have fin : Hid (V = 0 ∧ R = false) := by
              have := hVR.out
              rw [eD, e1] at this
              exact this
            have hei : (i : Int) + 1 = (bs.length : Int) := by omega
            clear eD e1 hVR hend
            go_wp2
            go_ret2
            exact ⟨by rw [fin.out.1, fin.out.2]; rfl, rfl⟩
          · have hD : Hid (V = ((digF (bs.drop (i + 1))).map (fun n : Nat => -(n : Int))).getD 0 ∧ R = ((digF (bs.drop (i + 1))).map (fun n : Nat => -(n : Int))).isSome) := by
              have h := hVR.out
              rw [eD, dig_some (by rw [List.drop_eq_nil_iff]; omega)] at h
              exact h
            have hei : ¬ (i : Int) + 1 = (bs.length : Int) := by omega
            have hel : (i : Int) + 1 < (bs.length : Int) := by omega
            clear eD hVR hend
            go_wp2
            go_loop [6, 8] (fun a q => ∃ k N : Nat, i + 1 ≤ k ∧ (k : Int) ≤ (bs.length : Int) ∧ q = .int .i64 (k : Int) ∧ a = .int .i64 (N : Int) ∧ Hid (digF (seg bs (i + 1) k) = some N)) (fun _ q => bs.length - (intOf q).toNat)
            case atStart => exact ⟨i + 1, 0, by omega, by omega, by simp, rfl, by unfold Hid seg; simp [digF]⟩
            case round =>
              obtain ⟨k, N, hk0, hk, rfl, rfl, hv⟩ := hrel
              have lN : (N : Int) < 100000000 := by
                have h1 := dig_lt hv.out
                have h2 : 10 ^ (seg bs (i + 1) k).length ≤ 10 ^ 8 := Nat.pow_le_pow_right (by omega) (by have := seg_len bs (i + 1) k; omega)
                omega
              by_cases hlt : k < bs.length
              · have hki : (k : Int) < (bs.length : Int) := by omega
                have lN7 : (N : Int) < 10000000 := by
                  have h1 := dig_lt hv.out
                  have h2 : 10 ^ (seg bs (i + 1) k).length ≤ 10 ^ 7 := Nat.pow_le_pow_right (by omega) (by have := seg_len bs (i + 1) k; omega)
                  omega
                have hcell := hb'.out.1 k hlt
                have hc : bs[k] < 256 := hb'.out.2 _ (List.getElem_mem hlt)
                have stp : Hid (¬ (48 ≤ bs[k] ∧ bs[k] ≤ 57) → digF (bs.drop (i + 1)) = none) := fun h => dig_stop hk0 hlt h
                have nx : Hid ((48 ≤ bs[k] ∧ bs[k] ≤ 57) → digF (seg bs (i + 1) (k + 1)) = some (10 * N + (bs[k] - 48))) := fun h => by
                  rw [seg_next hk0 hlt, digF_snoc, hv.out]
                  unfold decS
                  simp only
                  rw [if_pos h]
                clear hv
                generalize bs[k] = c at *
                obtain ⟨x, hx⟩ : ∃ x : Int, (c : Int) = x := ⟨_, rfl⟩
                rw [hx] at hcell
                have xb : 0 ≤ x ∧ x < 256 := ⟨by omega, by omega⟩
                by_cases h1 : 48 ≤ c
                · by_cases h2 : c ≤ 57
                  · have q1 : decide (x < 48) = false := by simp; omega
                    have q2 : decide (57 < x) = false := by simp; omega
                    replace nx : Hid (digF (seg bs (i + 1) (k + 1)) = some (10 * N + (c - 48))) := nx.out ⟨h1, h2⟩
                    have eN : Hid (((10 * N + (c - 48) : Nat) : Int) = 10 * (N : Int) + x - 48) := by unfold Hid; omega
                    have xd : 48 ≤ x ∧ x ≤ 57 := ⟨by omega, by omega⟩
                    clear stp h1 h2 hx hD hc
                    go_wp2
                    exact ⟨⟨k + 1, 10 * N + (c - 48), by omega, by omega, by simp, by rw [eN.out], nx⟩, by simp [intOf]; omega⟩
                  · have q1 : decide (x < 48) = false := by simp; omega
                    have q2 : 57 < x := by omega
                    have nn := stp.out (fun h => h2 h.2)
                    have fin : Hid (V = 0 ∧ R = false) := by
                      have := hD.out
                      rw [nn] at this
                      exact this
                    clear stp nx nn h1 h2 hD hx
                    go_wp2
                    go_ret2
                    exact ⟨by rw [fin.out.1, fin.out.2]; rfl, rfl⟩
                · have q1 : x < 48 := by omega
                  have nn := stp.out (fun h => h1 h.1)
                  have fin : Hid (V = 0 ∧ R = false) := by
                    have := hD.out
                    rw [nn] at this
                    exact this
                  clear stp nx nn h1 hD hx
                  go_wp2
                  go_ret2
                  exact ⟨by rw [fin.out.1, fin.out.2]; rfl, rfl⟩
              · obtain rfl : k = bs.length := by omega
                have fin : Hid (V = -(N : Int) ∧ R = true) := by
                  have h := hD.out
                  have h2 := hv.out
                  rw [seg_all] at h2
                  rw [h2] at h
                  exact h
                clear hv hD hlt hk
                go_wp2
                go_ret2
                exact ⟨by rw [fin.out.1, fin.out.2]; rfl, rfl⟩
        · have eD := bdec_plain sk hm
          have h45 : ¬ (bs[i] : Int) = 45 := by omega
          have h32 : ¬ (bs[i] : Int) = 32 := by omega
          have hD : Hid (V = ((digF (bs.drop i)).map (fun n : Nat => (n : Int))).getD 0 ∧ R = ((digF (bs.drop i)).map (fun n : Nat => (n : Int))).isSome) := by
            have h := hVR.out
            rw [eD, ← List.drop_eq_getElem_cons hlt, dig_some (by rw [List.drop_eq_nil_iff]; omega)] at h
            exact h
          have hne : ¬ (i : Int) = (bs.length : Int) := by omega
          clear hbl eD sk hsp hm hVR
          generalize bs[i] = c0 at *
          have q45 : ((c0 : Int) == 45) = false := beq_eq_false_iff_ne.2 h45
          have q32 : ((c0 : Int) == 32) = false := beq_eq_false_iff_ne.2 h32
          go_wp2
          go_loop [6, 8] (fun a q => ∃ k N : Nat, i ≤ k ∧ (k : Int) ≤ (bs.length : Int) ∧ q = .int .i64 (k : Int) ∧ a = .int .i64 (N : Int) ∧ Hid (digF (seg bs (i) k) = some N)) (fun _ q => bs.length - (intOf q).toNat)
          case atStart => exact ⟨i, 0, by omega, by omega, rfl, rfl, by unfold Hid seg; simp [digF]⟩
          case round =>
            obtain ⟨k, N, hk0, hk, rfl, rfl, hv⟩ := hrel
            have lN : (N : Int) < 100000000 := by
              have h1 := dig_lt hv.out
              have h2 : 10 ^ (seg bs (i) k).length ≤ 10 ^ 8 := Nat.pow_le_pow_right (by omega) (by have := seg_len bs (i) k; omega)
              omega
            by_cases hlt : k < bs.length
            · have hki : (k : Int) < (bs.length : Int) := by omega
              have lN7 : (N : Int) < 10000000 := by
                have h1 := dig_lt hv.out
                have h2 : 10 ^ (seg bs (i) k).length ≤ 10 ^ 7 := Nat.pow_le_pow_right (by omega) (by have := seg_len bs (i) k; omega)
                omega
              have hcell := hb'.out.1 k hlt
              have hc : bs[k] < 256 := hb'.out.2 _ (List.getElem_mem hlt)
              have stp : Hid (¬ (48 ≤ bs[k] ∧ bs[k] ≤ 57) → digF (bs.drop (i)) = none) := fun h => dig_stop hk0 hlt h
              have nx : Hid ((48 ≤ bs[k] ∧ bs[k] ≤ 57) → digF (seg bs (i) (k + 1)) = some (10 * N + (bs[k] - 48))) := fun h => by
                rw [seg_next hk0 hlt, digF_snoc, hv.out]
                unfold decS
                simp only
                rw [if_pos h]
              clear hv
              generalize bs[k] = c at *
              obtain ⟨x, hx⟩ : ∃ x : Int, (c : Int) = x := ⟨_, rfl⟩
              rw [hx] at hcell
              have xb : 0 ≤ x ∧ x < 256 := ⟨by omega, by omega⟩
              by_cases h1 : 48 ≤ c
              · by_cases h2 : c ≤ 57
                · have q1 : decide (x < 48) = false := by simp; omega
                  have q2 : decide (57 < x) = false := by simp; omega
                  replace nx : Hid (digF (seg bs (i) (k + 1)) = some (10 * N + (c - 48))) := nx.out ⟨h1, h2⟩
                  have eN : Hid (((10 * N + (c - 48) : Nat) : Int) = 10 * (N : Int) + x - 48) := by unfold Hid; omega
                  have xd : 48 ≤ x ∧ x ≤ 57 := ⟨by omega, by omega⟩
                  clear stp h1 h2 hx hD hc
                  go_wp2
                  exact ⟨⟨k + 1, 10 * N + (c - 48), by omega, by omega, by simp, by rw [eN.out], nx⟩, by simp [intOf]; omega⟩
                · have q1 : decide (x < 48) = false := by simp; omega
                  have q2 : 57 < x := by omega
                  have nn := stp.out (fun h => h2 h.2)
                  have fin : Hid (V = 0 ∧ R = false) := by
                    have := hD.out
                    rw [nn] at this
                    exact this
                  clear stp nx nn h1 h2 hD hx
                  go_wp2
                  go_ret2
                  exact ⟨by rw [fin.out.1, fin.out.2]; rfl, rfl⟩
              · have q1 : x < 48 := by omega
                have nn := stp.out (fun h => h1 h.1)
                have fin : Hid (V = 0 ∧ R = false) := by
                  have := hD.out
                  rw [nn] at this
                  exact this
                clear stp nx nn h1 hD hx
                go_wp2
                go_ret2
                exact ⟨by rw [fin.out.1, fin.out.2]; rfl, rfl⟩
            · obtain rfl : k = bs.length := by omega
              have fin : Hid (V = (N : Int) ∧ R = true) := by
                have h := hD.out
                have h2 := hv.out
                rw [seg_all] at h2
                rw [h2] at h
                exact h
              clear hv hD hlt hk
              go_wp2
              go_ret2
              exact ⟨by rw [fin.out.1, fin.out.2]; rfl, rfl⟩
    · obtain rfl : i = bs.length := by omega
      have sk : skipB bs = [] := by
        rw [skip_drop hbl.out (Nat.le_refl _) (fun h => absurd h (Nat.lt_irrefl _)), List.drop_eq_nil_of_le (Nat.le_refl _)]
      have fin : Hid (V = 0 ∧ R = false) := by
        have := hVR.out
        rw [bdec_none sk] at this
        exact this
      clear hbl sk hVR hlt
      go_wp2
      go_ret2
      exact ⟨by rw [fin.out.1, fin.out.2]; rfl, rfl⟩

theorem bread_any (s : ByteArray) (v : Value) (bs : List Nat) (w : World) (hr : rgtB (kindI s) bs.length = true) (hv : BytesAt w v bs) (hb : AllBytes bs) :
    Calls Tryd.prog 13 #[.string s, v] w fun e w' => e = .returned (.tuple #[.int .i64 ((readO (kindI s) bs).getD 0), .bool (readO (kindI s) bs).isSome]) ∧ Below w.heap.size w w' := by
  have hl : 1 ≤ (bs.length : Int) := by rcases rgt_cases hr with h | h <;> omega
  obtain ⟨g, o, cap, rfl, h1, _⟩ : ∃ g o cap, v = .slice (some ⟨g, o, none⟩) bs.length cap ∧ BytesIn w g o bs ∧ g < w.heap.size := by
    rcases hv with ⟨_, rfl⟩ | h
    · simp at hl
    · exact h
  have sm : ∀ {f : FuncId} {args : Array Value} {v : Value}, (Calls Tryd.prog f args w fun e w' => e = .returned v ∧ w' = w) → Calls Tryd.prog f args w fun e w' => e = .returned v ∧ Below w.heap.size w w' := fun h => h.mono fun _ _ ⟨a, b⟩ => ⟨a, by rw [b]; exact Below.refl _ _⟩
  rcases kind_cases s with rfl | rfl | rfl | rfl | rfl | rfl | hs
  · rw [kind_be] at *
    exact sm (bread_be w g o cap bs (by rcases rgt_cases hr with h | h <;> omega) hb h1)
  · rw [kind_le] at *
    exact sm (bread_le w g o cap bs (by rcases rgt_cases hr with h | h <;> omega) hb h1)
  · rw [kind_sbe] at *
    exact sm (bread_sbe w g o cap bs (by rcases rgt_cases hr with h | h <;> omega) hb h1)
  · rw [kind_sle] at *
    exact sm (bread_sle w g o cap bs (by rcases rgt_cases hr with h | h <;> omega) hb h1)
  · rw [kind_bcd] at *
    exact bread_bcd w g o cap bs (by rcases rgt_cases hr with h | h <;> omega) hb h1 _ _ rfl (by show ((bcdO bs).map _).isSome = _; rw [Option.isSome_map])
  · rw [kind_dec] at *
    exact sm (bread_dec w g o cap bs (by rcases rgt_cases hr with h | h <;> omega) hb h1 _ _ rfl rfl)
  · rw [kind_no hs] at hr; cases hr
end Go.Proofs.YtiimmebcmehnhaaDoor
