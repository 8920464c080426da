/-
  What the document's own Read returns of bcd and dec (layer 6). Conditions: one to four (of dec eight) bytes, in memory that was there before.
-/
import Derived.Deep.CutRange
import Derived.BigQuiet
import Derived.Deep.QuietTactic
import Derived.Test.YtiimmebcmehnhaaDoorBitRefB
namespace Go.Proofs.YtiimmebcmehnhaaDoor
open Go.RowKit
set_option linter.unusedVariables false

theorem bcd_lt {bs : List Nat} {v : Nat} (h : bcdO bs = some v) : v < 100 ^ bs.length := (bcd_only h).2
theorem hund_small {k : Nat} (h : k ≤ 3) : 100 ^ k ≤ 1000000 := by
  have : 100 ^ k ≤ 100 ^ 3 := Nat.pow_le_pow_right (by omega) h
  omega
theorem bcd_stop {bs : List Nat} {k : Nat} (h : k < bs.length) (hc : ¬ (bs[k] / 16 ≤ 9 ∧ bs[k] % 16 ≤ 9)) : bcdO bs = none := by
  have e : bs = bs.take k ++ bs[k] :: bs.drop (k + 1) := by
    conv => lhs; rw [← List.take_append_drop k bs, List.drop_eq_getElem_cons h]
  rw [e]
  unfold bcdO
  rw [List.foldl_append, List.foldl_cons]
  have : ∀ a, bcdS a bs[k] = none := fun a => by
    cases a with
    | none => rfl
    | some a => unfold bcdS; simp only; rw [if_neg hc]
  rw [this, bcd_none]
theorem drN_cell (w : World) (n : Nat) (a : Addr) : (w.drewN n).cell? a = w.cell? a := rfl
theorem dig_lt {l : List Nat} : ∀ {v : Nat}, digF l = some v → v < 10 ^ l.length := by
  induction l using snoc_ind with
  | h0 => intro v h; have e : (0 : Nat) = v := by simpa [digF] using h
          subst e; decide
  | h1 l c ih =>
    intro v h
    rw [digF_snoc] at h
    cases hb : digF l with
    | none => rw [hb] at h; cases h
    | some a =>
      rw [hb] at h
      unfold decS at h
      simp only at h
      split at h
      · rename_i hc
        have e : 10 * a + (c - 48) = v := by simpa using h
        have := ih hb
        rw [List.length_append, List.length_singleton, Nat.pow_succ]; omega
      · cases h
/-- the bytes from i on, up to k -/
def seg (bs : List Nat) (i k : Nat) : List Nat := (bs.drop i).take (k - i)
theorem seg_next {bs : List Nat} {i k : Nat} (hi : i ≤ k) (hk : k < bs.length) : seg bs i (k + 1) = seg bs i k ++ [bs[k]] := by
  unfold seg
  have e : k + 1 - i = (k - i) + 1 := by omega
  rw [e, take_snoc (bs.drop i) (by rw [List.length_drop]; omega)]
  congr 2
  rw [List.getElem_drop]
  congr 1
  omega
theorem seg_all (bs : List Nat) (i : Nat) : seg bs i bs.length = bs.drop i := by
  unfold seg; exact List.take_of_length_le (by rw [List.length_drop]; omega)
theorem seg_len (bs : List Nat) (i k : Nat) : (seg bs i k).length ≤ k - i := by unfold seg; exact take_len_le _ _
theorem dig_stop {bs : List Nat} {i k : Nat} (hi : i ≤ k) (h : k < bs.length) (hc : ¬ (48 ≤ bs[k] ∧ bs[k] ≤ 57)) : digF (bs.drop i) = none := by
  have e : bs.drop i = seg bs i k ++ bs[k] :: bs.drop (k + 1) := by
    have h1 : (bs.drop i).drop (k - i) = bs.drop k := by rw [List.drop_drop]; congr 1; omega
    conv => lhs; rw [← List.take_append_drop (k - i) (bs.drop i), h1, List.drop_eq_getElem_cons h]
    rfl
  rw [e]
  unfold digF
  rw [List.foldl_append, List.foldl_cons]
  have : ∀ a, decS a bs[k] = none := fun a => by
    cases a with
    | none => rfl
    | some a => unfold decS; simp only; rw [if_neg hc]
  rw [this, dig_none]
theorem ten_small {k : Nat} (h : k ≤ 8) : 10 ^ k ≤ 100000000 := by
  have : 10 ^ k ≤ 10 ^ 8 := Nat.pow_le_pow_right (by omega) h
  omega
/-- what a decimal text is, by where its blanks end -/
theorem bdec_none {bs : List Nat} (h : skipB bs = []) : decO bs = none := by unfold decO; rw [h]
theorem bdec_minus {bs r : List Nat} (h : skipB bs = 45 :: r) : decO bs = (digO r).map (fun n : Nat => -(n : Int)) := by unfold decO; rw [h]; simp only; rw [if_pos trivial]
theorem bdec_plain {bs r : List Nat} {c : Nat} (h : skipB bs = c :: r) (hc : ¬ c = 45) : decO bs = (digO (c :: r)).map (fun n : Nat => (n : Int)) := by unfold decO; rw [h]; simp only; rw [if_neg hc]
theorem dig_some {l : List Nat} (h : ¬ l = []) : digO l = digF l := by unfold digO; rw [if_neg h]

set_option maxRecDepth 100000 in
set_option maxHeartbeats 4000000 in
theorem bread_bcd (w : World) (g o cap : Nat) (bs : List Nat) (hl : 1 ≤ (bs.length : Int) ∧ (bs.length : Int) ≤ 4) (hbs : AllBytes bs) (hb : BytesIn w g o bs) (V : Int) (R : Bool) (hV : V = ((bcdO bs).map (fun n : Nat => (n : Int))).getD 0) (hR : R = (bcdO bs).isSome) :
    Calls Tryd.prog 13 #[.string kBcd, .slice (some ⟨g, o, none⟩) bs.length cap] w fun e w' => e = .returned (.tuple #[.int .i64 V, .bool R]) ∧ Below w.heap.size w w' := by
  have hb' : Hid (BytesIn w g o bs ∧ AllBytes bs) := ⟨hb, hbs⟩
  have hVR : Hid (V = ((bcdO bs).map (fun n : Nat => (n : Int))).getD 0 ∧ R = (bcdO bs).isSome) := ⟨hV, hR⟩
  clear hb hbs hV hR
  go_enter Tryd.func13, Tryd.ntmps13
  go_wp2
  go_loopw [6, 7] (fun a i wr => ∃ k N d : Nat, (k : Int) ≤ (bs.length : Int) ∧ i = .int .i64 (k : Int) ∧ a = .int .i64 (N : Int) ∧ wr = w.drewN d ∧ Hid (bcdO (bs.take k) = some N)) (fun _ i _ => bs.length - (intOf i).toNat)
  case atStart => exact ⟨0, 0, 0, by omega, rfl, rfl, rfl, rfl⟩
  case round =>
    obtain ⟨k, N, d, hk, rfl, rfl, rfl, hv⟩ := hrel
    by_cases hlt : k < bs.length
    · have hki : (k : Int) < (bs.length : Int) := by omega
      have lN : (N : Int) < 1000000 := by
        have h1 := bcd_lt hv.out
        have h2 : 100 ^ (bs.take k).length ≤ 100 ^ k := Nat.pow_le_pow_right (by omega) (take_len_le _ _)
        have h3 := hund_small (k := k) (by omega)
        omega
      have hcell : w.cell? ⟨g, o + k, none⟩ = some (.int .u8 (bs[k] : Int)) := hb'.out.1 k hlt
      have hc : bs[k] < 256 := hb'.out.2 _ (List.getElem_mem hlt)
      have stp : Hid (¬ (bs[k] / 16 ≤ 9 ∧ bs[k] % 16 ≤ 9) → bcdO bs = none) := fun h => bcd_stop hlt h
      have nx : Hid ((bs[k] / 16 ≤ 9 ∧ bs[k] % 16 ≤ 9) → bcdO (bs.take (k + 1)) = some (100 * N + bs[k] / 16 * 10 + bs[k] % 16)) := fun h => by
        rw [take_snoc bs hlt, bcdO_snoc, hv.out]
        unfold bcdS
        simp only
        rw [if_pos h]
      clear hv
      generalize bs[k] = c at *
      obtain ⟨hi, hhi⟩ : ∃ h : Nat, h = c / 16 := ⟨_, rfl⟩
      obtain ⟨lo, hlo⟩ : ∃ l : Nat, l = c % 16 := ⟨_, rfl⟩
      rw [← hhi, ← hlo] at stp nx
      replace stp : Hid (¬ (hi ≤ 9 ∧ lo ≤ 9) → bcdO bs = none) := stp
      replace nx : Hid ((hi ≤ 9 ∧ lo ≤ 9) → bcdO (bs.take (k + 1)) = some (100 * N + hi * 10 + lo)) := nx
      obtain ⟨x, hx⟩ : ∃ x : Int, (c : Int) = x := ⟨_, rfl⟩
      obtain ⟨y, hy⟩ : ∃ y : Int, (hi : Int) = y := ⟨_, rfl⟩
      obtain ⟨z, hz⟩ : ∃ z : Int, (lo : Int) = z := ⟨_, rfl⟩
      rw [hx] at hcell
      have xb : 0 ≤ x ∧ x < 256 := ⟨by omega, by omega⟩
      have yb : 0 ≤ y ∧ y < 16 := ⟨by omega, by omega⟩
      have zb : 0 ≤ z ∧ z < 16 := ⟨by omega, by omega⟩
      have d1 : x / 16 = y := by omega
      have d2 : x % 16 = z := by omega
      have d3 : IntKind.u8.wrap y = y := by simp only [IntKind.wrap_u8']; omega
      have d4 : IntKind.u8.wrap z = z := by simp only [IntKind.wrap_u8']; omega
      have yz : Hid ((hi : Int) = y ∧ (lo : Int) = z) := ⟨hy, hz⟩
      clear hhi hlo
      by_cases h1 : hi ≤ 9
      · have h1i : y ≤ 9 := by omega
        by_cases h2 : lo ≤ 9
        · have h2i : z ≤ 9 := by omega
          replace nx : Hid (bcdO (bs.take (k + 1)) = some (100 * N + hi * 10 + lo)) := nx.out ⟨h1, h2⟩
          have eN : Hid (((100 * N + hi * 10 + lo : Nat) : Int) = 100 * (N : Int) + y * 10 + z) := by unfold Hid; omega
          have g1 : decide (9 < y) = false := by simp; omega
          have g2 : decide (9 < z) = false := by simp; omega
          have m1 : IntKind.i64.wrap (100 * (N : Int)) = 100 * (N : Int) := by simp only [IntKind.wrap_i64]; omega
          have m2 : IntKind.i64.wrap y = y := by simp only [IntKind.wrap_i64]; omega
          have m3 : IntKind.i64.wrap (y * 10) = y * 10 := by simp only [IntKind.wrap_i64]; omega
          have m4 : IntKind.i64.wrap (100 * (N : Int) + y * 10) = 100 * (N : Int) + y * 10 := by simp only [IntKind.wrap_i64]; omega
          have m5 : IntKind.i64.wrap z = z := by simp only [IntKind.wrap_i64]; omega
          have m6 : IntKind.i64.wrap (100 * (N : Int) + y * 10 + z) = 100 * (N : Int) + y * 10 + z := by simp only [IntKind.wrap_i64]; omega
          clear stp h1 h2 hVR hx hy hz yz hc
          go_upto_region 8 with fail
          go_quiet (fail)
          go_wp2
          exact ⟨⟨k + 1, 100 * N + hi * 10 + lo, _, by omega, by simp, by rw [eN.out], rfl, nx⟩, by simp [intOf]; omega⟩
        · have h2i : 9 < z := by omega
          have nn := stp.out (fun h => h2 h.2)
          have fin : Hid (V = 0 ∧ R = false) := by
            have := hVR.out
            rw [nn] at this
            exact this
          clear stp nx nn h1 h2 hVR hx hy hz yz
          go_wp2
          go_ret2
          exact ⟨by rw [fin.out.1, fin.out.2]; rfl, below_dn _ _⟩
      · have h1i : 9 < y := by omega
        have nn := stp.out (fun h => h1 h.1)
        have fin : Hid (V = 0 ∧ R = false) := by
          have := hVR.out
          rw [nn] at this
          exact this
        clear stp nx nn h1 hVR hx hy hz yz
        go_wp2
        go_ret2
        exact ⟨by rw [fin.out.1, fin.out.2]; rfl, below_dn _ _⟩
    · obtain rfl : k = bs.length := by omega
      have fin : Hid (V = (N : Int) ∧ R = true) := by
        have h := hVR.out
        have h2 := hv.out
        rw [List.take_length] at h2
        rw [h2] at h
        exact h
      clear hv hVR hlt hk
      go_wp2
      go_ret2
      exact ⟨by rw [fin.out.1, fin.out.2]; rfl, below_dn _ _⟩
end Go.Proofs.YtiimmebcmehnhaaDoor
