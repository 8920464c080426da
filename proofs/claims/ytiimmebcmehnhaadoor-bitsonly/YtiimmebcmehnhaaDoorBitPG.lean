/-
  What Go's own bytes.TrimLeft, bytes.CutPrefix return where the program's readText calls them (layer 6). Conditions: bytes in memory, few, with room.
-/
import Derived.Test.YtiimmebcmehnhaaDoorBitPF
import Derived.Test.YtiimmebcmehnhaaDoorBitCon
namespace Go.Proofs.YtiimmebcmehnhaaDoor
open Go.RowKit Go.Shelf
set_option linter.unusedVariables false

def slLen : Value → Nat
  | .slice _ l _ => l
  | _ => 0
def TrimV (g o cap : Nat) (bs : List Nat) (y : Value) : Prop :=
  (skipB bs = [] ∧ y = .slice none 0 0) ∨ ∃ i m c, i + m = bs.length ∧ i + c = cap ∧ 1 ≤ m ∧ skipB bs = bs.drop i ∧ y = .slice (some ⟨g, o + i, none⟩) m c
def Blanks (bs : List Nat) (i : Nat) : Prop := ∀ j (hj : j < i) (hl : j < bs.length), bs[j] = 32

set_option maxRecDepth 100000 in
set_option maxHeartbeats 4000000 in
theorem trimB (w : World) (g o cap : Nat) (bs : List Nat) (hl : bs.length ≤ 8) (hc : bs.length ≤ cap) (hm : (cap : Int) ≤ 9223372036854775807) (hbs : AllBytes bs) (hb : BytesIn w g o bs) :
    Calls Tryd.prog 28 #[.slice (some ⟨g, o, none⟩) bs.length cap, .int .u8 32] w fun e w' => ∃ y, e = .returned y ∧ TrimV g o cap bs y ∧ w' = w := by
  have hb' : Hid (BytesIn w g o bs ∧ AllBytes bs) := ⟨hb, hbs⟩
  clear hb hbs
  go_enter Tryd.func28, Tryd.ntmps28
  go_wp2
  go_loopw [0] (fun p wr => ∃ i m c : Nat, i + m = bs.length ∧ i + c = cap ∧ (∃ a, p = .slice a m c ∧ (1 ≤ m → a = some ⟨g, o + i, none⟩)) ∧ wr = w ∧ Hid (Blanks bs i)) (fun p _ => slLen p)
  case atStart => exact ⟨0, bs.length, cap, by omega, by omega, ⟨_, rfl, fun _ => rfl⟩, rfl, fun j hj => by omega⟩
  case round =>
    obtain ⟨i, m, c, h1, h2, ⟨a, rfl, ha⟩, rfl, hz⟩ := hrel
    cases m with
    | zero =>
      clear ha
      have hk : Hid (skipB bs = []) := by
        show _ = _
        rw [skip_drop (i := i) hz.out (by omega) (fun hl => by omega), List.drop_eq_nil_of_le (by omega)]
      go_wp2
      go_ret
      exact ⟨_, rfl, .inl ⟨hk.out, rfl⟩, rfl⟩
    | succ m =>
      obtain rfl := ha (by omega)
      clear ha
      have hi : i < bs.length := by omega
      have hcell := hb'.out.1 i hi
      have hc1 : bs[i] < 256 := hb'.out.2 _ (List.getElem_mem hi)
      obtain ⟨v, hv⟩ : ∃ v, bs[i] = v := ⟨_, rfl⟩
      rw [hv] at hcell hc1
      have hcm : (m : Int) + 1 ≤ (c : Int) := by omega
      by_cases h32 : v = 32
      · subst h32
        have hz2 : Hid (Blanks bs (i + 1)) := fun j hj hjl => by
          by_cases e : j = i
          · subst e; exact hv
          · exact hz.out j (by omega) hjl
        clear hv hz
        go_wp2
        go_roundw
        case rel =>
          refine ⟨i + 1, m, c - 1, by omega, by omega, ⟨_, rfl, fun hm1 => ?_⟩, trivial, hz2⟩
          rw [if_neg (by omega)]; rfl
        case measure => simp [slLen]
      · have hk : Hid (skipB bs = bs.drop i) := skip_drop (i := i) hz.out (by omega) (fun hl => by rw [hv]; exact h32)
        have hne : ¬ (v : Int) = 32 := by omega
        have hbq : ((v : Int) == 32) = false := beq_eq_false_iff_ne.2 hne
        clear hv hz h32
        go_wp2
        go_ret
        exact ⟨_, rfl, .inr ⟨i, m + 1, c, h1, h2, by omega, hk.out, rfl⟩, rfl⟩
set_option maxRecDepth 100000 in
set_option maxHeartbeats 4000000 in
theorem trimL (w : World) (g o cap : Nat) (bs : List Nat) (h1 : 1 ≤ bs.length) (hl : bs.length ≤ 8) (hc : bs.length ≤ cap) (hm : (cap : Int) ≤ 9223372036854775807) (hbs : AllBytes bs) (hb : BytesIn w g o bs) :
    Calls Tryd.prog 22 #[.slice (some ⟨g, o, none⟩) bs.length cap, .string ⟨#[32]⟩] w fun e w' => ∃ y, e = .returned y ∧ TrimV g o cap bs y ∧ w' = w := by
  have cT : Hid (∀ x : World, x = w → Calls Tryd.prog 28 #[.slice (some ⟨g, o, none⟩) bs.length cap, .int .u8 32] x fun e w' => ∃ y, e = .returned y ∧ TrimV g o cap bs y ∧ w' = x) := fun x e => by subst e; exact trimB x g o cap bs hl hc hm hbs hb
  have hz : ((bs.length : Int) == 0) = false := beq_eq_false_iff_ne.2 (by omega)
  clear hbs hb
  go_enter Tryd.func22, Tryd.ntmps22
  go_wp2_with fail
  refine (cT.out _ rfl).mono ?_
  rintro e w1 ⟨y, rfl, hy, rfl⟩
  have hy' : Hid (TrimV g o cap bs y) := hy
  clear hy cT
  go_wp2
  go_ret
  exact ⟨_, rfl, hy'.out, rfl⟩

set_option maxRecDepth 100000 in
set_option maxHeartbeats 4000000 in
theorem equal_any (w : World) (x y : Value) (a b : List Nat) (hx : BytesAt w x a) (hy : BytesAt w y b) (ha : AllBytes a) (hb : AllBytes b) :
    Calls Tryd.prog 43 #[x, y] w fun e w' => e = .returned (.bool (decide (b = a))) ∧ w' = w := by
  have k1 := conv_at hx
  have k2 := conv_at hy
  have k3 := str_eq ha hb
  generalize decide (b = a) = r at *
  clear hx hy ha hb
  go_enter Tryd.func43, Tryd.ntmps43
  go_wp2
  go_ret
  exact ⟨rfl, rfl⟩

/-- a - alone, as readText lays it -/
abbrev dashV (p : Nat) : Value := .slice (some ⟨p, 0, none⟩) 1 1

set_option maxRecDepth 100000 in
set_option maxHeartbeats 4000000 in
theorem hasp_nil (w : World) (p : Nat) : Calls Tryd.prog 32 #[.slice none 0 0, dashV p] w fun e w' => e = .returned (.bool false) ∧ w' = w := by
  go_enter Tryd.func32, Tryd.ntmps32
  go_wp2
  go_ret
  exact ⟨rfl, rfl⟩

set_option maxRecDepth 100000 in
set_option maxHeartbeats 4000000 in
theorem hasp_some (w : World) (p g o m c v : Nat) (hm : 1 ≤ (m : Int)) (hm8 : (m : Int) ≤ 8) (hc : (m : Int) ≤ (c : Int)) (hcm : (c : Int) ≤ 9223372036854775807) (r : Bool) (cE : Hid (Calls Tryd.prog 43 #[.slice (some ⟨g, o, none⟩) 1 c, dashV p] w fun e w' => e = .returned (.bool r) ∧ w' = w)) :
    Calls Tryd.prog 32 #[.slice (some ⟨g, o, none⟩) m c, dashV p] w fun e w' => e = .returned (.bool r) ∧ w' = w := by
  go_enter Tryd.func32, Tryd.ntmps32
  go_wp2_with fail
  refine cE.out.mono ?_
  rintro e w1 ⟨rfl, rfl⟩
  go_wp2
  go_ret
  exact ⟨rfl, rfl⟩

set_option maxRecDepth 100000 in
set_option maxHeartbeats 4000000 in
theorem cutp_nil (w : World) (p : Nat) : Calls Tryd.prog 23 #[.slice none 0 0, dashV p] w fun e w' => e = .returned (.tuple #[.slice none 0 0, .bool false]) ∧ w' = w := by
  go_enter Tryd.func23, Tryd.ntmps23
  go_wp2_with fail
  refine (hasp_nil _ p).mono ?_
  rintro e w1 ⟨rfl, rfl⟩
  go_wp2
  go_ret2
  exact ⟨rfl, rfl⟩

set_option maxRecDepth 100000 in
set_option maxHeartbeats 4000000 in
theorem cutp_no (w : World) (p g o m c : Nat) (cH : Hid (Calls Tryd.prog 32 #[.slice (some ⟨g, o, none⟩) m c, dashV p] w fun e w' => e = .returned (.bool false) ∧ w' = w)) :
    Calls Tryd.prog 23 #[.slice (some ⟨g, o, none⟩) m c, dashV p] w fun e w' => e = .returned (.tuple #[.slice (some ⟨g, o, none⟩) m c, .bool false]) ∧ w' = w := by
  go_enter Tryd.func23, Tryd.ntmps23
  go_wp2_with fail
  refine cH.out.mono ?_
  rintro e w1 ⟨rfl, rfl⟩
  go_wp2
  go_ret2
  exact ⟨rfl, rfl⟩

set_option maxRecDepth 100000 in
set_option maxHeartbeats 4000000 in
theorem cutp_yes (w : World) (p g o m c : Nat) (hm8 : (m : Int) ≤ 8) (hc : (m : Int) + 1 ≤ (c : Int)) (hcm : (c : Int) ≤ 9223372036854775807) (cH : Hid (Calls Tryd.prog 32 #[.slice (some ⟨g, o, none⟩) (m + 1) c, dashV p] w fun e w' => e = .returned (.bool true) ∧ w' = w)) :
    Calls Tryd.prog 23 #[.slice (some ⟨g, o, none⟩) (m + 1) c, dashV p] w fun e w' => e = .returned (.tuple #[.slice (some (if c = 1 then ⟨g, o, none⟩ else ⟨g, o + 1, none⟩)) m (c - 1), .bool true]) ∧ w' = w := by
  by_cases h : c = 1
  · rw [if_pos h]
    subst h
    obtain rfl : m = 0 := by omega
    go_enter Tryd.func23, Tryd.ntmps23
    go_wp2_with fail
    refine cH.out.mono ?_
    rintro e w1 ⟨rfl, rfl⟩
    go_wp2
    go_ret2
    exact ⟨rfl, rfl⟩
  · rw [if_neg h]
    go_enter Tryd.func23, Tryd.ntmps23
    go_wp2_with fail
    refine cH.out.mono ?_
    rintro e w1 ⟨rfl, rfl⟩
    go_wp2
    go_ret2
    exact ⟨rfl, rfl⟩
/-- what is left behind the blanks -/
def trimY (g o cap : Nat) (bs : List Nat) : Value := if skipB bs = [] then .slice none 0 0 else .slice (some ⟨g, o + (bs.length - (skipB bs).length), none⟩) (skipB bs).length (cap - (bs.length - (skipB bs).length))
theorem trimV_is {g o cap : Nat} {bs : List Nat} {y : Value} (h : TrimV g o cap bs y) : y = trimY g o cap bs := by
  unfold trimY
  rcases h with ⟨h1, h2⟩ | ⟨i, m, c, h1, h2, h3, h4, h5⟩
  · rw [if_pos h1]; exact h2
  · have hl : (skipB bs).length = m := by rw [h4, List.length_drop]; omega
    rw [if_neg (fun e => by rw [e] at hl; simp at hl; omega), hl, show bs.length - m = i by omega, show cap - i = c by omega]
    exact h5
theorem skip_le (bs : List Nat) : (skipB bs).length ≤ bs.length ∧ skipB bs = bs.drop (bs.length - (skipB bs).length) := by
  have h : skipB bs <:+ bs := List.dropWhile_suffix _
  exact ⟨h.length_le, List.suffix_iff_eq_drop.1 h⟩
theorem trimL' (w : World) (g o cap : Nat) (bs : List Nat) (h1 : 1 ≤ bs.length) (hl : bs.length ≤ 8) (hc : bs.length ≤ cap) (hm : (cap : Int) ≤ 9223372036854775807) (hbs : AllBytes bs) (hb : BytesIn w g o bs) :
    Calls Tryd.prog 22 #[.slice (some ⟨g, o, none⟩) bs.length cap, .string ⟨#[32]⟩] w fun e w' => e = .returned (trimY g o cap bs) ∧ w' = w :=
  (trimL w g o cap bs h1 hl hc hm hbs hb).mono fun e w' ⟨y, he, hy, hw⟩ => ⟨by rw [he, trimV_is hy], hw⟩
end Go.Proofs.YtiimmebcmehnhaaDoor
