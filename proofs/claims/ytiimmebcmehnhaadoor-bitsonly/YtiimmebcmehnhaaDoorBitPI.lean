/-
  What the program's own Read returns (layer 6): what the document reads. Conditions: bytes in memory that was there before, with room.
-/
import Derived.Test.YtiimmebcmehnhaaDoorBitPB
import Derived.Test.YtiimmebcmehnhaaDoorBitPE0
import Derived.Test.YtiimmebcmehnhaaDoorBitPE1
import Derived.Test.YtiimmebcmehnhaaDoorBitPE2
import Derived.Test.YtiimmebcmehnhaaDoorBitPE3
import Derived.Test.YtiimmebcmehnhaaDoorBitPE4
import Derived.Test.YtiimmebcmehnhaaDoorBitPH
namespace Go.Proofs.YtiimmebcmehnhaaDoor
open Go.RowKit Go.Shelf
set_option linter.unusedVariables false

def RtC (s : ByteArray) (n : Int) (r : Bool) : Prop := ∀ x : World, Calls Tryd.prog 11 #[.string s, .int .i64 n] x fun e w' => e = .returned (.bool r) ∧ w' = x
def EdC (s : ByteArray) (n lo hi : Int) : Prop := ∀ x : World, Calls Tryd.prog 9 #[.string s, .int .i64 n] x fun e w' => e = .returned (.tuple #[.int .i64 lo, .int .i64 hi]) ∧ w' = x
def PwC (b n p : Int) : Prop := ∀ x : World, Calls Tryd.prog 17 #[.int .i64 b, .int .i64 n] x fun e w' => e = .returned (.int .i64 p) ∧ w' = x
def ToC (w : World) (s : ByteArray) (v : Value) (n : Int) (r : Bool) : Prop := Calls Tryd.prog 16 #[.string s, v] w fun e w' => e = .returned (.tuple #[.int .i64 n, .bool r]) ∧ Below w.heap.size w w'
theorem power_256 {L : Nat} (h1 : 1 ≤ L) (h4 : L ≤ 4) : PwC 256 (L : Int) ((256 ^ L : Nat) : Int) := by
  have : L = 1 ∨ L = 2 ∨ L = 3 ∨ L = 4 := by omega
  rcases this with rfl | rfl | rfl | rfl
  · exact power_256_1
  · exact power_256_2
  · exact power_256_3
  · exact power_256_4

set_option maxRecDepth 100000 in
set_option maxHeartbeats 4000000 in
theorem pread_no (w : World) (s : ByteArray) (a : Option Addr) (L cap : Nat) (cR : RtC s (L : Int) false) :
    Calls Tryd.prog 8 #[.string s, .slice a L cap] w fun e w' => e = .returned (.tuple #[.int .i64 0, .int .i64 1]) ∧ Below w.heap.size w w' := by
  go_enter Tryd.func8, Tryd.ntmps8
  go_wp2_with fail
  refine (cR _).mono ?_
  rintro e w1 ⟨rfl, rfl⟩
  clear cR
  go_wp2
  go_ret2
  exact ⟨rfl, Below.refl _ _⟩

set_option maxRecDepth 100000 in
set_option maxHeartbeats 4000000 in
theorem pread_dec (w : World) (a : Option Addr) (L cap : Nat) (N E : Int) (cR : RtC kDec (L : Int) true) (cX : Hid (Calls Tryd.prog 15 #[.slice a L cap] w fun e w' => e = .returned (.tuple #[.int .i64 N, .int .i64 E]) ∧ Below w.heap.size w w')) :
    Calls Tryd.prog 8 #[.string kDec, .slice a L cap] w fun e w' => e = .returned (.tuple #[.int .i64 N, .int .i64 E]) ∧ Below w.heap.size w w' := by
  go_enter Tryd.func8, Tryd.ntmps8
  go_wp2_with fail
  refine (cR _).mono ?_
  rintro e w1 ⟨rfl, rfl⟩
  clear cR
  go_wp2_with fail
  refine cX.out.mono ?_
  rintro e w2 ⟨rfl, hb⟩
  have B : Hid (Below w1.heap.size w1 w2) := hb
  clear cX hb
  go_wp2
  go_ret2
  exact ⟨rfl, B.out⟩

set_option maxRecDepth 100000 in
set_option maxHeartbeats 4000000 in
theorem pread_bad (w : World) (s : ByteArray) (a : Option Addr) (L cap : Nat) (nd : (s.toList == [100, 101, 99]) = false) (cR : RtC s (L : Int) true) (cT : ToC w s (.slice a L cap) 0 false) :
    Calls Tryd.prog 8 #[.string s, .slice a L cap] w fun e w' => e = .returned (.tuple #[.int .i64 0, .int .i64 6]) ∧ Below w.heap.size w w' := by
  go_enter Tryd.func8, Tryd.ntmps8
  go_wp2_with fail
  refine (cR _).mono ?_
  rintro e w1 ⟨rfl, rfl⟩
  clear cR
  go_wp2_with fail
  refine cT.mono ?_
  rintro e w2 ⟨rfl, hb⟩
  have B : Hid (Below w1.heap.size w1 w2) := hb
  clear cT hb
  go_wp2
  go_ret2
  exact ⟨rfl, B.out⟩

set_option maxRecDepth 100000 in
set_option maxHeartbeats 4000000 in
theorem pread_plain (w : World) (s : ByteArray) (a : Option Addr) (L cap : Nat) (nd : (s.toList == [100, 101, 99]) = false) (N lo hi : Int) (hN : N ≤ hi) (cR : RtC s (L : Int) true) (cT : ToC w s (.slice a L cap) N true) (cE : EdC s (L : Int) lo hi) :
    Calls Tryd.prog 8 #[.string s, .slice a L cap] w fun e w' => e = .returned (.tuple #[.int .i64 N, .int .i64 0]) ∧ Below w.heap.size w w' := by
  go_enter Tryd.func8, Tryd.ntmps8
  go_wp2_with fail
  refine (cR _).mono ?_
  rintro e w1 ⟨rfl, rfl⟩
  clear cR
  go_wp2_with fail
  refine cT.mono ?_
  rintro e w2 ⟨rfl, hb⟩
  have B : Hid (Below w1.heap.size w1 w2) := hb
  clear cT hb
  go_wp2_with fail
  refine (cE _).mono ?_
  rintro e w3 ⟨rfl, rfl⟩
  clear cE
  go_wp2
  go_ret2
  exact ⟨rfl, B.out⟩

set_option maxRecDepth 100000 in
set_option maxHeartbeats 4000000 in
theorem pread_sign (w : World) (s : ByteArray) (a : Option Addr) (L cap : Nat) (nd : (s.toList == [100, 101, 99]) = false) (N lo hi p : Int) (hN : hi < N) (hb1 : 0 ≤ N ∧ N ≤ 4294967296) (hb2 : 0 ≤ p ∧ p ≤ 4294967296) (cR : RtC s (L : Int) true) (cT : ToC w s (.slice a L cap) N true) (cE : EdC s (L : Int) lo hi) (cP : PwC 256 (L : Int) p) :
    Calls Tryd.prog 8 #[.string s, .slice a L cap] w fun e w' => e = .returned (.tuple #[.int .i64 (N - p), .int .i64 0]) ∧ Below w.heap.size w w' := by
  go_enter Tryd.func8, Tryd.ntmps8
  go_wp2_with fail
  refine (cR _).mono ?_
  rintro e w1 ⟨rfl, rfl⟩
  clear cR
  go_wp2_with fail
  refine cT.mono ?_
  rintro e w2 ⟨rfl, hb⟩
  have B : Hid (Below w1.heap.size w1 w2) := hb
  clear cT hb
  go_wp2_with fail
  refine (cE _).mono ?_
  rintro e w3 ⟨rfl, rfl⟩
  clear cE
  go_wp2_with fail
  refine (cP _).mono ?_
  rintro e w4 ⟨rfl, rfl⟩
  clear cP
  go_wp2
  go_ret2
  exact ⟨rfl, B.out⟩
theorem ptotal_be (w : World) (g o cap : Nat) (bs : List Nat) (hl : bs.length ≤ 4) (hg : g < w.heap.size) (hbs : AllBytes bs) (hb : BytesIn w g o bs) : ToC w kBe (.slice (some ⟨g, o, none⟩) bs.length cap) (totN 0 256 bs) (okAll 0 bs) :=
  (callsIn_wide (n := 3)).1 (total_be _ 3 trivial trivial trivial trivial trivial rfl (Nat.le_refl _) w g o cap bs hl hg hbs hb)
theorem ptotal_le (w : World) (g o cap : Nat) (bs : List Nat) (hl : bs.length ≤ 4) (hg : g < w.heap.size) (hbs : AllBytes bs) (hb : BytesIn w g o bs) : ToC w kLe (.slice (some ⟨g, o, none⟩) bs.length cap) (totN 1 256 bs) (okAll 1 bs) :=
  (callsIn_wide (n := 3)).1 (total_le _ 3 trivial trivial trivial trivial trivial rfl (Nat.le_refl _) w g o cap bs hl hg hbs hb)
theorem ptotal_sbe (w : World) (g o cap : Nat) (bs : List Nat) (hl : bs.length ≤ 4) (hg : g < w.heap.size) (hbs : AllBytes bs) (hb : BytesIn w g o bs) : ToC w kSbe (.slice (some ⟨g, o, none⟩) bs.length cap) (totN 2 256 bs) (okAll 2 bs) :=
  (callsIn_wide (n := 3)).1 (total_sbe _ 3 trivial trivial trivial trivial trivial rfl (Nat.le_refl _) w g o cap bs hl hg hbs hb)
theorem ptotal_sle (w : World) (g o cap : Nat) (bs : List Nat) (hl : bs.length ≤ 4) (hg : g < w.heap.size) (hbs : AllBytes bs) (hb : BytesIn w g o bs) : ToC w kSle (.slice (some ⟨g, o, none⟩) bs.length cap) (totN 3 256 bs) (okAll 3 bs) :=
  (callsIn_wide (n := 3)).1 (total_sle _ 3 trivial trivial trivial trivial trivial rfl (Nat.le_refl _) w g o cap bs hl hg hbs hb)
theorem ptotal_bcd (w : World) (g o cap : Nat) (bs : List Nat) (hl : bs.length ≤ 4) (hg : g < w.heap.size) (hbs : AllBytes bs) (hb : BytesIn w g o bs) : ToC w kBcd (.slice (some ⟨g, o, none⟩) bs.length cap) (totN 4 100 bs) (okAll 4 bs) :=
  (callsIn_wide (n := 3)).1 (total_bcd _ 3 trivial trivial trivial trivial trivial rfl (Nat.le_refl _) w g o cap bs hl hg hbs hb)
theorem nd_be : (kBe.toList == [100, 101, 99]) = false := by rw [ByteArray.toList_eq]; decide
theorem nd_le : (kLe.toList == [100, 101, 99]) = false := by rw [ByteArray.toList_eq]; decide
theorem nd_sbe : (kSbe.toList == [100, 101, 99]) = false := by rw [ByteArray.toList_eq]; decide
theorem nd_sle : (kSle.toList == [100, 101, 99]) = false := by rw [ByteArray.toList_eq]; decide
theorem nd_bcd : (kBcd.toList == [100, 101, 99]) = false := by rw [ByteArray.toList_eq]; decide
theorem nd_of {s : ByteArray} (h : ¬ s = kDec) : (s.toList == [100, 101, 99]) = false := not_kDec h
theorem rt_true {s : ByteArray} {n : Int} (hn : I64r n) (h : rgtB (kindI s) n = true) : RtC s n true := fun x => by have k := pright_any s n x hn; rwa [h] at k
theorem rt_false {s : ByteArray} {n : Int} (hn : I64r n) (h : rgtB (kindI s) n = false) : RtC s n false := fun x => by have k := pright_any s n x hn; rwa [h] at k
theorem ed_yes {s : ByteArray} {L : Nat} (h : rgtB (kindI s) (L : Int) = true) : EdC s (L : Int) (loK (kindI s) L) (hiK (kindI s) L) := fun x => by
  have k := pends_yes s (L : Int) x h
  rwa [Int.toNat_natCast] at k
theorem pw4 {L : Nat} (h : L ≤ 4) : 256 ^ L ≤ 4294967296 := by
  have : 256 ^ L ≤ 256 ^ 4 := Nat.pow_le_pow_right (by omega) h
  omega
theorem rd_be (w : World) (g o cap : Nat) (bs : List Nat) (hr : rgtB 0 (bs.length : Int) = true) (hg : g < w.heap.size) (hbs : AllBytes bs) (hb : BytesIn w g o bs) :
    Calls Tryd.prog 8 #[.string kBe, .slice (some ⟨g, o, none⟩) bs.length cap] w fun e w' => e = .returned (.tuple #[.int .i64 (((beN bs : Nat) : Int)), .int .i64 0]) ∧ Below w.heap.size w w' := by
  have hl : 1 ≤ bs.length ∧ bs.length ≤ 4 := by rcases rgt_cases hr with h | h <;> omega
  have hk : kindI kBe = 0 := kind_be
  have cT := ptotal_be w g o cap bs hl.2 hg hbs hb
  rw [ok_plain (by omega) (by omega), tot_big (by omega) (by omega) (by omega)] at cT
  have cR := rt_true (s := kBe) (n := (bs.length : Int)) ⟨by omega, by omega⟩ (by rw [hk]; exact hr)
  have cE := ed_yes (s := kBe) (L := bs.length) (by rw [hk]; exact hr)
  rw [hk] at cE
  have hp := pw4 hl.2
  have hlt : beN bs < 256 ^ bs.length := by exact beN_lt hbs
  exact pread_plain w kBe _ _ cap nd_be _ _ _ (by show _ ≤ ((256 ^ bs.length : Nat) : Int) - 1; omega) cR cT cE
theorem rd_le (w : World) (g o cap : Nat) (bs : List Nat) (hr : rgtB 1 (bs.length : Int) = true) (hg : g < w.heap.size) (hbs : AllBytes bs) (hb : BytesIn w g o bs) :
    Calls Tryd.prog 8 #[.string kLe, .slice (some ⟨g, o, none⟩) bs.length cap] w fun e w' => e = .returned (.tuple #[.int .i64 (((beN bs.reverse : Nat) : Int)), .int .i64 0]) ∧ Below w.heap.size w w' := by
  have hl : 1 ≤ bs.length ∧ bs.length ≤ 4 := by rcases rgt_cases hr with h | h <;> omega
  have hk : kindI kLe = 1 := kind_le
  have cT := ptotal_le w g o cap bs hl.2 hg hbs hb
  rw [ok_plain (by omega) (by omega), tot_little (by omega) (by omega) (by omega)] at cT
  have cR := rt_true (s := kLe) (n := (bs.length : Int)) ⟨by omega, by omega⟩ (by rw [hk]; exact hr)
  have cE := ed_yes (s := kLe) (L := bs.length) (by rw [hk]; exact hr)
  rw [hk] at cE
  have hp := pw4 hl.2
  have hlt : beN bs.reverse < 256 ^ bs.length := by have := beN_lt (all_rev hbs); rwa [List.length_reverse] at this
  exact pread_plain w kLe _ _ cap nd_le _ _ _ (by show _ ≤ ((256 ^ bs.length : Nat) : Int) - 1; omega) cR cT cE
theorem rd_sbe (w : World) (g o cap : Nat) (bs : List Nat) (hr : rgtB 2 (bs.length : Int) = true) (hg : g < w.heap.size) (hbs : AllBytes bs) (hb : BytesIn w g o bs) :
    Calls Tryd.prog 8 #[.string kSbe, .slice (some ⟨g, o, none⟩) bs.length cap] w fun e w' => e = .returned (.tuple #[.int .i64 (sgnV (beN bs) bs.length), .int .i64 0]) ∧ Below w.heap.size w w' := by
  have hl : 1 ≤ bs.length ∧ bs.length ≤ 4 := by rcases rgt_cases hr with h | h <;> omega
  have hk : kindI kSbe = 2 := kind_sbe
  have cT := ptotal_sbe w g o cap bs hl.2 hg hbs hb
  rw [ok_plain (by omega) (by omega), tot_big (by omega) (by omega) (by omega)] at cT
  have cR := rt_true (s := kSbe) (n := (bs.length : Int)) ⟨by omega, by omega⟩ (by rw [hk]; exact hr)
  have cE := ed_yes (s := kSbe) (L := bs.length) (by rw [hk]; exact hr)
  rw [hk] at cE
  have hp := pw4 hl.2
  have hlt : beN bs < 256 ^ bs.length := by exact beN_lt hbs
  by_cases hq : 256 ^ bs.length / 2 ≤ beN bs
  · have e : sgnV (beN bs) bs.length = ((beN bs : Nat) : Int) - ((256 ^ bs.length : Nat) : Int) := by unfold sgnV; rw [if_pos hq]
    rw [e]
    exact pread_sign w kSbe _ _ cap nd_sbe _ _ _ _ (by show ((256 ^ bs.length / 2 : Nat) : Int) - 1 < _; omega) ⟨by omega, by omega⟩ ⟨by omega, by omega⟩ cR cT cE (power_256 hl.1 hl.2)
  · have e : sgnV (beN bs) bs.length = ((beN bs : Nat) : Int) := by unfold sgnV; rw [if_neg hq]
    rw [e]
    exact pread_plain w kSbe _ _ cap nd_sbe _ _ _ (by show _ ≤ ((256 ^ bs.length / 2 : Nat) : Int) - 1; omega) cR cT cE
theorem rd_sle (w : World) (g o cap : Nat) (bs : List Nat) (hr : rgtB 3 (bs.length : Int) = true) (hg : g < w.heap.size) (hbs : AllBytes bs) (hb : BytesIn w g o bs) :
    Calls Tryd.prog 8 #[.string kSle, .slice (some ⟨g, o, none⟩) bs.length cap] w fun e w' => e = .returned (.tuple #[.int .i64 (sgnV (beN bs.reverse) bs.length), .int .i64 0]) ∧ Below w.heap.size w w' := by
  have hl : 1 ≤ bs.length ∧ bs.length ≤ 4 := by rcases rgt_cases hr with h | h <;> omega
  have hk : kindI kSle = 3 := kind_sle
  have cT := ptotal_sle w g o cap bs hl.2 hg hbs hb
  rw [ok_plain (by omega) (by omega), tot_little (by omega) (by omega) (by omega)] at cT
  have cR := rt_true (s := kSle) (n := (bs.length : Int)) ⟨by omega, by omega⟩ (by rw [hk]; exact hr)
  have cE := ed_yes (s := kSle) (L := bs.length) (by rw [hk]; exact hr)
  rw [hk] at cE
  have hp := pw4 hl.2
  have hlt : beN bs.reverse < 256 ^ bs.length := by have := beN_lt (all_rev hbs); rwa [List.length_reverse] at this
  by_cases hq : 256 ^ bs.length / 2 ≤ beN bs.reverse
  · have e : sgnV (beN bs.reverse) bs.length = ((beN bs.reverse : Nat) : Int) - ((256 ^ bs.length : Nat) : Int) := by unfold sgnV; rw [if_pos hq]
    rw [e]
    exact pread_sign w kSle _ _ cap nd_sle _ _ _ _ (by show ((256 ^ bs.length / 2 : Nat) : Int) - 1 < _; omega) ⟨by omega, by omega⟩ ⟨by omega, by omega⟩ cR cT cE (power_256 hl.1 hl.2)
  · have e : sgnV (beN bs.reverse) bs.length = ((beN bs.reverse : Nat) : Int) := by unfold sgnV; rw [if_neg hq]
    rw [e]
    exact pread_plain w kSle _ _ cap nd_sle _ _ _ (by show _ ≤ ((256 ^ bs.length / 2 : Nat) : Int) - 1; omega) cR cT cE
theorem rd_bcd (w : World) (g o cap : Nat) (bs : List Nat) (hr : rgtB 4 (bs.length : Int) = true) (hg : g < w.heap.size) (hbs : AllBytes bs) (hb : BytesIn w g o bs) :
    Calls Tryd.prog 8 #[.string kBcd, .slice (some ⟨g, o, none⟩) bs.length cap] w fun e w' => e = .returned (.tuple #[.int .i64 ((readO 4 bs).getD 0), .int .i64 (if (readO 4 bs).isSome then 0 else 6)]) ∧ Below w.heap.size w w' := by
  have hl : 1 ≤ bs.length ∧ bs.length ≤ 4 := by rcases rgt_cases hr with h | h <;> omega
  have hk : kindI kBcd = 4 := kind_bcd
  have cT := ptotal_bcd w g o cap bs hl.2 hg hbs hb
  have cR := rt_true (s := kBcd) (n := (bs.length : Int)) ⟨by omega, by omega⟩ (by rw [hk]; exact hr)
  have hd := bcd_tot bs
  have eo : readO 4 bs = (bcdO bs).map (fun n : Nat => (n : Int)) := rfl
  cases hok : okAll 4 bs with
  | false =>
    rw [hok, tot_no hok] at cT
    rw [eo, hd.2 hok]
    exact pread_bad w kBcd _ _ cap nd_bcd cR cT
  | true =>
    obtain ⟨v, d1, d2⟩ := hd.1 hok
    have cE := ed_yes (s := kBcd) (L := bs.length) (by rw [hk]; exact hr)
    rw [hk] at cE
    rw [hok, d2] at cT
    rw [eo, d1]
    exact pread_plain w kBcd _ _ cap nd_bcd _ _ _ (by show (v : Int) ≤ ((100 ^ bs.length : Nat) : Int) - 1; have := (bcd_only d1).2; omega) cR cT cE
theorem rd_dec (w : World) (g o cap : Nat) (bs : List Nat) (hr : rgtB 5 (bs.length : Int) = true) (hc : bs.length ≤ cap) (hm : cap ≤ maxLen) (hg : g < w.heap.size) (hbs : AllBytes bs) (hb : BytesIn w g o bs) :
    Calls Tryd.prog 8 #[.string kDec, .slice (some ⟨g, o, none⟩) bs.length cap] w fun e w' => e = .returned (.tuple #[.int .i64 (decN bs), .int .i64 (decE bs)]) ∧ Below w.heap.size w w' := by
  have hl : 1 ≤ bs.length ∧ bs.length ≤ 8 := by rcases rgt_cases hr with h | h <;> omega
  have hk : kindI kDec = 5 := kind_dec
  have cR := rt_true (s := kDec) (n := (bs.length : Int)) ⟨by omega, by omega⟩ (by rw [hk]; exact hr)
  exact pread_dec w _ _ cap _ _ cR (rdtxt_any w g o cap bs hl.1 hl.2 hc hm hg hbs hb)
theorem HD : ReadP := fun s v bs w hv hlen hb => by
  cases hr : rgtB (kindI s) (bs.length : Int) with
  | false =>
    have e1 : readN (kindI s) bs = 0 := by unfold readN; rw [hr]; rfl
    have e2 : readC (kindI s) bs = 1 := by unfold readC; rw [hr]; rfl
    rw [e1, e2]
    have cR := rt_false (s := s) (n := (bs.length : Int)) ⟨by omega, by omega⟩ hr
    rcases hv with ⟨rfl, rfl⟩ | ⟨g, o, cap, rfl, _⟩
    · exact pread_no w s none 0 0 cR
    · exact pread_no w s _ _ cap cR
  | true =>
    have e1 : readN (kindI s) bs = (readO (kindI s) bs).getD 0 := by unfold readN; rw [if_pos hr]
    have e2 : readC (kindI s) bs = if (readO (kindI s) bs).isSome then 0 else 6 := by unfold readC; rw [if_pos hr]
    rw [e1, e2]
    have h1 : 1 ≤ bs.length := by rcases rgt_cases hr with h | h <;> omega
    rcases hv with ⟨rfl, rfl⟩ | ⟨g, o, cap, rfl, hc, hm, hi, hg⟩
    · simp at h1
    rcases kind_cases s with rfl | rfl | rfl | rfl | rfl | rfl | hs
    · rw [kind_be] at hr ⊢; exact rd_be w g o cap bs hr hg hb hi
    · rw [kind_le] at hr ⊢; exact rd_le w g o cap bs hr hg hb hi
    · rw [kind_sbe] at hr ⊢; exact rd_sbe w g o cap bs hr hg hb hi
    · rw [kind_sle] at hr ⊢; exact rd_sle w g o cap bs hr hg hb hi
    · rw [kind_bcd] at hr ⊢; exact rd_bcd w g o cap bs hr hg hb hi
    · rw [kind_dec] at hr ⊢; exact rd_dec w g o cap bs hr hc hm hg hb hi
    · rw [kind_no hs] at hr; cases hr
end Go.Proofs.YtiimmebcmehnhaaDoor
