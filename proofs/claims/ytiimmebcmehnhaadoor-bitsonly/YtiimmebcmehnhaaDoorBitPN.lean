/-
  What the program's own Write returns (layer 6): the bytes that the document asks, or what is wrong. No conditions but that the numbers are of 64 bits.
-/
import Derived.Test.YtiimmebcmehnhaaDoorBitPM0
import Derived.Test.YtiimmebcmehnhaaDoorBitPM1
import Derived.Test.YtiimmebcmehnhaaDoorBitPM2
import Derived.Test.YtiimmebcmehnhaaDoorBitPM3
import Derived.Test.YtiimmebcmehnhaaDoorBitPM4
import Derived.Test.YtiimmebcmehnhaaDoorBitPK
namespace Go.Proofs.YtiimmebcmehnhaaDoor
open Go.RowKit Go.Shelf
set_option linter.unusedVariables false

theorem row_be {L : Nat} (h1 : 1 ≤ L) (h4 : L ≤ 4) (N : Nat) : rowP 0 256 L N (List.finRange L) = bigL N L := by
  have : L = 1 ∨ L = 2 ∨ L = 3 ∨ L = 4 := by omega
  rcases this with rfl | rfl | rfl | rfl
  · rw [show List.finRange 1 = [⟨0, by omega⟩] from rfl]
    simp only [rowP, List.foldl_cons, List.foldl_nil, dgP, atP]
    simp [digV, bigL]
  · rw [show List.finRange 2 = [⟨0, by omega⟩, ⟨1, by omega⟩] from rfl]
    simp only [rowP, List.foldl_cons, List.foldl_nil, dgP, atP]
    simp [digV, bigL]
  · rw [show List.finRange 3 = [⟨0, by omega⟩, ⟨1, by omega⟩, ⟨2, by omega⟩] from rfl]
    simp only [rowP, List.foldl_cons, List.foldl_nil, dgP, atP]
    simp [digV, bigL] <;> omega
  · rw [show List.finRange 4 = [⟨0, by omega⟩, ⟨1, by omega⟩, ⟨2, by omega⟩, ⟨3, by omega⟩] from rfl]
    simp only [rowP, List.foldl_cons, List.foldl_nil, dgP, atP]
    simp [digV, bigL] <;> omega
theorem row_le {L : Nat} (h1 : 1 ≤ L) (h4 : L ≤ 4) (N : Nat) : rowP 1 256 L N (List.finRange L) = (bigL N L).reverse := by
  have : L = 1 ∨ L = 2 ∨ L = 3 ∨ L = 4 := by omega
  rcases this with rfl | rfl | rfl | rfl
  · rw [show List.finRange 1 = [⟨0, by omega⟩] from rfl]
    simp only [rowP, List.foldl_cons, List.foldl_nil, dgP, atP]
    simp [digV, bigL]
  · rw [show List.finRange 2 = [⟨0, by omega⟩, ⟨1, by omega⟩] from rfl]
    simp only [rowP, List.foldl_cons, List.foldl_nil, dgP, atP]
    simp [digV, bigL]
  · rw [show List.finRange 3 = [⟨0, by omega⟩, ⟨1, by omega⟩, ⟨2, by omega⟩] from rfl]
    simp only [rowP, List.foldl_cons, List.foldl_nil, dgP, atP]
    simp [digV, bigL] <;> omega
  · rw [show List.finRange 4 = [⟨0, by omega⟩, ⟨1, by omega⟩, ⟨2, by omega⟩, ⟨3, by omega⟩] from rfl]
    simp only [rowP, List.foldl_cons, List.foldl_nil, dgP, atP]
    simp [digV, bigL] <;> omega
theorem row_sbe {L : Nat} (h1 : 1 ≤ L) (h4 : L ≤ 4) (N : Nat) : rowP 2 256 L N (List.finRange L) = bigL N L := by
  have : L = 1 ∨ L = 2 ∨ L = 3 ∨ L = 4 := by omega
  rcases this with rfl | rfl | rfl | rfl
  · rw [show List.finRange 1 = [⟨0, by omega⟩] from rfl]
    simp only [rowP, List.foldl_cons, List.foldl_nil, dgP, atP]
    simp [digV, bigL]
  · rw [show List.finRange 2 = [⟨0, by omega⟩, ⟨1, by omega⟩] from rfl]
    simp only [rowP, List.foldl_cons, List.foldl_nil, dgP, atP]
    simp [digV, bigL]
  · rw [show List.finRange 3 = [⟨0, by omega⟩, ⟨1, by omega⟩, ⟨2, by omega⟩] from rfl]
    simp only [rowP, List.foldl_cons, List.foldl_nil, dgP, atP]
    simp [digV, bigL] <;> omega
  · rw [show List.finRange 4 = [⟨0, by omega⟩, ⟨1, by omega⟩, ⟨2, by omega⟩, ⟨3, by omega⟩] from rfl]
    simp only [rowP, List.foldl_cons, List.foldl_nil, dgP, atP]
    simp [digV, bigL] <;> omega
theorem row_sle {L : Nat} (h1 : 1 ≤ L) (h4 : L ≤ 4) (N : Nat) : rowP 3 256 L N (List.finRange L) = (bigL N L).reverse := by
  have : L = 1 ∨ L = 2 ∨ L = 3 ∨ L = 4 := by omega
  rcases this with rfl | rfl | rfl | rfl
  · rw [show List.finRange 1 = [⟨0, by omega⟩] from rfl]
    simp only [rowP, List.foldl_cons, List.foldl_nil, dgP, atP]
    simp [digV, bigL]
  · rw [show List.finRange 2 = [⟨0, by omega⟩, ⟨1, by omega⟩] from rfl]
    simp only [rowP, List.foldl_cons, List.foldl_nil, dgP, atP]
    simp [digV, bigL]
  · rw [show List.finRange 3 = [⟨0, by omega⟩, ⟨1, by omega⟩, ⟨2, by omega⟩] from rfl]
    simp only [rowP, List.foldl_cons, List.foldl_nil, dgP, atP]
    simp [digV, bigL] <;> omega
  · rw [show List.finRange 4 = [⟨0, by omega⟩, ⟨1, by omega⟩, ⟨2, by omega⟩, ⟨3, by omega⟩] from rfl]
    simp only [rowP, List.foldl_cons, List.foldl_nil, dgP, atP]
    simp [digV, bigL] <;> omega
theorem row_bcd {L : Nat} (h1 : 1 ≤ L) (h4 : L ≤ 4) (N : Nat) : rowP 4 100 L N (List.finRange L) = bcdL N L := by
  have : L = 1 ∨ L = 2 ∨ L = 3 ∨ L = 4 := by omega
  rcases this with rfl | rfl | rfl | rfl
  · rw [show List.finRange 1 = [⟨0, by omega⟩] from rfl]
    simp only [rowP, List.foldl_cons, List.foldl_nil, dgP, atP]
    simp [digV, bcdL] <;> omega
  · rw [show List.finRange 2 = [⟨0, by omega⟩, ⟨1, by omega⟩] from rfl]
    simp only [rowP, List.foldl_cons, List.foldl_nil, dgP, atP]
    simp [digV, bcdL] <;> omega
  · rw [show List.finRange 3 = [⟨0, by omega⟩, ⟨1, by omega⟩, ⟨2, by omega⟩] from rfl]
    simp only [rowP, List.foldl_cons, List.foldl_nil, dgP, atP]
    simp [digV, bcdL] <;> omega
  · rw [show List.finRange 4 = [⟨0, by omega⟩, ⟨1, by omega⟩, ⟨2, by omega⟩, ⟨3, by omega⟩] from rfl]
    simp only [rowP, List.foldl_cons, List.foldl_nil, dgP, atP]
    simp [digV, bcdL] <;> omega

set_option maxRecDepth 100000 in
set_option maxHeartbeats 4000000 in
theorem pwrite_no (w : World) (s : ByteArray) (n m : Int) (cR : RtC s n false) :
    Calls Tryd.prog 14 #[.string s, .int .i64 n, .int .i64 m] w fun e w' => e = .returned (.tuple #[.slice none 0 0, .int .i64 1]) ∧ Below w.heap.size w w' := by
  go_enter Tryd.func14, Tryd.ntmps14
  go_wp2_with fail
  refine (cR _).mono ?_
  rintro e w1 ⟨rfl, rfl⟩
  clear cR
  go_wp2
  go_ret2
  refine ⟨rfl, ?_⟩
  go_grown

set_option maxRecDepth 100000 in
set_option maxHeartbeats 4000000 in
theorem pwrite_low (w : World) (s : ByteArray) (n m lo hi : Int) (hm : m < lo) (cR : RtC s n true) (cE : EdC s n lo hi) :
    Calls Tryd.prog 14 #[.string s, .int .i64 n, .int .i64 m] w fun e w' => e = .returned (.tuple #[.slice none 0 0, .int .i64 11]) ∧ Below w.heap.size w w' := by
  go_enter Tryd.func14, Tryd.ntmps14
  go_wp2_with fail
  refine (cR _).mono ?_
  rintro e w1 ⟨rfl, rfl⟩
  clear cR
  go_wp2_with fail
  refine (cE _).mono ?_
  rintro e w1 ⟨rfl, rfl⟩
  clear cE
  go_wp2
  go_ret2
  refine ⟨rfl, ?_⟩
  go_grown

set_option maxRecDepth 100000 in
set_option maxHeartbeats 4000000 in
theorem pwrite_high (w : World) (s : ByteArray) (n m lo hi : Int) (hm0 : lo ≤ m) (hm : hi < m) (cR : RtC s n true) (cE : EdC s n lo hi) :
    Calls Tryd.prog 14 #[.string s, .int .i64 n, .int .i64 m] w fun e w' => e = .returned (.tuple #[.slice none 0 0, .int .i64 11]) ∧ Below w.heap.size w w' := by
  go_enter Tryd.func14, Tryd.ntmps14
  go_wp2_with fail
  refine (cR _).mono ?_
  rintro e w1 ⟨rfl, rfl⟩
  clear cR
  go_wp2_with fail
  refine (cE _).mono ?_
  rintro e w1 ⟨rfl, rfl⟩
  clear cE
  go_wp2
  go_ret2
  refine ⟨rfl, ?_⟩
  go_grown

def TxC (n m : Int) (bs : List Nat) : Prop := ∀ x : World, Calls Tryd.prog 19 #[.int .i64 n, .int .i64 m] x fun e w' => ∃ y, e = .returned y ∧ BytesV w' y bs ∧ Below x.heap.size x w'
set_option maxRecDepth 100000 in
set_option maxHeartbeats 4000000 in
theorem pwrite_dec (w : World) (n m lo hi : Int) (bs : List Nat) (hm0 : lo ≤ m) (hm : m ≤ hi) (cR : RtC kDec n true) (cE : EdC kDec n lo hi) (cX : TxC n m bs) :
    Calls Tryd.prog 14 #[.string kDec, .int .i64 n, .int .i64 m] w fun e w' => ∃ x, e = .returned (.tuple #[x, .int .i64 0]) ∧ BytesV w' x bs ∧ Below w.heap.size w w' := by
  go_enter Tryd.func14, Tryd.ntmps14
  go_wp2_with fail
  refine (cR _).mono ?_
  rintro e w1 ⟨rfl, rfl⟩
  clear cR
  go_wp2_with fail
  refine (cE _).mono ?_
  rintro e w1 ⟨rfl, rfl⟩
  clear cE
  go_wp2_with fail
  refine (cX _).mono ?_
  rintro e w2 ⟨y, rfl, hy, hb⟩
  have Y : Hid (BytesV w2 y bs ∧ Below w.heap.size w w2) := ⟨hy, belowT (by go_grown) hb⟩
  clear hy hb cX
  go_wp2
  go_ret2
  exact ⟨_, rfl, Y.out.1, Y.out.2⟩
theorem wr_be (w : World) (L N : Nat) (hL : 1 ≤ (L : Int) ∧ (L : Int) ≤ 4) (lo hi : Int) (hlo : lo ≤ (N : Int)) (hhi : (N : Int) ≤ hi) (hN : (N : Int) ≤ 4294967296) (cR : RtC kBe (L : Int) true) (cE : EdC kBe (L : Int) lo hi) :
    Calls Tryd.prog 14 #[.string kBe, .int .i64 (L : Int), .int .i64 (N : Int)] w fun e w' => ∃ x, e = .returned (.tuple #[x, .int .i64 0]) ∧ BytesV w' x (rowP 0 256 L N (List.finRange L)) ∧ Below w.heap.size w w' :=
  (callsIn_wide (n := 3)).1 (write_be _ 3 trivial trivial trivial trivial trivial trivial trivial trivial rfl (Nat.le_refl _) w L N hL lo hi hlo hhi hN (fun j x => callsIn_wide.2 (cR x)) (fun j x => callsIn_wide.2 (cE x)))
theorem wr_le (w : World) (L N : Nat) (hL : 1 ≤ (L : Int) ∧ (L : Int) ≤ 4) (lo hi : Int) (hlo : lo ≤ (N : Int)) (hhi : (N : Int) ≤ hi) (hN : (N : Int) ≤ 4294967296) (cR : RtC kLe (L : Int) true) (cE : EdC kLe (L : Int) lo hi) :
    Calls Tryd.prog 14 #[.string kLe, .int .i64 (L : Int), .int .i64 (N : Int)] w fun e w' => ∃ x, e = .returned (.tuple #[x, .int .i64 0]) ∧ BytesV w' x (rowP 1 256 L N (List.finRange L)) ∧ Below w.heap.size w w' :=
  (callsIn_wide (n := 3)).1 (write_le _ 3 trivial trivial trivial trivial trivial trivial trivial trivial rfl (Nat.le_refl _) w L N hL lo hi hlo hhi hN (fun j x => callsIn_wide.2 (cR x)) (fun j x => callsIn_wide.2 (cE x)))
theorem wr_sbe (w : World) (L N : Nat) (hL : 1 ≤ (L : Int) ∧ (L : Int) ≤ 4) (lo hi : Int) (hlo : lo ≤ (N : Int)) (hhi : (N : Int) ≤ hi) (hN : (N : Int) ≤ 4294967296) (cR : RtC kSbe (L : Int) true) (cE : EdC kSbe (L : Int) lo hi) :
    Calls Tryd.prog 14 #[.string kSbe, .int .i64 (L : Int), .int .i64 (N : Int)] w fun e w' => ∃ x, e = .returned (.tuple #[x, .int .i64 0]) ∧ BytesV w' x (rowP 2 256 L N (List.finRange L)) ∧ Below w.heap.size w w' :=
  (callsIn_wide (n := 3)).1 (write_sbe _ 3 trivial trivial trivial trivial trivial trivial trivial trivial rfl (Nat.le_refl _) w L N hL lo hi hlo hhi hN (fun j x => callsIn_wide.2 (cR x)) (fun j x => callsIn_wide.2 (cE x)))
theorem wr_sben (w : World) (L N : Nat) (hL : 1 ≤ (L : Int) ∧ (L : Int) ≤ 4) (m p : Int) (hm0 : m < 0) (hmb : -4294967296 ≤ m) (hp : 0 ≤ p ∧ p ≤ 4294967296) (hmN : m + p = (N : Int)) (lo hi : Int) (hlo : lo ≤ m) (hhi : m ≤ hi) (hN : (N : Int) ≤ 4294967296) (cR : RtC kSbe (L : Int) true) (cE : EdC kSbe (L : Int) lo hi) (cP : PwC 256 (L : Int) p) :
    Calls Tryd.prog 14 #[.string kSbe, .int .i64 (L : Int), .int .i64 m] w fun e w' => ∃ x, e = .returned (.tuple #[x, .int .i64 0]) ∧ BytesV w' x (rowP 2 256 L N (List.finRange L)) ∧ Below w.heap.size w w' :=
  (callsIn_wide (n := 3)).1 (write_sben _ 3 trivial trivial trivial trivial trivial trivial trivial trivial rfl (Nat.le_refl _) w L N hL m p hm0 hmb hp hmN lo hi hlo hhi hN (fun j x => callsIn_wide.2 (cR x)) (fun j x => callsIn_wide.2 (cE x)) (fun j x => callsIn_wide.2 (cP x)))
theorem wr_sle (w : World) (L N : Nat) (hL : 1 ≤ (L : Int) ∧ (L : Int) ≤ 4) (lo hi : Int) (hlo : lo ≤ (N : Int)) (hhi : (N : Int) ≤ hi) (hN : (N : Int) ≤ 4294967296) (cR : RtC kSle (L : Int) true) (cE : EdC kSle (L : Int) lo hi) :
    Calls Tryd.prog 14 #[.string kSle, .int .i64 (L : Int), .int .i64 (N : Int)] w fun e w' => ∃ x, e = .returned (.tuple #[x, .int .i64 0]) ∧ BytesV w' x (rowP 3 256 L N (List.finRange L)) ∧ Below w.heap.size w w' :=
  (callsIn_wide (n := 3)).1 (write_sle _ 3 trivial trivial trivial trivial trivial trivial trivial trivial rfl (Nat.le_refl _) w L N hL lo hi hlo hhi hN (fun j x => callsIn_wide.2 (cR x)) (fun j x => callsIn_wide.2 (cE x)))
theorem wr_slen (w : World) (L N : Nat) (hL : 1 ≤ (L : Int) ∧ (L : Int) ≤ 4) (m p : Int) (hm0 : m < 0) (hmb : -4294967296 ≤ m) (hp : 0 ≤ p ∧ p ≤ 4294967296) (hmN : m + p = (N : Int)) (lo hi : Int) (hlo : lo ≤ m) (hhi : m ≤ hi) (hN : (N : Int) ≤ 4294967296) (cR : RtC kSle (L : Int) true) (cE : EdC kSle (L : Int) lo hi) (cP : PwC 256 (L : Int) p) :
    Calls Tryd.prog 14 #[.string kSle, .int .i64 (L : Int), .int .i64 m] w fun e w' => ∃ x, e = .returned (.tuple #[x, .int .i64 0]) ∧ BytesV w' x (rowP 3 256 L N (List.finRange L)) ∧ Below w.heap.size w w' :=
  (callsIn_wide (n := 3)).1 (write_slen _ 3 trivial trivial trivial trivial trivial trivial trivial trivial rfl (Nat.le_refl _) w L N hL m p hm0 hmb hp hmN lo hi hlo hhi hN (fun j x => callsIn_wide.2 (cR x)) (fun j x => callsIn_wide.2 (cE x)) (fun j x => callsIn_wide.2 (cP x)))
theorem wr_bcd (w : World) (L N : Nat) (hL : 1 ≤ (L : Int) ∧ (L : Int) ≤ 4) (lo hi : Int) (hlo : lo ≤ (N : Int)) (hhi : (N : Int) ≤ hi) (hN : (N : Int) ≤ 4294967296) (cR : RtC kBcd (L : Int) true) (cE : EdC kBcd (L : Int) lo hi) :
    Calls Tryd.prog 14 #[.string kBcd, .int .i64 (L : Int), .int .i64 (N : Int)] w fun e w' => ∃ x, e = .returned (.tuple #[x, .int .i64 0]) ∧ BytesV w' x (rowP 4 100 L N (List.finRange L)) ∧ Below w.heap.size w w' :=
  (callsIn_wide (n := 3)).1 (write_bcd _ 3 trivial trivial trivial trivial trivial trivial trivial trivial rfl (Nat.le_refl _) w L N hL lo hi hlo hhi hN (fun j x => callsIn_wide.2 (cR x)) (fun j x => callsIn_wide.2 (cE x)))
theorem HW : WriteP := fun s n m w hn hm => by
  cases hr : rgtB (kindI s) n with
  | false =>
    have e1 : writeC (kindI s) n m = 1 := by unfold writeC; rw [hr]; rfl
    have e2 : writeR (kindI s) n m = [] := by unfold writeR; rw [hr]; rfl
    rw [e1, e2]
    exact (pwrite_no w s n m (rt_false hn hr)).mono fun e w' ⟨he, hb⟩ => ⟨_, he, .inl ⟨rfl, rfl⟩, hb⟩
  | true =>
    have h8 : 1 ≤ n ∧ n ≤ 8 := by rcases rgt_cases hr with h | h <;> omega
    obtain ⟨L, rfl⟩ : ∃ L : Nat, n = (L : Int) := ⟨n.toNat, by omega⟩
    have cR := rt_true hn hr
    have cE := ed_yes hr
    by_cases q : loK (kindI s) L ≤ m ∧ m ≤ hiK (kindI s) L
    · have e1 : writeC (kindI s) (L : Int) m = 0 := by unfold writeC; rw [if_pos hr, Int.toNat_natCast, if_pos q]
      have e2 : writeR (kindI s) (L : Int) m = writeL (kindI s) L m := by unfold writeR; rw [if_pos hr, Int.toNat_natCast, if_pos q]
      rw [e1, e2]
      rcases kind_cases s with rfl | rfl | rfl | rfl | rfl | rfl | hs
      · rw [kind_be] at *
        have h4 : 1 ≤ L ∧ L ≤ 4 := by rcases rgt_cases hr with h | h <;> omega
        have b1 : (0 : Int) ≤ m := q.1
        have b2 : m ≤ ((256 ^ L : Nat) : Int) - 1 := q.2
        have pb : 256 ^ L ≤ 256 ^ 4 := Nat.pow_le_pow_right (by omega) h4.2
        obtain ⟨N, rfl⟩ : ∃ N : Nat, m = (N : Int) := ⟨m.toNat, by omega⟩
        have k := wr_be w L N ⟨by omega, by omega⟩ _ _ q.1 q.2 (by omega) cR cE
        rw [row_be h4.1 h4.2] at k
        exact k
      · rw [kind_le] at *
        have h4 : 1 ≤ L ∧ L ≤ 4 := by rcases rgt_cases hr with h | h <;> omega
        have b1 : (0 : Int) ≤ m := q.1
        have b2 : m ≤ ((256 ^ L : Nat) : Int) - 1 := q.2
        have pb : 256 ^ L ≤ 256 ^ 4 := Nat.pow_le_pow_right (by omega) h4.2
        obtain ⟨N, rfl⟩ : ∃ N : Nat, m = (N : Int) := ⟨m.toNat, by omega⟩
        have k := wr_le w L N ⟨by omega, by omega⟩ _ _ q.1 q.2 (by omega) cR cE
        rw [row_le h4.1 h4.2] at k
        exact k
      · rw [kind_sbe] at *
        have h4 : 1 ≤ L ∧ L ≤ 4 := by rcases rgt_cases hr with h | h <;> omega
        have b1 : -((256 ^ L / 2 : Nat) : Int) ≤ m := q.1
        have b2 : m ≤ ((256 ^ L / 2 : Nat) : Int) - 1 := q.2
        have pb : 256 ^ L ≤ 256 ^ 4 := Nat.pow_le_pow_right (by omega) h4.2
        by_cases hneg : m < 0
        · have em : m % ((256 ^ L : Nat) : Int) = m + ((256 ^ L : Nat) : Int) := by
            rw [← Int.add_emod_right]; exact Int.emod_eq_of_lt (by omega) (by omega)
          obtain ⟨N, hN⟩ : ∃ N : Nat, m + ((256 ^ L : Nat) : Int) = (N : Int) := ⟨(m + ((256 ^ L : Nat) : Int)).toNat, by omega⟩
          have k := wr_sben w L N ⟨by omega, by omega⟩ m ((256 ^ L : Nat) : Int) hneg (by omega) ⟨by omega, by omega⟩ hN _ _ q.1 q.2 (by omega) cR cE (power_256 h4.1 h4.2)
          rw [row_sbe h4.1 h4.2] at k
          have e3 : writeL 2 L m = (bigL N L) := by
            show (bigL (m % ((256 ^ L : Nat) : Int)).toNat L) = _
            rw [em, hN]; rfl
          rw [e3]
          exact k
        · obtain ⟨N, rfl⟩ : ∃ N : Nat, m = (N : Int) := ⟨m.toNat, by omega⟩
          have em : (N : Int) % ((256 ^ L : Nat) : Int) = (N : Int) := Int.emod_eq_of_lt (by omega) (by omega)
          have k := wr_sbe w L N ⟨by omega, by omega⟩ _ _ q.1 q.2 (by omega) cR cE
          rw [row_sbe h4.1 h4.2] at k
          have e3 : writeL 2 L (N : Int) = (bigL N L) := by
            show (bigL ((N : Int) % ((256 ^ L : Nat) : Int)).toNat L) = _
            rw [em]; rfl
          rw [e3]
          exact k
      · rw [kind_sle] at *
        have h4 : 1 ≤ L ∧ L ≤ 4 := by rcases rgt_cases hr with h | h <;> omega
        have b1 : -((256 ^ L / 2 : Nat) : Int) ≤ m := q.1
        have b2 : m ≤ ((256 ^ L / 2 : Nat) : Int) - 1 := q.2
        have pb : 256 ^ L ≤ 256 ^ 4 := Nat.pow_le_pow_right (by omega) h4.2
        by_cases hneg : m < 0
        · have em : m % ((256 ^ L : Nat) : Int) = m + ((256 ^ L : Nat) : Int) := by
            rw [← Int.add_emod_right]; exact Int.emod_eq_of_lt (by omega) (by omega)
          obtain ⟨N, hN⟩ : ∃ N : Nat, m + ((256 ^ L : Nat) : Int) = (N : Int) := ⟨(m + ((256 ^ L : Nat) : Int)).toNat, by omega⟩
          have k := wr_slen w L N ⟨by omega, by omega⟩ m ((256 ^ L : Nat) : Int) hneg (by omega) ⟨by omega, by omega⟩ hN _ _ q.1 q.2 (by omega) cR cE (power_256 h4.1 h4.2)
          rw [row_sle h4.1 h4.2] at k
          have e3 : writeL 3 L m = (bigL N L).reverse := by
            show (bigL (m % ((256 ^ L : Nat) : Int)).toNat L).reverse = _
            rw [em, hN]; rfl
          rw [e3]
          exact k
        · obtain ⟨N, rfl⟩ : ∃ N : Nat, m = (N : Int) := ⟨m.toNat, by omega⟩
          have em : (N : Int) % ((256 ^ L : Nat) : Int) = (N : Int) := Int.emod_eq_of_lt (by omega) (by omega)
          have k := wr_sle w L N ⟨by omega, by omega⟩ _ _ q.1 q.2 (by omega) cR cE
          rw [row_sle h4.1 h4.2] at k
          have e3 : writeL 3 L (N : Int) = (bigL N L).reverse := by
            show (bigL ((N : Int) % ((256 ^ L : Nat) : Int)).toNat L).reverse = _
            rw [em]; rfl
          rw [e3]
          exact k
      · rw [kind_bcd] at *
        have h4 : 1 ≤ L ∧ L ≤ 4 := by rcases rgt_cases hr with h | h <;> omega
        have b1 : (0 : Int) ≤ m := q.1
        have b2 : m ≤ ((100 ^ L : Nat) : Int) - 1 := q.2
        have pb : 100 ^ L ≤ 100 ^ 4 := Nat.pow_le_pow_right (by omega) h4.2
        obtain ⟨N, rfl⟩ : ∃ N : Nat, m = (N : Int) := ⟨m.toNat, by omega⟩
        have k := wr_bcd w L N ⟨by omega, by omega⟩ _ _ q.1 q.2 (by omega) cR cE
        rw [row_bcd h4.1 h4.2] at k
        exact k
      · rw [kind_dec] at *
        have hL : 1 ≤ L ∧ L ≤ 8 := by omega
        exact pwrite_dec w _ m _ _ _ q.1 q.2 cR cE (fun x => ptext_any x L m hL q.1 q.2)
      · rw [kind_no hs] at hr; cases hr
    · have e1 : writeC (kindI s) (L : Int) m = 11 := by unfold writeC; rw [if_pos hr, Int.toNat_natCast, if_neg q]
      have e2 : writeR (kindI s) (L : Int) m = [] := by unfold writeR; rw [if_pos hr, Int.toNat_natCast, if_neg q]
      rw [e1, e2]
      by_cases q1 : m < loK (kindI s) L
      · exact (pwrite_low w s _ m _ _ q1 cR cE).mono fun e w' ⟨he, hb⟩ => ⟨_, he, .inl ⟨rfl, rfl⟩, hb⟩
      · exact (pwrite_high w s _ m _ _ (by omega) (by omega) cR cE).mono fun e w' ⟨he, hb⟩ => ⟨_, he, .inl ⟨rfl, rfl⟩, hb⟩
end Go.Proofs.YtiimmebcmehnhaaDoor
