/-
  Texts that belong together, one behind the other: LexPD, LexPH. Conditions: as each says.
-/
import Derived.Deep.OwnRows
import Derived.Laws.ShiftsVar
import Derived.Test.YtagkgneijdbkoaaDoorJn15
/-
  What the program's own digit and Hex return (layer 7): they are the document's. Conditions: as the contract says.
-/
namespace Go.Proofs.YtagkgneijdbkoaaDoor
open Go.RowKit
set_option linter.unusedVariables false

set_option maxRecDepth 100000 in
set_option maxHeartbeats 4000000 in
theorem digit_fig (c : Nat) (hc : (0 : Int) ≤ (c : Int) ∧ (c : Int) < 256) (h1 : (48 : Int) ≤ (c : Int)) (h2 : (c : Int) ≤ 57) (w : World) : Calls Tryd.prog 60 #[.int .u8 (c : Int)] w fun e w' => e = .returned (.tuple #[.int .u8 ((c : Int) - 48), .bool true]) ∧ w' = w := by
  have q1 : decide ((48 : Int) ≤ (c : Int)) = true := decide_eq_true h1
  have q2 : decide ((c : Int) ≤ 57) = true := decide_eq_true h2
  have wr : IntKind.u8.wrap ((c : Int) - 48) = (c : Int) - 48 := by simp only [IntKind.wrap_u8']; omega
  go_enter Tryd.func60, Tryd.ntmps60
  go_wp2
  go_ret2
  exact ⟨rfl, rfl⟩
set_option maxRecDepth 100000 in
set_option maxHeartbeats 4000000 in
theorem digit_low (c : Nat) (hc : (0 : Int) ≤ (c : Int) ∧ (c : Int) < 256) (h1 : (97 : Int) ≤ (c : Int)) (h2 : (c : Int) ≤ 102) (w : World) : Calls Tryd.prog 60 #[.int .u8 (c : Int)] w fun e w' => e = .returned (.tuple #[.int .u8 ((c : Int) - 97 + 10), .bool true]) ∧ w' = w := by
  have q1 : decide ((48 : Int) ≤ (c : Int)) = true := decide_eq_true (by omega)
  have q2 : decide ((c : Int) ≤ 57) = false := decide_eq_false (by omega)
  have q3 : decide ((97 : Int) ≤ (c : Int)) = true := decide_eq_true h1
  have q4 : decide ((c : Int) ≤ 102) = true := decide_eq_true h2
  have wr : IntKind.u8.wrap ((c : Int) - 97) = (c : Int) - 97 := by simp only [IntKind.wrap_u8']; omega
  have wr2 : IntKind.u8.wrap ((c : Int) - 97 + 10) = (c : Int) - 97 + 10 := by simp only [IntKind.wrap_u8']; omega
  go_enter Tryd.func60, Tryd.ntmps60
  go_wp2
  go_ret2
  exact ⟨rfl, rfl⟩
set_option maxRecDepth 100000 in
set_option maxHeartbeats 4000000 in
theorem digit_n1 (c : Nat) (hc : (0 : Int) ≤ (c : Int) ∧ (c : Int) < 256) (h1 : (c : Int) < 48) (w : World) : Calls Tryd.prog 60 #[.int .u8 (c : Int)] w fun e w' => e = .returned (.tuple #[.int .u8 (0), .bool false]) ∧ w' = w := by
  have q1 : decide ((48 : Int) ≤ (c : Int)) = false := decide_eq_false (by omega)
  have q3 : decide ((97 : Int) ≤ (c : Int)) = false := decide_eq_false (by omega)
  go_enter Tryd.func60, Tryd.ntmps60
  go_wp2
  go_ret2
  exact ⟨rfl, rfl⟩
set_option maxRecDepth 100000 in
set_option maxHeartbeats 4000000 in
theorem digit_n2 (c : Nat) (hc : (0 : Int) ≤ (c : Int) ∧ (c : Int) < 256) (h1 : (57 : Int) < (c : Int)) (h2 : (c : Int) < 97) (w : World) : Calls Tryd.prog 60 #[.int .u8 (c : Int)] w fun e w' => e = .returned (.tuple #[.int .u8 (0), .bool false]) ∧ w' = w := by
  have q1 : decide ((48 : Int) ≤ (c : Int)) = true := decide_eq_true (by omega)
  have q2 : decide ((c : Int) ≤ 57) = false := decide_eq_false (by omega)
  have q3 : decide ((97 : Int) ≤ (c : Int)) = false := decide_eq_false (by omega)
  go_enter Tryd.func60, Tryd.ntmps60
  go_wp2
  go_ret2
  exact ⟨rfl, rfl⟩
set_option maxRecDepth 100000 in
set_option maxHeartbeats 4000000 in
theorem digit_n3 (c : Nat) (hc : (0 : Int) ≤ (c : Int) ∧ (c : Int) < 256) (h1 : (102 : Int) < (c : Int)) (w : World) : Calls Tryd.prog 60 #[.int .u8 (c : Int)] w fun e w' => e = .returned (.tuple #[.int .u8 (0), .bool false]) ∧ w' = w := by
  have q1 : decide ((48 : Int) ≤ (c : Int)) = true := decide_eq_true (by omega)
  have q2 : decide ((c : Int) ≤ 57) = false := decide_eq_false (by omega)
  have q3 : decide ((97 : Int) ≤ (c : Int)) = true := decide_eq_true (by omega)
  have q4 : decide ((c : Int) ≤ 102) = false := decide_eq_false (by omega)
  go_enter Tryd.func60, Tryd.ntmps60
  go_wp2
  go_ret2
  exact ⟨rfl, rfl⟩
/-- what a digit counts: a number, and that it is one -/
def dgV (c : Nat) : Nat := (halfC c).toNat
def dgB (c : Nat) : Bool := decide (0 ≤ halfC c)
theorem dgV_lt (c : Nat) : dgV c < 16 := by unfold dgV; have := half_bd c; omega
theorem digit_any (c : Nat) (hc : c < 256) (w : World) : Calls Tryd.prog 60 #[.int .u8 (c : Int)] w fun e w' => e = .returned (.tuple #[.int .u8 ((dgV c : Nat) : Int), .bool (dgB c)]) ∧ w' = w := by
  have hci : (0 : Int) ≤ (c : Int) ∧ (c : Int) < 256 := ⟨by omega, by omega⟩
  have key : ∀ (V : Int) (B : Bool), (Calls Tryd.prog 60 #[.int .u8 (c : Int)] w fun e w' => e = .returned (.tuple #[.int .u8 V, .bool B]) ∧ w' = w) → V = ((dgV c : Nat) : Int) → B = dgB c → Calls Tryd.prog 60 #[.int .u8 (c : Int)] w fun e w' => e = .returned (.tuple #[.int .u8 ((dgV c : Nat) : Int), .bool (dgB c)]) ∧ w' = w := fun V B h e1 e2 => by rw [← e1, ← e2]; exact h
  by_cases h1 : 48 ≤ c
  · by_cases h2 : c ≤ 57
    · have e : halfC c = (c : Int) - 48 := by unfold halfC; rw [if_pos ⟨h1, h2⟩]
      exact key _ _ (digit_fig c hci (by omega) (by omega) w) (by unfold dgV; rw [e]; omega) (by unfold dgB; rw [e]; exact (decide_eq_true (by omega)).symm)
    · by_cases h3 : 97 ≤ c
      · by_cases h4 : c ≤ 102
        · have e : halfC c = (c : Int) - 87 := by unfold halfC; rw [if_neg (by omega), if_pos ⟨h3, h4⟩]
          exact key _ _ (digit_low c hci (by omega) (by omega) w) (by unfold dgV; rw [e]; omega) (by unfold dgB; rw [e]; exact (decide_eq_true (by omega)).symm)
        · have e : halfC c = -1 := by unfold halfC; rw [if_neg (by omega), if_neg (by omega)]
          exact key _ _ (digit_n3 c hci (by omega) w) (by unfold dgV; rw [e]; rfl) (by unfold dgB; rw [e]; rfl)
      · have e : halfC c = -1 := by unfold halfC; rw [if_neg (by omega), if_neg (by omega)]
        exact key _ _ (digit_n2 c hci (by omega) (by omega) w) (by unfold dgV; rw [e]; rfl) (by unfold dgB; rw [e]; rfl)
  · have e : halfC c = -1 := by unfold halfC; rw [if_neg (by omega), if_neg (by omega)]
    exact key _ _ (digit_n1 c hci (by omega) w) (by unfold dgV; rw [e]; rfl) (by unfold dgB; rw [e]; rfl)
end Go.Proofs.YtagkgneijdbkoaaDoor
/-
  What the program's own Hex returns (layer 7): it is the document's. Conditions: as the contract says.
-/
namespace Go.Proofs.YtagkgneijdbkoaaDoor
open Go.RowKit
set_option linter.unusedVariables false

/-- a slice in a block that was not there, or none -/
def FreshV (w : World) (v : Value) : Prop := v = .slice none 0 0 ∨ ∃ a n cap, v = .slice (some a) n cap ∧ w.heap.size ≤ a.block
def HexP2 : Prop := ∀ (s : ByteArray) (w : World), (s.size : Int) ≤ 5000 → Calls Tryd.prog 52 #[.string s] w fun e w' => ∃ v, e = .returned (.tuple #[v, .bool (hexR s.data.toList).isSome]) ∧ BytesAt w' v ((hexR s.data.toList).getD []) ∧ FreshV w v ∧ Below w.heap.size w w'

theorem rowH_zero (w : World) (L : Nat) (hm : L ≤ maxLen) : RowU (w.alloc (.cells (madeCells #[.int .u8 0] L) 5)) w.heap.size L (List.replicate L 0) := by
  have hc : (madeCells #[.int .u8 0] L).toList = u8v (List.replicate L 0) := by rw [toList_madeCells_one]; simp
  refine ⟨by simp, hm, _, World.alloc_heap_new w _, ?_, ?_⟩
  · have := congrArg List.length hc
    simpa using this
  · rw [hc, List.length_replicate, List.take_of_length_le (by simp)]
/-- bytes, and what is not yet written behind them -/
def hexRow (L : Nat) (out : List Nat) : List Nat := out ++ List.replicate (L - out.length) 0
theorem hexRow_len {L : Nat} {out : List Nat} (h : out.length ≤ L) : (hexRow L out).length = L := by unfold hexRow; simp; omega
theorem hexRow_set {L : Nat} {out : List Nat} (h : out.length < L) (b : Nat) : (hexRow L out).set out.length b = hexRow L (out ++ [b]) := by
  unfold hexRow
  obtain ⟨m, hm⟩ : ∃ m, L - out.length = m + 1 := ⟨L - out.length - 1, by omega⟩
  have e : L - (out ++ [b]).length = m := by simp; omega
  rw [hm, e, List.replicate_succ, List.set_append_right _ _ (Nat.le_refl _)]
  simp
theorem hexRow_full {L : Nat} {out : List Nat} (h : out.length = L) : hexRow L out = out := by unfold hexRow; rw [h]; simp
theorem RowU.v {x : World} {g cap : Nat} {bs : List Nat} (h : RowU x g cap bs) : BytesAt x (.slice (some ⟨g, 0, none⟩) bs.length cap) bs := h.at
theorem nib (p q : Nat) (hp : p < 16) (hq : q < 16) : bits .or .u8 ((p : Int) * 16) (q : Int) = ((16 * p + q : Nat) : Int) := by
  have h : ∀ a b : Fin 16, bits .or .u8 ((a.1 : Int) * 16) (b.1 : Int) = ((16 * a.1 + b.1 : Nat) : Int) := by decide
  exact h ⟨p, hp⟩ ⟨q, hq⟩

set_option maxRecDepth 100000 in
set_option maxHeartbeats 4000000 in
theorem phex_main (s : ByteArray) (w : World) (hs : (s.size : Int) ≤ 5000) (h0 : 0 < (s.size : Int)) (L : Nat) (hL : (s.size : Int) = 2 * (L : Int)) (T : Option (List Nat)) (hT : hexO s.data.toList = T) :
    Calls Tryd.prog 52 #[.string s] w fun e w' => ∃ v, e = .returned (.tuple #[v, .bool T.isSome]) ∧ BytesAt w' v (T.getD []) ∧ FreshV w v ∧ Below w.heap.size w w' := by
  have L0 : Hid (LeftH [] (s.data.toList.drop (2 * ([] : List Nat).length)) T) := by unfold Hid; rw [← hT]; exact LeftH.first _
  have hz : ((s.size : Int) == 0) = false := beq_eq_false_iff_ne.2 (by omega)
  have hq : ((s.size : Int) % 2 != 0) = false := by rw [show (s.size : Int) % 2 = 0 by omega]; rfl
  have hd1 : (s.size : Int) / 2 = (L : Int) := by omega
  have hd2 : Int.tdiv (s.size : Int) 2 = (L : Int) := by rw [Int.tdiv_eq_ediv_of_nonneg (by omega)]; exact hd1
  have hL150 : (L : Int) ≤ 2500 := by omega
  have hmk : ∀ w, (Instr.makeSlice 24 (.int .i64 (L : Int)) (.int .i64 (L : Int))).run Tryd.prog w = .ok (.slice (some ⟨w.heap.size, 0, none⟩) L L) (w.alloc (.cells (madeCells #[.int .u8 0] L) 5)) := fun w => run_make_row' (P := Tryd.prog) 24 5 (.int .u8 0) 1 Tryd.underlying24 info_u8 rfl .i64 .i64 L (by omega) (by omega) w
  have R0 : Hid (RowU (w.alloc (.cells (madeCells #[.int .u8 0] L) 5)) w.heap.size L (hexRow L [])) := rowH_zero w L (by unfold maxLen; omega)
  have B0 : Hid (Below w.heap.size w (w.alloc (.cells (madeCells #[.int .u8 0] L) 5))) := (Below.refl _ _).alloc (Nat.le_refl _) _
  replace hL : Hid ((s.size : Int) = 2 * (L : Int)) := hL
  clear hT
  go_enter Tryd.func52, Tryd.ntmps52
  go_wp2
  clear hmk
  go_loopw [25] (fun vi wr => ∃ (out : List Nat), (out.length : Int) ≤ (L : Int) ∧ vi = .int .i64 (out.length : Int) ∧ Hid (RowU wr w.heap.size L (hexRow L out)) ∧ Hid (Below w.heap.size w wr) ∧ Hid (LeftH out (s.data.toList.drop (2 * out.length)) T)) (fun vi _ => L - (intOf vi).toNat)
  case atStart => exact ⟨[], by simp, rfl, R0, B0, L0⟩
  case round =>
    obtain ⟨out, hk, rfl, R, B, left⟩ := hrel
    clear L0 R0 B0
    obtain ⟨k, hko⟩ : ∃ k, out.length = k := ⟨_, rfl⟩
    rw [hko] at hk left ⊢
    by_cases hlt : (k : Int) < (L : Int)
    · have i1 : 2 * k < s.size := by have := hL.out; omega
      have i2 : 2 * k + 1 < s.size := by have := hL.out; omega
      have lf := left.out
      rw [sdrop_at i1, sdrop_at i2] at lf
      have x1 : s[2 * k].toNat < 256 := s[2 * k].toNat_lt
      have x2 : s[2 * k + 1].toNat < 256 := s[2 * k + 1].toNat_lt
      have ix : ∀ x : World, (Instr.index 9 (.string s) (.int .i64 (2 * (k : Int)))).run Tryd.prog x = .ok (.int .u8 (s[2 * k].toNat : Int)) x := fun x => by
        rw [run_index_string x 9 s .i64 _ Tryd.underlying9, dif_pos ⟨by omega, by omega⟩]
        rfl
      have ix2 : ∀ x : World, (Instr.index 9 (.string s) (.int .i64 (2 * (k : Int) + 1))).run Tryd.prog x = .ok (.int .u8 (s[2 * k + 1].toNat : Int)) x := fun x => by
        rw [run_index_string x 9 s .i64 _ Tryd.underlying9, dif_pos ⟨by omega, by omega⟩]
        rfl
      have f1 : Hid (∀ w, Calls Tryd.prog 60 #[.int .u8 (s[2 * k].toNat : Int)] w fun e w' => e = .returned (.tuple #[.int .u8 ((dgV s[2 * k].toNat : Nat) : Int), .bool (dgB s[2 * k].toNat)]) ∧ w' = w) := fun w => digit_any _ x1 w
      have f2 : Hid (∀ w, Calls Tryd.prog 60 #[.int .u8 (s[2 * k + 1].toNat : Int)] w fun e w' => e = .returned (.tuple #[.int .u8 ((dgV s[2 * k + 1].toNat : Nat) : Int), .bool (dgB s[2 * k + 1].toNat)]) ∧ w' = w) := fun w => digit_any _ x2 w
      have nx : Hid (dgB s[2 * k].toNat = true → dgB s[2 * k + 1].toNat = true → LeftH (out ++ [16 * dgV s[2 * k].toNat + dgV s[2 * k + 1].toNat]) (s.data.toList.drop (2 * (k + 1))) T) := fun g1 g2 => by
        have g3 := of_decide_eq_true g1
        have g4 := of_decide_eq_true g2
        have := lf.two g3 g4
        have e : (16 * halfC s[2 * k].toNat + halfC s[2 * k + 1].toNat).toNat = 16 * dgV s[2 * k].toNat + dgV s[2 * k + 1].toNat := by unfold dgV; omega
        rw [e] at this
        exact this
      have bd : Hid ((dgB s[2 * k].toNat = false ∨ dgB s[2 * k + 1].toNat = false) → T = none) := fun h => lf.bad (fun h2 => by
        rcases h with h | h
        · exact of_decide_eq_false h h2.1
        · exact of_decide_eq_false h h2.2)
      have v1 := dgV_lt s[2 * k].toNat
      have v2 := dgV_lt s[2 * k + 1].toNat
      clear lf left x1 x2
      generalize s[2 * k].toNat = c1 at *
      generalize s[2 * k + 1].toNat = c2 at *
      generalize dgV c1 = p at *
      generalize dgV c2 = q at *
      generalize dgB c1 = b1 at *
      generalize dgB c2 = b2 at *
      have rc := R.out.cell k (by rw [hexRow_len (by omega)]; omega)
      have rset := fun b => R.out.set k b
      rw [← hko] at rset
      obtain ⟨c0, cc⟩ : ∃ c0 : Int, wr.cell? ⟨w.heap.size, k, none⟩ = some (.int .u8 c0) := ⟨_, rc.1⟩
      have cf := rc.2
      clear rc
      cases b1
      · have fin : Hid (T = none) := bd.out (.inl rfl)
        clear nx bd rset R
        go_wp2_with fail
        refine (f1.out _).mono ?_
        rintro e w' ⟨rfl, rfl⟩
        clear f1
        go_wp2_with fail
        refine (f2.out _).mono ?_
        rintro e w' ⟨rfl, rfl⟩
        clear f2
        go_wp2
        go_ret2
        exact ⟨_, by rw [fin.out]; rfl, by rw [fin.out]; exact .inl ⟨rfl, rfl⟩, .inl rfl, B.out⟩
      · cases b2
        · have fin : Hid (T = none) := bd.out (.inr rfl)
          clear nx bd rset R
          go_wp2_with fail
          refine (f1.out _).mono ?_
          rintro e w' ⟨rfl, rfl⟩
          clear f1
          go_wp2_with fail
          refine (f2.out _).mono ?_
          rintro e w' ⟨rfl, rfl⟩
          clear f2
          go_wp2
          go_ret2
          exact ⟨_, by rw [fin.out]; rfl, by rw [fin.out]; exact .inl ⟨rfl, rfl⟩, .inl rfl, B.out⟩
        · have nl := nx.out rfl rfl
          have R2 := rset (16 * p + q)
          rw [hexRow_set (by omega), hko] at R2
          replace R2 : Hid (RowU (wr.setCell ⟨w.heap.size, k, none⟩ (.int .u8 ((16 * p + q : Nat) : Int))) w.heap.size L (hexRow L (out ++ [16 * p + q]))) := R2
          have hn := nib p q v1 v2
          generalize 16 * p + q = b at *
          clear nx bd rset R
          go_wp2_with fail
          refine (f1.out _).mono ?_
          rintro e w' ⟨rfl, rfl⟩
          clear f1
          go_wp2_with fail
          refine (f2.out _).mono ?_
          rintro e w' ⟨rfl, rfl⟩
          clear f2
          go_wp2
          exact ⟨⟨out ++ [b], by simp; omega, by simp [hko], R2, B.out.setCell (Nat.le_refl _) _, by simp only [List.length_append, List.length_singleton, hko]; exact nl⟩, by simp [intOf]; omega⟩
    · obtain rfl : k = L := by omega
      have fin : Hid (T = some out) := by
        have h := left.out
        rw [List.drop_eq_nil_of_le (by have := hL.out; simp; omega)] at h
        exact h.fin
      have X : Hid (BytesAt wr (.slice (some ⟨w.heap.size, 0, none⟩) k k) out) := by
        have h := R.out
        rw [hexRow_full hko] at h
        have h2 := h.at
        rw [hko] at h2
        exact h2
      clear left R hlt
      go_wp2
      go_ret2
      exact ⟨_, by rw [fin.out]; rfl, by rw [fin.out]; exact X.out, .inr ⟨_, _, _, rfl, Nat.le_refl _⟩, B.out⟩
set_option maxRecDepth 100000 in
set_option maxHeartbeats 4000000 in
theorem phex_none (s : ByteArray) (w : World) (h0 : (s.size : Int) = 0) :
    Calls Tryd.prog 52 #[.string s] w fun e w' => e = .returned (.tuple #[.slice none 0 0, .bool false]) ∧ w' = w := by
  go_enter Tryd.func52, Tryd.ntmps52
  go_wp2
  go_ret2
  exact ⟨rfl, rfl⟩
set_option maxRecDepth 100000 in
set_option maxHeartbeats 4000000 in
theorem phex_odd (s : ByteArray) (w : World) (hs : (s.size : Int) ≤ 5000) (h0 : 0 < (s.size : Int)) (hev : (s.size : Int) % 2 = 1) :
    Calls Tryd.prog 52 #[.string s] w fun e w' => e = .returned (.tuple #[.slice none 0 0, .bool false]) ∧ w' = w := by
  have hz : ((s.size : Int) == 0) = false := beq_eq_false_iff_ne.2 (by omega)
  have hq : ((s.size : Int) % 2 != 0) = true := by rw [hev]; rfl
  go_enter Tryd.func52, Tryd.ntmps52
  go_wp2
  go_ret2
  exact ⟨rfl, rfl⟩
theorem HH2 : HexP2 := fun s w hs => by
  have hl : s.data.toList.length = s.size := by simp
  by_cases h0 : s.size = 0
  · have e : hexR s.data.toList = none := by unfold hexR; rw [if_pos (List.length_eq_zero_iff.1 (hl.trans h0))]
    rw [e]
    refine (phex_none s w (by omega)).mono ?_
    rintro e w' ⟨rfl, rfl⟩
    exact ⟨_, rfl, .inl ⟨rfl, rfl⟩, .inl rfl, Below.refl _ _⟩
  · have e : hexR s.data.toList = hexO s.data.toList := by unfold hexR; rw [if_neg (fun q => h0 (by rw [← hl, q]; rfl))]
    rw [e]
    by_cases h1 : s.size % 2 = 1
    · rw [hex_odd _ (by rw [hl]; exact h1)]
      refine (phex_odd s w hs (by omega) (by omega)).mono ?_
      rintro e w' ⟨rfl, rfl⟩
      exact ⟨_, rfl, .inl ⟨rfl, rfl⟩, .inl rfl, Below.refl _ _⟩
    · exact phex_main s w hs (by omega) (s.size / 2) (by omega) _ rfl
theorem HH : HexP := fun s w hs => (HH2 s w hs).mono fun _ _ ⟨v, h1, h2, _, h3⟩ => ⟨v, h1, h2, h3⟩
end Go.Proofs.YtagkgneijdbkoaaDoor
