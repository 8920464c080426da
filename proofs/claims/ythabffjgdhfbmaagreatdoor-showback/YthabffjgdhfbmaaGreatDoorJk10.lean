/-
  Texts that belong together, one behind the other: CrcMath, CrcRefA, CrcKind, CrcRefC. Conditions: as each says.
-/
import Derived.Below
import Derived.Handy
import Derived.Laws.OwnMore
import Derived.Laws.Tables
import Derived.Maps.AppendAt
import Derived.OwnWalk
import Derived.RangeFuncBox
import Derived.RowKit
import Derived.Test.YthabffjgdhfbmaaGreatDoorProg
import Derived.WalkKit
import Derived.WalkLawsBesides
import Derived.WalkSpells
import Derived.Test.YthabffjgdhfbmaaGreatDoorJk1
set_option maxRecDepth 100000
set_option maxHeartbeats 32000000
set_option linter.unusedVariables false
namespace Go.Proofs.YthabffjgdhfbmaaGreatDoor
open Go.RowKit
def xl : List Bool → List Bool → List Bool
 | a :: asz, b :: bs => (a ^^ b) :: xl asz bs
 | _, _ => []
def numL (l : List Bool) : Nat := l.foldl (fun v b => 2 * v + b.toNat) 0
def bitsL (v : Nat) : Nat → List Bool
 | 0 => []
 | n + 1 => bitsL (v / 2) n ++ [decide (v % 2 = 1)]
theorem numL_nil : numL [] = 0 := rfl
theorem numL_snoc (l : List Bool) (b : Bool) : numL (l ++ [b]) = 2 * numL l + b.toNat := by simp [numL]
theorem foldl_num (l : List Bool) : ∀ v : Nat, l.foldl (fun v b => 2 * v + b.toNat) v = v * 2 ^ l.length + numL l := by
 unfold numL
 induction l with
 | nil => intro v; simp
 | cons b l ih =>
  intro v
  simp only [List.foldl_cons, List.length_cons]
  rw [ih, ih (2 * 0 + b.toNat), Nat.pow_succ]
  grind
theorem numL_cons (b : Bool) (l : List Bool) : numL (b :: l) = b.toNat * 2 ^ l.length + numL l := by
 have := foldl_num l (2 * 0 + b.toNat)
 unfold numL at *
 rw [List.foldl_cons, this]
 simp
theorem numL_lt (l : List Bool) : numL l < 2 ^ l.length := by
 induction l with
 | nil => decide
 | cons b l ih =>
  rw [numL_cons, List.length_cons, Nat.pow_succ]
  cases b
  · simp; omega
  · simp; omega
theorem bitsL_len (n : Nat) : ∀ v, (bitsL v n).length = n := by
 induction n with
 | zero => intro v; rfl
 | succ n ih => intro v; simp [bitsL, ih]
theorem numL_bits (n : Nat) : ∀ v, numL (bitsL v n) = v % 2 ^ n := by
 induction n with
 | zero => intro v; simp [bitsL, numL_nil, Nat.mod_one]
 | succ n ih =>
  intro v
  rw [bitsL, numL_snoc, ih]
  have h : (decide (v % 2 = 1)).toNat = v % 2 := by
   rcases Nat.mod_two_eq_zero_or_one v with h | h <;> simp [h]
  rw [h, Nat.pow_succ, Nat.mul_comm (2 ^ n) 2, Nat.mod_mul]
  omega
theorem snoc_of_len {l : List Bool} {n : Nat} (h : l.length = n + 1) : ∃ m b, l = m ++ [b] ∧ m.length = n := by
 refine ⟨l.dropLast, l.getLast (by intro e; rw [e] at h; cases h), (List.dropLast_concat_getLast _).symm, by simp [h]⟩
theorem bits_num (n : Nat) : ∀ l : List Bool, l.length = n → bitsL (numL l) n = l := by
 induction n with
 | zero => intro l h; rw [List.length_eq_zero_iff.1 h]; rfl
 | succ n ih =>
  intro l h
  obtain ⟨m, b, rfl, hm⟩ := snoc_of_len h
  rw [bitsL, numL_snoc]
  have e1 : (2 * numL m + b.toNat) / 2 = numL m := by cases b <;> simp <;> omega
  have e2 : decide ((2 * numL m + b.toNat) % 2 = 1) = b := by cases b <;> simp <;> omega
  rw [e1, e2, ih m hm]
theorem numL_inj {a b : List Bool} (h : a.length = b.length) (e : numL a = numL b) : a = b := by
 have h1 := bits_num b.length a h
 have h2 := bits_num b.length b rfl
 rw [← h1, e, h2]
theorem xl_len {a : List Bool} : ∀ {b : List Bool}, a.length = b.length → (xl a b).length = b.length := by
 induction a with
 | nil => intro b h; cases b with | nil => rfl | cons _ _ => cases h
 | cons x a ih =>
  intro b h
  cases b with
  | nil => cases h
  | cons y b => simp [xl, ih (Nat.succ.inj h)]
theorem xl_app {a : List Bool} : ∀ {b c d : List Bool}, a.length = b.length → xl (a ++ c) (b ++ d) = xl a b ++ xl c d := by
 induction a with
 | nil => intro b c d h; cases b with | nil => rfl | cons _ _ => cases h
 | cons x a ih =>
  intro b c d h
  cases b with
  | nil => cases h
  | cons y b => simp [xl, ih (Nat.succ.inj h)]
def stL (p : List Bool) : List Bool → List Bool
 | [] => []
 | h :: t => if h = true then xl (t ++ [false]) p else t ++ [false]
theorem stL_len {p r : List Bool} (h : p.length = r.length) : (stL p r).length = r.length := by
 cases r with
 | nil => rfl
 | cons b t =>
  cases b
  · show (t ++ [false]).length = t.length + 1
    simp
  · show (xl (t ++ [false]) p).length = t.length + 1
    rw [xl_len (by simpa using h.symm)]; exact h
def itL (p : List Bool) : Nat → List Bool → List Bool
 | 0, r => r
 | k + 1, r => itL p k (stL p r)
theorem itL_len {p : List Bool} (k : Nat) : ∀ {r : List Bool}, p.length = r.length → (itL p k r).length = r.length := by
 induction k with
 | zero => intro r h; rfl
 | succ k ih => intro r h; rw [itL, ih (by rw [stL_len h]; exact h), stL_len h]
def mixL (r c : List Bool) : List Bool := xl (r.take 8) c ++ r.drop 8
theorem mixL_len {r c : List Bool} (h : 8 ≤ r.length) (k : c.length = 8) : (mixL r c).length = r.length := by
 unfold mixL
 rw [List.length_append, xl_len (by rw [List.length_take, k]; omega), List.length_drop, k]
 omega
def byL (p r c : List Bool) : List Bool := itL p 8 (mixL r c)
def foldB (p : List Bool) (r : List Bool) (cs : List (List Bool)) : List Bool := cs.foldl (byL p) r
structure Fits (w : Nat) (p r : List Bool) : Prop where
 w8 : 8 ≤ w
 pl : p.length = w
 rl : r.length = w
theorem Fits.byte {w : Nat} {p r c : List Bool} (h : Fits w p r) (hc : c.length = 8) : Fits w p (byL p r c) := by
 have m : (mixL r c).length = r.length := mixL_len (by rw [h.rl]; exact h.w8) hc
 refine ⟨h.w8, h.pl, ?_⟩
 unfold byL
 rw [itL_len 8 (by rw [m, h.rl, h.pl]), m, h.rl]
theorem foldB_len {w : Nat} {p : List Bool} (cs : List (List Bool)) : ∀ {r : List Bool}, Fits w p r → (∀ c ∈ cs, c.length = 8) → Fits w p (foldB p r cs) := by
 induction cs with
 | nil => intro r h _; exact h
 | cons c cs ih => intro r h k; exact ih (h.byte (k c (by simp))) (fun x hx => k x (by simp [hx]))
def bcL (t : Bool) (c : Nat) : List Bool := if t = true then (bitsL c 8).reverse else bitsL c 8
def revL (t : Bool) (r : List Bool) : List Bool := if t = true then r.reverse else r
theorem bcL_len (t : Bool) (c : Nat) : (bcL t c).length = 8 := by unfold bcL; cases t <;> simp [bitsL_len]
theorem bcL_all (t : Bool) (cs : List Nat) : ∀ c ∈ cs.map (bcL t), c.length = 8 := by
 intro c h
 obtain ⟨x, _, rfl⟩ := List.mem_map.1 h
 exact bcL_len t x
theorem revL_len (t : Bool) (r : List Bool) : (revL t r).length = r.length := by unfold revL; cases t <;> simp
def sumL (w p f : Nat) (t : Bool) (z : Nat) (cs : List Nat) : Nat := numL (revL t (foldB (bitsL p w) (bitsL f w) (cs.map (bcL t)))) ^^^ z
theorem sum_fits {w : Nat} (p f : Nat) (t : Bool) (cs : List Nat) (hw : 8 ≤ w) : Fits w (bitsL p w) (foldB (bitsL p w) (bitsL f w) (cs.map (bcL t))) :=
 foldB_len _ ⟨hw, bitsL_len _ _, bitsL_len _ _⟩ (bcL_all t cs)
theorem sumL_lt {w p f : Nat} {t : Bool} {z : Nat} {cs : List Nat} (hw : 8 ≤ w) (hz : z < 2 ^ w) : sumL w p f t z cs < 2 ^ w := by
 have G := sum_fits p f t cs hw
 unfold sumL
 refine Nat.xor_lt_two_pow ?_ hz
 have := numL_lt (revL t (foldB (bitsL p w) (bitsL f w) (cs.map (bcL t))))
 rwa [revL_len, G.rl] at this
theorem info_bool : (Tryz.prog.info? 4).map (fun i => (i.zero, i.size, i.bytes)) = some (some (.bool false), 1, 1) := by kernel_rfl
def Row (w : World) (base : Nat) (x : Value) (l : List Bool) : Prop := w.ownsRow base 4 1 x l.length (l.map Value.bool)
theorem Row.form {w : World} {base : Nat} {x : Value} {l : List Bool} (h : Row w base x l) : (x = .slice none 0 0 ∧ l = []) ∨ ∃ g cap, x = .slice (some ⟨g, 0, none⟩) l.length cap ∧ l.length ≤ cap ∧ base ≤ g ∧ g < w.heap.size := by
 rcases h.2 with ⟨h1, h2⟩ | ⟨g, cap, cur, h1, h2, h3, h4, _⟩
 · exact .inl ⟨h1, List.length_eq_zero_iff.1 h2⟩
 · exact .inr ⟨g, cap, h1, h4, h2, (Array.getElem?_eq_some_iff.1 h3).1⟩
theorem Row.cell {w : World} {base g cap : Nat} {l : List Bool} (h : Row w base (.slice (some ⟨g, 0, none⟩) l.length cap) l) (j : Nat) (hj : j < l.length) : w.cell? ⟨g, j, none⟩ = some (.bool l[j]) := by
 rw [World.ownsRow.cellAt h j (by omega), List.getElem?_map, List.getElem?_eq_getElem hj]; rfl
theorem Row.below {w w' : World} {base : Nat} {x : Value} {l : List Bool} (h : Row w base x l) (hb : Below w.heap.size w w') : Row w' base x l := by
 refine ⟨h.1, ?_⟩
 rcases h.2 with k | ⟨g, cap, cur, h1, h2, h3, h4⟩
 · exact .inl k
 · exact .inr ⟨g, cap, cur, h1, h2, (hb.block g (Array.getElem?_eq_some_iff.1 h3).1).trans h3, h4⟩
theorem numL_take (l : List Bool) {k : Nat} (h : k < l.length) : numL (l.take (k + 1)) = 2 * numL (l.take k) + l[k].toNat := by
 rw [← List.take_append_getElem h, numL_snoc]
theorem number_any (l : List Bool) (x : Value) (base : Nat) (w : World) (h : Row w base x l) (hl : l.length ≤ 32) :
 Calls Tryz.prog 92 #[x] w fun e w' => e = .returned (.int .u32 (numL l : Int)) ∧ w' = w := by
 rcases h.form with ⟨rfl, rfl⟩ | ⟨g, cap, rfl, hc, _, _⟩
 · go_enter Tryz.func92, Tryz.ntmps92
   go_wp2
   go_loop [3, 4] (fun v i => v = .int .u32 0 ∧ i = .int .i64 0) (fun _ _ => 0)
   case atStart => exact ⟨rfl, rfl⟩
   case round =>
    obtain ⟨rfl, rfl⟩ := hrel
    go_wp2
    go_ret
    exact ⟨rfl, rfl⟩
 · have HC : Hid (∀ j (hj : j < l.length), w.cell? ⟨g, j, none⟩ = some (.bool l[j])) := fun j hj => h.cell j hj
   have hl1 : (l.length : Int) ≤ 32 := by omega
   clear h
   go_enter Tryz.func92, Tryz.ntmps92
   go_wp2
   go_loop [3, 4] (fun v i => ∃ k : Nat, k ≤ l.length ∧ i = .int .i64 (k : Int) ∧ v = .int .u32 ((numL (l.take k) : Nat) : Int)) (fun _ i => l.length - (intOf i).toNat)
   case atStart => exact ⟨0, by omega, rfl, rfl⟩
   case round =>
    obtain ⟨k, hk, rfl, rfl⟩ := hrel
    by_cases hlt : k < l.length
    · have hcell := HC.out k hlt
      have hnx : Hid (numL (l.take (k + 1)) = 2 * numL (l.take k) + l[k].toNat) := numL_take l hlt
      have hbd : numL (l.take k) < 2147483648 := by
       have h1 := numL_lt (l.take k)
       have h2 : (l.take k).length ≤ 31 := by rw [List.length_take]; omega
       have h3 : 2 ^ (l.take k).length ≤ 2 ^ 31 := Nat.pow_le_pow_right (by omega) h2
       omega
      have hb0 : (0 : Int) ≤ ((numL (l.take k) : Nat) : Int) ∧ ((numL (l.take k) : Nat) : Int) < 2147483648 := ⟨by omega, by omega⟩
      have hki : (k : Int) < (l.length : Int) := by omega
      generalize l[k] = b at *
      generalize numL (l.take k) = m at *
      obtain ⟨m', hm'⟩ : ∃ m', numL (l.take (k + 1)) = m' := ⟨_, rfl⟩
      have hm : numL (l.take (k + 1)) = m' := hm'
      rw [hm'] at hnx
      replace hm : Hid (numL (l.take (k + 1)) = m') := hm
      clear hm'
      have w1 : IntKind.u32.wrap (2 * (m : Int)) = 2 * (m : Int) := by
       simp only [IntKind.wrap_u32]; omega
      have w2 : IntKind.u32.wrap (2 * (m : Int) + 1) = 2 * (m : Int) + 1 := by
       simp only [IntKind.wrap_u32]; omega
      cases b
      · go_wp2
        exact ⟨⟨k + 1, by omega, by simp, by rw [hm.out, hnx.out]; simp⟩, by simp [intOf]; omega⟩
      · go_wp2
        exact ⟨⟨k + 1, by omega, by simp, by rw [hm.out, hnx.out]; simp⟩, by simp [intOf]; omega⟩
    · obtain rfl : k = l.length := by omega
      go_wp2
      go_ret
      exact ⟨rfl, rfl⟩
theorem bits_cons (v k : Nat) : bitsL v (k + 1) = decide (v / 2 ^ k % 2 = 1) :: bitsL v k := by
 refine numL_inj (by simp [bitsL_len]) ?_
 rw [numL_bits, numL_cons, bitsL_len, numL_bits]
 have h : (decide (v / 2 ^ k % 2 = 1)).toNat = v / 2 ^ k % 2 := by
  rcases Nat.mod_two_eq_zero_or_one (v / 2 ^ k) with h | h <;> simp [h]
 rw [h, Nat.pow_succ, Nat.mod_mul]
 grind
theorem row_one (w : World) (base : Nat) (b : Bool) (h : base ≤ w.heap.size) : (w.alloc (.cells #[.bool b] 4)).ownsRow base 4 1 (.slice (some ⟨w.heap.size, 0, none⟩) 1 1) 1 [.bool b] :=
 ⟨rfl, .inr ⟨w.heap.size, 1, #[.bool b], rfl, h, World.alloc_heap_new w _, by omega, by unfold maxLen; omega, rfl, rfl⟩⟩
theorem bits_any (v n : Nat) (w : World) (hv : v < 4294967296) (hn : n ≤ 40) :
 Calls Tryz.prog 90 #[.int .u32 (v : Int), .int .i64 (n : Int)] w fun e w' => ∃ x, e = .returned x ∧ Row w' w.heap.size x (bitsL v n) ∧ Below w.heap.size w w' := by
 obtain ⟨i0, hi, hz0, hz1, hz2⟩ := info_parts info_bool
 have hni : (n : Int) ≤ 40 := by omega
 go_enter Tryz.func90, Tryz.ntmps90
 go_wp2
 go_loopw [0, 5, 6] (fun a o i wr => ∃ k m : Nat, k ≤ n ∧ i = .int .i64 (k : Int) ∧ a = .int .u32 (m : Int) ∧ Hid (m = v / 2 ^ k) ∧ Hid (Row wr w.heap.size o (bitsL v k)) ∧ Hid (Below w.heap.size w wr)) (fun _ _ i _ => n - (intOf i).toNat)
 case atStart => exact ⟨0, v, by omega, rfl, rfl, by show _ = _; simp, World.ownsRow_nil _ _ _ _, Below.refl _ _⟩
 case round =>
  obtain ⟨k, m, hk, rfl, rfl, hm, hrow, hB⟩ := hrel
  have hmb : (0 : Int) ≤ (m : Int) ∧ (m : Int) < 4294967296 := by
   have : v / 2 ^ k ≤ v := Nat.div_le_self _ _
   have := hm.out
   exact ⟨by omega, by omega⟩
  by_cases hlt : k < n
  · have hki : (k : Int) < (n : Int) := by omega
    have hbit : Hid (bitsL v (k + 1) = decide (m % 2 = 1) :: bitsL v k) := by
     show _ = _
     rw [hm.out]; exact bits_cons v k
    have hdiv : Hid (m / 2 = v / 2 ^ (k + 1)) := by
     show _ = _
     rw [hm.out, Nat.div_div_eq_div_mul, Nat.pow_succ]
    have hbb : ((m : Int) % 2 == 1) = decide (m % 2 = 1) := by
     rw [Bool.eq_iff_iff]; simp; omega
    rcases hrow.out.form with ⟨rfl, hz⟩ | ⟨g, cap, rfl, hc, hg, hgl⟩
    · have hr1 : Hid (Row (wr.alloc (.cells #[.bool (decide (m % 2 = 1))] 4)) w.heap.size (.slice (some ⟨wr.heap.size, 0, none⟩) 1 1) (bitsL v (k + 1))) := by
       unfold Hid Row
       rw [hbit.out, hz]; exact row_one wr _ _ hB.out.size
      have hB1 : Hid (Below w.heap.size w (wr.alloc (.cells #[.bool (decide (m % 2 = 1))] 4))) := hB.out.alloc hB.out.size _
      clear hbit hm
      go_wp2
      exact ⟨⟨k + 1, m / 2, by omega, by simp, by simp, hdiv, hr1, hB1⟩, by simp [intOf]; omega⟩
    · have hkl : (bitsL v k).length = k := bitsL_len k v
      have hone : ∀ u ∈ (bitsL v k).map Value.bool, u.oneCell' = true := fun u hu => by
       obtain ⟨b, _, rfl⟩ := List.mem_map.1 hu; rfl
      have h63 : 1 + (bitsL v k).length ≤ maxLen := by unfold maxLen; omega
      have hby : (1 + (bitsL v k).length) * 1 ≤ 140737488355328 := by omega
      have hsz := hB.out.size
      go_wp2_with (at_builtin; refine wpList_append_own _ rfl _ _ 154 rfl w.heap.size 4 i0 (.bool false) 1 1 Tryz.underlying154 hi hz0 hz1 hz2 rfl (by decide) _ _ _ rfl (row_one wr w.heap.size (decide (m % 2 = 1)) hsz) ⟨g, 0, none⟩ (bitsL v k).length cap ((bitsL v k).map Value.bool) rfl (by simp) ((World.ownsRow.alloc hrow.out _).cells rfl) hone h63 hby (by simp; omega) ?_; intro v' w1 hown' hgrow _)
      have hr1 : Row w1 w.heap.size v' (bitsL v (k + 1)) := by
       unfold Row
       rw [hbit.out, List.length_cons, Nat.add_comm]
       exact hown'
      have hB1 : Below w.heap.size w w1 := by
       refine (hB.out.alloc hsz _).grown hgrow (by simp; omega) (fun j ej => ?_)
       exact (World.ownsRow.lt (row_one wr w.heap.size (decide (m % 2 = 1)) hsz) j ej).1
      exact ⟨⟨k + 1, m / 2, by omega, by simp, by simp, hdiv, hr1, hB1⟩, by simp [intOf]; omega⟩
  · obtain rfl : k = n := by omega
    go_wp2
    go_ret
    exact ⟨_, rfl, hrow.out, hB.out⟩
theorem drop_rev (l : List Bool) {j : Nat} (h : j < l.length) : (l.drop j).reverse = (l.drop (j + 1)).reverse ++ [l[j]] := by
 rw [List.drop_eq_getElem_cons h, List.reverse_cons]
theorem turned_any (l : List Bool) (x : Value) (base : Nat) (w : World) (h : Row w base x l) (hl : l.length ≤ 40) :
 Calls Tryz.prog 91 #[x] w fun e w' => ∃ y, e = .returned y ∧ Row w' w.heap.size y l.reverse ∧ Below w.heap.size w w' := by
 obtain ⟨i0, hi, hz0, hz1, hz2⟩ := info_parts info_bool
 rcases h.form with ⟨rfl, rfl⟩ | ⟨g, cap, rfl, hc, _, hgl⟩
 · go_enter Tryz.func91, Tryz.ntmps91
   go_wp2
   go_loop [3, 4] (fun o i => o = .slice none 0 0 ∧ i = .int .i64 (-1)) (fun _ _ => 0)
   case atStart => exact ⟨rfl, rfl⟩
   case round =>
    obtain ⟨rfl, rfl⟩ := hrel
    go_wp2
    go_ret
    exact ⟨_, rfl, World.ownsRow_nil _ _ _ _, Below.refl _ _⟩
 · have HC : Hid (∀ j (hj : j < l.length), w.cell? ⟨g, j, none⟩ = some (.bool l[j])) := fun j hj => h.cell j hj
   have hl1 : (l.length : Int) ≤ 40 := by omega
   clear h
   go_enter Tryz.func91, Tryz.ntmps91
   go_wp2
   go_loopw [3, 4] (fun o i wr => ∃ j : Nat, j ≤ l.length ∧ i = .int .i64 ((j : Int) - 1) ∧ Hid (Row wr w.heap.size o (l.drop j).reverse) ∧ Hid (Below w.heap.size w wr)) (fun _ i _ => (intOf i + 1).toNat)
   case atStart => exact ⟨l.length, by omega, by simp, by unfold Hid; rw [List.drop_length]; exact World.ownsRow_nil _ _ _ _, Below.refl _ _⟩
   case round =>
    obtain ⟨j, hj, rfl, hrow, hB⟩ := hrel
    cases j with
    | zero =>
     go_wp2
     go_ret
     exact ⟨_, rfl, hrow.out, hB.out⟩
    | succ j =>
     have ej : ((j + 1 : Nat) : Int) - 1 = (j : Int) := by omega
     have hji : (j : Int) < (l.length : Int) := by omega
     have hcell : wr.cell? ⟨g, j, none⟩ = some (.bool l[j]) := (hB.out.cell (p := ⟨g, j, none⟩) hgl).trans (HC.out j (by omega))
     have hrev : Hid ((l.drop j).reverse = (l.drop (j + 1)).reverse ++ [l[j]]) := drop_rev l (by omega)
     have hlen : (l.drop (j + 1)).reverse.length ≤ 40 := by simp; omega
     have h63 : (l.drop (j + 1)).reverse.length + 1 ≤ maxLen := by unfold maxLen; omega
     have hby : ((l.drop (j + 1)).reverse.length + 1) * 1 ≤ 140737488355328 := by omega
     have hsz := hB.out.size
     generalize l[j] = b at *
     rw [ej]
     go_wp2_with (at_builtin; refine wpList_append_own _ rfl _ _ 154 rfl w.heap.size 4 i0 (.bool false) 1 1 Tryz.underlying154 hi hz0 hz1 hz2 rfl (by decide) _ _ _ rfl (World.ownsRow.alloc hrow.out _) ⟨wr.heap.size, 0, none⟩ 1 1 [.bool b] rfl rfl (cell_one_new _ _ _) (by simp [Value.oneCell']) h63 hby (by simp; omega) ?_; intro v' w1 hown' hgrow _)
     have hr1 : Row w1 w.heap.size v' (l.drop j).reverse := by
      unfold Row
      rw [hrev.out, List.length_append, List.map_append]
      exact hown'
     have hB1 : Below w.heap.size w w1 := by
      refine (hB.out.alloc hsz _).grown hgrow (by simp; omega) (fun q eq => ?_)
      exact (World.ownsRow.lt hrow.out q eq).1
     exact ⟨⟨j, by omega, by simp, hr1, hB1⟩, by simp [intOf]⟩
abbrev kv (W : Int) (p f : Nat) (t : Bool) (z : Nat) : Value := .agg #[.int .i64 W, .int .u32 (p : Int), .int .u32 (f : Int), .bool t, .int .u32 (z : Int)]
def kindB (W : Int) (p f z : Nat) : Bool := decide (W = 8 ∨ W = 16 ∨ W = 32) && (decide (p < 2 ^ W.toNat) && (decide (f < 2 ^ W.toNat) && decide (z < 2 ^ W.toNat)))
def RowW (x : World) (g cap W : Nat) (l : List Bool) : Prop :=
 l.length = W ∧ W ≤ cap ∧ cap ≤ maxLen ∧ ∃ cur : Array Value, x.heap[g]? = some (.cells cur 4 (0, 0)) ∧ cur.size = cap ∧ cur.toList.take W = l.map Value.bool
theorem RowW.lt {x : World} {g cap W : Nat} {l : List Bool} (h : RowW x g cap W l) : g < x.heap.size := by
 obtain ⟨_, _, _, cur, h4, _⟩ := h
 exact (Array.getElem?_eq_some_iff.1 h4).1
theorem RowW.row {x : World} {g cap W base : Nat} {l : List Bool} (h : RowW x g cap W l) (hb : base ≤ g) : Row x base (.slice (some ⟨g, 0, none⟩) W cap) l := by
 obtain ⟨h1, h2, h3, cur, h4, h5, h6⟩ := h
 subst h1
 exact ⟨by simp, .inr ⟨g, cap, cur, rfl, hb, h4, h2, h3, by omega, by simpa using h6⟩⟩
theorem RowW.of {x : World} {base : Nat} {v : Value} {l : List Bool} (h : Row x base v l) (hl : 0 < l.length) : ∃ g cap, v = .slice (some ⟨g, 0, none⟩) l.length cap ∧ base ≤ g ∧ RowW x g cap l.length l := by
 rcases h.2 with ⟨_, k⟩ | ⟨g, cap, cur, h1, h2, h3, h4, h5, h6, h7⟩
 · omega
 · exact ⟨g, cap, h1, h2, rfl, h4, h5, cur, h3, by omega, by simpa using h7⟩
theorem RowW.cell {x : World} {g cap W : Nat} {l : List Bool} (h : RowW x g cap W l) (j : Nat) (hj : j < l.length) : x.cell? ⟨g, j, none⟩ = some (.bool l[j]) ∧ x.frozen? ⟨g, j, none⟩ = false := by
 obtain ⟨h1, h2, h3, cur, h4, h5, h6⟩ := h
 refine ⟨?_, ?_⟩
 · have : cur[j]? = some (.bool l[j]) := by
    rw [← Array.getElem?_toList]
    have e : (cur.toList.take W)[j]? = some (.bool l[j]) := by rw [h6, List.getElem?_map, List.getElem?_eq_getElem hj]; rfl
    rwa [List.getElem?_take_of_lt (by omega)] at e
   simp [World.cell?, h4, this]
 · simp [World.frozen?, h4]
theorem RowW.block {x y : World} {g cap W : Nat} {l : List Bool} (h : RowW x g cap W l) (e : y.heap[g]? = x.heap[g]?) : RowW y g cap W l := by
 obtain ⟨h1, h2, h3, cur, h4, h5⟩ := h
 exact ⟨h1, h2, h3, cur, e.trans h4, h5⟩
theorem RowW.below {x y : World} {g cap W : Nat} {l : List Bool} (h : RowW x g cap W l) (hb : Below x.heap.size x y) : RowW y g cap W l := h.block (hb.block g h.lt)
theorem RowW.set {x : World} {g cap W : Nat} {l : List Bool} (h : RowW x g cap W l) (j : Nat) (b : Bool) : RowW (x.setCell ⟨g, j, none⟩ (.bool b)) g cap W (l.set j b) := by
 obtain ⟨h1, h2, h3, cur, h4, h5, h6⟩ := h
 refine ⟨by rw [List.length_set]; exact h1, h2, h3, cur.setIfInBounds j (.bool b), ?_, by simp [h5], ?_⟩
 · rw [setCell_eq_setRow x g j cur _ (0, 0) _ h4]; exact setRow_heap x g cur _ _ (0, 0) h4
 · rw [Array.toList_setIfInBounds, List.take_set, h6, List.map_set]
structure SumSt (w x : World) (kc : Array Value) (g cap gp capp W : Nat) (rl pl : List Bool) : Prop where
 r : RowW x g cap W rl
 p : RowW x gp capp W pl
 ne : g ≠ gp
 gl : w.heap.size < g
 gpl : w.heap.size < gp
 k : x.heap[w.heap.size]? = some (.cells kc 110 (0, 0))
 b : Below w.heap.size w x
theorem SumSt.below {w x y : World} {kc : Array Value} {g cap gp capp W : Nat} {rl pl : List Bool} (h : SumSt w x kc g cap gp capp W rl pl) (hb : Below x.heap.size x y) : SumSt w y kc g cap gp capp W rl pl :=
 ⟨h.r.below hb, h.p.below hb, h.ne, h.gl, h.gpl, (hb.block _ (Array.getElem?_eq_some_iff.1 h.k).1).trans h.k, belowT h.b hb⟩
theorem SumSt.set {w x : World} {kc : Array Value} {g cap gp capp W : Nat} {rl pl : List Bool} (h : SumSt w x kc g cap gp capp W rl pl) (j : Nat) (b : Bool) :
 SumSt w (x.setCell ⟨g, j, none⟩ (.bool b)) kc g cap gp capp W (rl.set j b) pl :=
 ⟨h.r.set j b, h.p.block (blk_far _ _ _ _ h.ne.symm), h.ne, h.gl, h.gpl, (blk_far _ _ _ _ (by have := h.gl; simp; omega)).trans h.k, h.b.setCell (p := ⟨g, j, none⟩) (Nat.le_of_lt h.gl) _⟩
def partL (j : Nat) (r c : List Bool) : List Bool := xl (r.take j) (c.take j) ++ r.drop j
theorem partL_zero (r c : List Bool) : partL 0 r c = r := by simp [partL, xl]
theorem partL_len {j : Nat} {r c : List Bool} (h : j ≤ c.length) (k : j ≤ r.length) : (partL j r c).length = r.length := by
 unfold partL
 rw [List.length_append, xl_len (by simp; omega), List.length_take, List.length_drop]; omega
theorem partL_get {j : Nat} {r c : List Bool} (h : j ≤ c.length) (k : j < r.length) (l : j < (partL j r c).length) : (partL j r c)[j] = r[j] := by
 have e : (xl (r.take j) (c.take j)).length = j := by rw [xl_len (by simp; omega), List.length_take]; omega
 have g : (partL j r c)[j]? = some r[j] := by
  unfold partL
  rw [List.getElem?_append_right (by omega), e, Nat.sub_self, List.getElem?_drop, Nat.add_zero, List.getElem?_eq_getElem k]
 rw [List.getElem?_eq_getElem l] at g
 exact Option.some.inj g
theorem partL_next {j : Nat} {r c : List Bool} (h : j < c.length) (k : j < r.length) : (partL j r c).set j (r[j] ^^ c[j]) = partL (j + 1) r c := by
 have e : (xl (r.take j) (c.take j)).length = j := by rw [xl_len (by simp; omega), List.length_take]; omega
 unfold partL
 rw [List.set_append_right _ _ (by omega), e, Nat.sub_self, List.drop_eq_getElem_cons k, List.set_cons_zero]
 rw [← List.take_append_getElem k, ← List.take_append_getElem h, xl_app (by simp; omega), List.append_assoc]
 rfl
theorem partL_mix {r c : List Bool} (h : c.length = 8) : partL 8 r c = mixL r c := by
 unfold partL mixL; rw [show c.take 8 = c from List.take_of_length_le (by omega)]
theorem partL_all {r c : List Bool} (h : c.length = r.length) : partL r.length r c = xl r c := by
 unfold partL; rw [List.take_length, ← h, List.take_length, h, List.drop_length, List.append_nil]
end Go.Proofs.YthabffjgdhfbmaaGreatDoor
