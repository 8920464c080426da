/-
  The ways through the law on sums and the lrc behind them (layer 5), out of the contracts. Conditions: as each says.
-/
import Derived.Test.YtoocppfdcalmfaaSumCon
namespace Go.Proofs.Ytoocppfdcalmfaa
open Go.RowKit
set_option linter.unusedVariables false

theorem row_zeroU (w : World) : (w.alloc (.cells #[] 5)).ownsRow w.heap.size 5 1 (.slice (some ⟨w.heap.size, 0, none⟩) 0 0) 0 [] :=
  ⟨rfl, .inr ⟨w.heap.size, 0, #[], rfl, Nat.le_refl _, World.alloc_heap_new w _, by omega, by omega, rfl, rfl⟩⟩
/-- an ending of one byte -/
def OneAt (w : World) (name : ByteArray) (v : Value) (l : Nat) : Prop := ∀ x, Below w.heap.size w x →
  Calls Try.prog 8 #[.string name, v] x fun e w' => ∃ g o cap, e = .returned (.tuple #[.slice (some ⟨g, o, none⟩) 1 cap, .int .i64 0]) ∧ ByB w' g o [l] ∧ Below x.heap.size x w'
def OneOf (name : ByteArray) (bs : List Nat) (l : Nat) : Prop := ∀ (x : World) (v : Value), BytesAt x v bs →
  Calls Try.prog 8 #[.string name, v] x fun e w' => ∃ g o cap, e = .returned (.tuple #[.slice (some ⟨g, o, none⟩) 1 cap, .int .i64 0]) ∧ ByB w' g o [l] ∧ Below x.heap.size x w'
theorem oneOf (h : OfP) {k l : Nat} (hk : k < 9) {bs : List Nat} (hl : (bs.length : Int) ≤ 300) (hb : AllBytes bs) (he : endK k bs = [l]) : OneOf (nameN k) bs l := fun x v hv => by
  refine (h k v bs x hk hv hl hb).mono ?_
  rintro e w' ⟨y, rfl, hy, hb⟩
  rw [he] at hy
  obtain ⟨g, o, cap, rfl, hi, hg⟩ := at_row hy (by simp)
  exact ⟨g, o, cap, rfl, ⟨hi, hg⟩, hb⟩
theorem OneOf.ats {name : ByteArray} {bs : List Nat} {l : Nat} (h : OneOf name bs l) {w : World} {v : Value} (hv : BytesAt w v bs) : OneAt w name v l := fun x hx => h x v (hv.below hx)
/-- a copy with one byte more -/
theorem copy_one {w wA wB : World} {bs : List Nat} {l : Nat} {v1 v2 : Value} (hA : wA.ownsRow w.heap.size 5 1 v1 (0 + bs.length) ([] ++ u8v bs)) (gA : (w.alloc (.cells #[] 5)).grownBy wA (Value.slice (some ⟨w.heap.size, 0, none⟩) 0 0).ownBlock)
    (hB : wB.ownsRow w.heap.size 5 1 v2 (0 + bs.length + 1) ([] ++ u8v bs ++ [.int .u8 (l : Int)])) (gB : wA.grownBy wB v1.ownBlock) : BytesAt wB v2 (bs ++ [l]) ∧ Below w.heap.size w wB := by
  have bA : Below w.heap.size w wA := ((Below.refl _ w).alloc (Nat.le_refl _) _).grown gA (by simp) (fun j e => by simp [Value.ownBlock] at e; omega)
  have bB : Below w.heap.size w wB := bA.grown gB bA.size (fun j e => (World.ownsRow.lt hA j e).1)
  refine ⟨?_, bB⟩
  have hr : RowB wB w.heap.size v2 (bs ++ [l]) := by
    unfold RowB
    have e : 0 + bs.length + 1 = (bs ++ [l]).length := by simp
    have e2 : u8v (bs ++ [l]) = [] ++ u8v bs ++ [.int .u8 (l : Int)] := by simp [u8v]
    rw [e2, ← e]
    exact hB
  exact hr.at
theorem copy_below {w wA : World} {n : Nat} {v1 : Value} {xs : List Value} (hA : wA.ownsRow w.heap.size 5 1 v1 n xs) (gA : (w.alloc (.cells #[] 5)).grownBy wA (Value.slice (some ⟨w.heap.size, 0, none⟩) 0 0).ownBlock) : Below w.heap.size w wA :=
  ((Below.refl _ w).alloc (Nat.le_refl _) _).grown gA (by simp) (fun j e => by simp [Value.ownBlock] at e; omega)
theorem one_cell {l : Nat} : ∀ u ∈ u8v [l], u.oneCell' = true := bytes_one [l]
/-- one byte in a new block -/
theorem none_one {w wB : World} {l : Nat} {v2 : Value} (hB : wB.ownsRow w.heap.size 5 1 v2 (0 + 1) ([] ++ [.int .u8 (l : Int)])) (gB : (w.alloc (.cells #[] 5)).grownBy wB (Value.slice (some ⟨w.heap.size, 0, none⟩) 0 0).ownBlock) : BytesAt wB v2 [l] ∧ Below w.heap.size w wB := by
  refine ⟨?_, copy_below hB gB⟩
  have hr : RowB wB w.heap.size v2 [l] := by simpa [RowB] using hB
  exact hr.at

set_option maxRecDepth 100000 in
set_option maxHeartbeats 4000000 in
theorem zero_nil (w : World) (l m : Nat) (aw : AwC5) (cL : OneAt w ⟨#[108, 114, 99]⟩ (.slice none 0 0) l) (cM : OneAt w ⟨#[120, 111, 114]⟩ (.slice none 0 0) m) (cS : OneOf ⟨#[115, 117, 109]⟩ [l] 0) (cX : OneOf ⟨#[120, 111, 114]⟩ [m] 0) :
    Calls Try.prog 5 #[.slice none 0 0] w fun e w' => e = .returned (.bool true) ∧ Below w.heap.size w w' := by
  obtain ⟨i0, hi, hz0, hz1, hz2⟩ := info_parts info_u8
  go_enter Try.func5, Try.ntmps5
  go_wp2_with fail
  refine (aw _).mono ?_
  rintro e w1 ⟨rfl, hb⟩
  have B : Hid (Below w.heap.size w w1) := hb
  clear hb
  go_wp2_with fail
  refine (cL _ B.out).mono ?_
  rintro e w2 ⟨g1, o1, c1, rfl, y1, hb⟩
  have Y1 : Hid (ByB w2 g1 o1 [l]) := y1
  replace B : Hid (Below w.heap.size w w2) := belowT B.out hb
  clear hb y1
  go_wp2_with fail
  refine (cM _ B.out).mono ?_
  rintro e w3 ⟨g2, o2, c2, rfl, y2, hb⟩
  have Y2 : Hid (ByB w3 g2 o2 [m]) := y2
  replace Y1 : Hid (ByB w3 g1 o1 [l]) := Y1.out.below hb
  replace B : Hid (Below w.heap.size w w3) := belowT B.out hb
  clear hb y2
  go_wp2_with (at_builtin; refine wpList_append_own _ rfl _ _ 22 rfl w3.heap.size 5 i0 (.int .u8 0) 1 1 Try.underlying22 hi hz0 hz1 hz2 rfl (by decide) _ _ _ rfl (row_zeroU w3) ⟨g1, o1, none⟩ 1 c1 (u8v [l]) rfl rfl (bytes_news Y1.out.i Y1.out.g ((Below.refl _ _).alloc (Nat.le_refl _) _)) one_cell (by unfold maxLen; omega) (by omega) (by simp) ?_; intro v2 wB hB gB _; obtain ⟨q1, q2⟩ := none_one (l := l) hB gB; replace q1 : Hid (BytesAt wB v2 [l]) := q1; replace q2 : Hid (Below w3.heap.size w3 wB) := q2; clear hB gB)
  refine (cS _ _ q1.out).mono ?_
  rintro e w5 ⟨g3, o3, c3, rfl, yy, hb⟩
  have Y3 : Hid (ByB w5 g3 o3 [0]) := yy
  have hb2 : Below w3.heap.size w3 w5 := belowT q2.out hb
  replace B : Hid (Below w.heap.size w w5) := belowT B.out hb2
  replace Y2 : Hid (ByB w5 g2 o2 [m]) := Y2.out.below hb2
  clear hb hb2 yy q1 q2 Y1
  go_wp2_with (at_builtin; refine wpList_append_own _ rfl _ _ 22 rfl w5.heap.size 5 i0 (.int .u8 0) 1 1 Try.underlying22 hi hz0 hz1 hz2 rfl (by decide) _ _ _ rfl (row_zeroU w5) ⟨g2, o2, none⟩ 1 c2 (u8v [m]) rfl rfl (bytes_news Y2.out.i Y2.out.g ((Below.refl _ _).alloc (Nat.le_refl _) _)) one_cell (by unfold maxLen; omega) (by omega) (by simp) ?_; intro v2 wB hB gB _; obtain ⟨q1, q2⟩ := none_one (l := m) hB gB; replace q1 : Hid (BytesAt wB v2 [m]) := q1; replace q2 : Hid (Below w5.heap.size w5 wB) := q2; clear hB gB)
  refine (cX _ _ q1.out).mono ?_
  rintro e w7 ⟨g4, o4, c4, rfl, yy, hb⟩
  have Y4 : Hid (ByB w7 g4 o4 [0]) := yy
  have hb2 : Below w5.heap.size w5 w7 := belowT q2.out hb
  replace B : Hid (Below w.heap.size w w7) := belowT B.out hb2
  replace Y3 : Hid (ByB w7 g3 o3 [0]) := Y3.out.below hb2
  clear hb hb2 yy q1 q2
  have d3 : w7.cell? ⟨g3, o3, none⟩ = some (.int .u8 0) := Y3.out.cell 0 (by simp)
  have d4 : w7.cell? ⟨g4, o4, none⟩ = some (.int .u8 0) := Y4.out.cell 0 (by simp)
  go_wp2
  go_ret
  exact ⟨rfl, B.out⟩

set_option maxRecDepth 100000 in
set_option maxHeartbeats 4000000 in
theorem zero_row (w : World) (g o cap : Nat) (bs : List Nat) (hl : (bs.length : Int) ≤ 200) (hb0 : Hid (ByB w g o bs)) (l m : Nat) (aw : AwC5) (cL : OneAt w ⟨#[108, 114, 99]⟩ (.slice (some ⟨g, o, none⟩) bs.length cap) l) (cM : OneAt w ⟨#[120, 111, 114]⟩ (.slice (some ⟨g, o, none⟩) bs.length cap) m) (cS : OneOf ⟨#[115, 117, 109]⟩ (bs ++ [l]) 0) (cX : OneOf ⟨#[120, 111, 114]⟩ (bs ++ [m]) 0) :
    Calls Try.prog 5 #[.slice (some ⟨g, o, none⟩) bs.length cap] w fun e w' => e = .returned (.bool true) ∧ Below w.heap.size w w' := by
  obtain ⟨i0, hi, hz0, hz1, hz2⟩ := info_parts info_u8
  go_enter Try.func5, Try.ntmps5
  go_wp2_with fail
  refine (aw _).mono ?_
  rintro e w1 ⟨rfl, hb⟩
  have B : Hid (Below w.heap.size w w1) := hb
  clear hb
  go_wp2_with fail
  refine (cL _ B.out).mono ?_
  rintro e w2 ⟨g1, o1, c1, rfl, y1, hb⟩
  have Y1 : Hid (ByB w2 g1 o1 [l]) := y1
  replace B : Hid (Below w.heap.size w w2) := belowT B.out hb
  clear hb y1
  go_wp2_with fail
  refine (cM _ B.out).mono ?_
  rintro e w3 ⟨g2, o2, c2, rfl, y2, hb⟩
  have Y2 : Hid (ByB w3 g2 o2 [m]) := y2
  replace Y1 : Hid (ByB w3 g1 o1 [l]) := Y1.out.below hb
  replace B : Hid (Below w.heap.size w w3) := belowT B.out hb
  clear hb y2
  have nw : Hid (∀ q y, (u8v bs)[q]? = some y → (w3.alloc (.cells #[] 5)).cell? ((⟨g, o, none⟩ : Addr).add q) = some y) := bytes_news hb0.out.i hb0.out.g (B.out.alloc B.out.size _)
  have h63 : 0 + bs.length ≤ maxLen := by unfold maxLen; omega
  have hby : (0 + bs.length) * 1 ≤ 140737488355328 := by omega
  have h63b : 0 + bs.length + 1 ≤ maxLen := by unfold maxLen; omega
  have hbyb : (0 + bs.length + 1) * 1 ≤ 140737488355328 := by omega
  go_wp2_with (first
    | (at_builtin; refine wpList_append_own _ rfl _ _ 22 rfl w3.heap.size 5 i0 (.int .u8 0) 1 1 Try.underlying22 hi hz0 hz1 hz2 rfl (by decide) _ _ _ rfl (row_zeroU w3) ⟨g, o, none⟩ bs.length cap (u8v bs) rfl (by simp) nw.out (bytes_one bs) h63 hby (by simp) ?_; intro v1 wA hA gA _)
    | (at_builtin; refine wpList_append_own _ rfl _ _ 22 rfl w3.heap.size 5 i0 (.int .u8 0) 1 1 Try.underlying22 hi hz0 hz1 hz2 rfl (by decide) _ _ _ rfl hA ⟨g1, o1, none⟩ 1 c1 (u8v [l]) rfl rfl (bytes_news Y1.out.i Y1.out.g (copy_below hA gA)) one_cell h63b hbyb (copy_below hA gA).size ?_; intro v2 wB hB gB _; obtain ⟨q1, q2⟩ := copy_one (l := l) hA gA hB gB; replace q1 : Hid (BytesAt wB v2 (bs ++ [l])) := q1; replace q2 : Hid (Below w3.heap.size w3 wB) := q2; clear hA gA hB gB))
  refine (cS _ _ q1.out).mono ?_
  rintro e w5 ⟨g3, o3, c3, rfl, yy, hb⟩
  have Y3 : Hid (ByB w5 g3 o3 [0]) := yy
  have hb2 : Below w3.heap.size w3 w5 := belowT q2.out hb
  replace B : Hid (Below w.heap.size w w5) := belowT B.out hb2
  replace Y2 : Hid (ByB w5 g2 o2 [m]) := Y2.out.below hb2
  clear hb hb2 yy q1 q2 nw h63 hby h63b hbyb Y1
  have nw : Hid (∀ q y, (u8v bs)[q]? = some y → (w5.alloc (.cells #[] 5)).cell? ((⟨g, o, none⟩ : Addr).add q) = some y) := bytes_news hb0.out.i hb0.out.g (B.out.alloc B.out.size _)
  have h63 : 0 + bs.length ≤ maxLen := by unfold maxLen; omega
  have hby : (0 + bs.length) * 1 ≤ 140737488355328 := by omega
  have h63b : 0 + bs.length + 1 ≤ maxLen := by unfold maxLen; omega
  have hbyb : (0 + bs.length + 1) * 1 ≤ 140737488355328 := by omega
  go_wp2_with (first
    | (at_builtin; refine wpList_append_own _ rfl _ _ 22 rfl w5.heap.size 5 i0 (.int .u8 0) 1 1 Try.underlying22 hi hz0 hz1 hz2 rfl (by decide) _ _ _ rfl (row_zeroU w5) ⟨g, o, none⟩ bs.length cap (u8v bs) rfl (by simp) nw.out (bytes_one bs) h63 hby (by simp) ?_; intro v1 wA hA gA _)
    | (at_builtin; refine wpList_append_own _ rfl _ _ 22 rfl w5.heap.size 5 i0 (.int .u8 0) 1 1 Try.underlying22 hi hz0 hz1 hz2 rfl (by decide) _ _ _ rfl hA ⟨g2, o2, none⟩ 1 c2 (u8v [m]) rfl rfl (bytes_news Y2.out.i Y2.out.g (copy_below hA gA)) one_cell h63b hbyb (copy_below hA gA).size ?_; intro v2 wB hB gB _; obtain ⟨q1, q2⟩ := copy_one (l := m) hA gA hB gB; replace q1 : Hid (BytesAt wB v2 (bs ++ [m])) := q1; replace q2 : Hid (Below w5.heap.size w5 wB) := q2; clear hA gA hB gB))
  refine (cX _ _ q1.out).mono ?_
  rintro e w7 ⟨g4, o4, c4, rfl, yy, hb⟩
  have Y4 : Hid (ByB w7 g4 o4 [0]) := yy
  have hb2 : Below w5.heap.size w5 w7 := belowT q2.out hb
  replace B : Hid (Below w.heap.size w w7) := belowT B.out hb2
  replace Y3 : Hid (ByB w7 g3 o3 [0]) := Y3.out.below hb2
  clear hb hb2 yy q1 q2 nw h63 hby h63b hbyb
  have d3 : w7.cell? ⟨g3, o3, none⟩ = some (.int .u8 0) := Y3.out.cell 0 (by simp)
  have d4 : w7.cell? ⟨g4, o4, none⟩ = some (.int .u8 0) := Y4.out.cell 0 (by simp)
  go_wp2
  go_ret
  exact ⟨rfl, B.out⟩

set_option maxRecDepth 100000 in
set_option maxHeartbeats 2000000 in
theorem zero_long (w : World) (g o L cap : Nat) (hl : 200 < (L : Int)) (aw : AwC5) : Calls Try.prog 5 #[.slice (some ⟨g, o, none⟩) L cap] w fun e w' => e = .returned (.bool true) ∧ Below w.heap.size w w' := by
  go_enter Try.func5, Try.ntmps5
  go_wp2_with fail
  refine (aw _).mono ?_
  rintro e w1 ⟨rfl, hb⟩
  have B : Hid (Below w.heap.size w w1) := hb
  clear hb
  go_wp2_with fail
  refine (aw _).mono ?_
  rintro e w2 ⟨rfl, hb⟩
  replace B : Hid (Below w.heap.size w w2) := belowT B.out hb
  clear hb
  go_wp2
  go_ret
  exact ⟨rfl, B.out⟩
/-- the law, out of the contract of Of -/
theorem zero_any (h : OfP) (w : World) (v : Value) (bs : List Nat) (hv : BytesV w v bs) (hb : AllBytes bs) : Calls Try.prog 5 #[v] w fun e w' => e = .returned (.bool true) ∧ Below w.heap.size w w' := by
  have aw := awake5 h
  obtain ⟨z1, z2⟩ := end_zero bs
  obtain ⟨l, hl⟩ : ∃ l, endK 2 bs = [l] := ⟨_, rfl⟩
  obtain ⟨m, hm⟩ : ∃ m, endK 3 bs = [m] := ⟨_, rfl⟩
  have bl : l < 256 := end_bytes (k := 2) (by omega) hb l (by rw [hl]; simp)
  have bm : m < 256 := end_bytes (k := 3) (by omega) hb m (by rw [hm]; simp)
  rw [hl] at z1
  rw [hm] at z2
  have all1 : ∀ x, x < 256 → AllBytes (bs ++ [x]) := fun x hx c hc => by
    rcases List.mem_append.1 hc with q | q
    · exact hb c q
    · rw [List.mem_singleton] at q; omega
  by_cases hq : (bs.length : Int) ≤ 200
  · have cL := oneOf h (k := 2) (by omega) (by omega) hb hl
    have cM := oneOf h (k := 3) (by omega) (by omega) hb hm
    have cS := oneOf h (k := 1) (by omega) (bs := bs ++ [l]) (by simp; omega) (all1 l bl) z1
    have cX := oneOf h (k := 3) (by omega) (bs := bs ++ [m]) (by simp; omega) (all1 m bm) z2
    have cL2 := cL.ats hv.at
    have cM2 := cM.ats hv.at
    rcases hv with ⟨rfl, rfl⟩ | ⟨g, o, cap, rfl, _, _, h1, h2⟩
    · exact zero_nil w l m aw cL2 cM2 cS cX
    · exact zero_row w g o cap bs hq ⟨h1, h2⟩ l m aw cL2 cM2 cS cX
  · rcases hv with ⟨rfl, rfl⟩ | ⟨g, o, cap, rfl, _, _, h1, h2⟩
    · simp at hq
    · exact zero_long w g o bs.length cap (by omega) aw
end Go.Proofs.Ytoocppfdcalmfaa
