/-
  What the program's own Size and Of return (layer 5). Conditions: the bytes lie in memory that was there before, at most 300.
-/
import Derived.Deep.RegionHeld3
import Derived.Test.YtoocppfdcalmfaaSumNum
import Derived.Test.YtoocppfdcalmfaaSumHigh
import Derived.Test.YtoocppfdcalmfaaSumTab
namespace Go.Proofs.Ytoocppfdcalmfaa
open Go.RowKit
set_option linter.unusedVariables false

/-- the maker's contract -/
def MakeC : Prop := ∀ w, Calls Try.prog 13 #[] w fun e w' => e = .returned (.map (some w.heap.size)) ∧ w' = KW w
theorem makeC : MakeC := kinds_any
theorem kw_alloc (w : World) (o : Obj) : Below w.heap.size w ((KW w).alloc o) := (kw_below w).alloc (by rw [kw_size]; omega) _

set_option maxRecDepth 100000 in
set_option maxHeartbeats 2000000 in
theorem size_no : SizeN := fun s w hs => by
  have lk := look_no hs w
  have mk := makeC
  have B : Hid (Below w.heap.size w ((KW w).alloc (.cells #[.int .i64 0, .int .i64 0, .nilFunc] 40))) := kw_alloc w _
  go_enter Try.func9, Try.ntmps9
  go_wp2_with fail
  refine (mk _).mono ?_
  rintro e w1 ⟨rfl, rfl⟩
  clear mk
  go_wp2
  go_ret2
  exact ⟨rfl, B.out⟩

set_option maxRecDepth 100000 in
set_option maxHeartbeats 2000000 in
theorem size_0 (w : World) : Calls Try.prog 9 #[.string e0] w fun e w' => e = .returned (.tuple #[.int .i64 0, .bool true]) ∧ Below w.heap.size w w' := by
  have lk : (Instr.lookup 42 (.map (some w.heap.size)) (.string e0) true).run Try.prog (KW w) = .ok (.tuple #[.agg #[.int .i64 0, .int .i64 0, .func (.func 18) #[] #[]], .bool true]) (KW w) := look_yes (k := 0) (by omega) w
  have mk := makeC
  have B : Hid (Below w.heap.size w ((KW w).alloc (.cells #[.int .i64 0, .int .i64 0, .func (.func 18) #[] #[]] 40))) := kw_alloc w _
  go_enter Try.func9, Try.ntmps9
  go_wp2_with fail
  refine (mk _).mono ?_
  rintro e w1 ⟨rfl, rfl⟩
  clear mk
  go_wp2
  go_ret2
  exact ⟨rfl, B.out⟩

set_option maxRecDepth 100000 in
set_option maxHeartbeats 2000000 in
theorem size_1 (w : World) : Calls Try.prog 9 #[.string e1] w fun e w' => e = .returned (.tuple #[.int .i64 1, .bool true]) ∧ Below w.heap.size w w' := by
  have lk : (Instr.lookup 42 (.map (some w.heap.size)) (.string e1) true).run Try.prog (KW w) = .ok (.tuple #[.agg #[.int .i64 1, .int .i64 1, .func (.func 19) #[] #[]], .bool true]) (KW w) := look_yes (k := 1) (by omega) w
  have mk := makeC
  have B : Hid (Below w.heap.size w ((KW w).alloc (.cells #[.int .i64 1, .int .i64 1, .func (.func 19) #[] #[]] 40))) := kw_alloc w _
  go_enter Try.func9, Try.ntmps9
  go_wp2_with fail
  refine (mk _).mono ?_
  rintro e w1 ⟨rfl, rfl⟩
  clear mk
  go_wp2
  go_ret2
  exact ⟨rfl, B.out⟩

set_option maxRecDepth 100000 in
set_option maxHeartbeats 2000000 in
theorem size_2 (w : World) : Calls Try.prog 9 #[.string e2] w fun e w' => e = .returned (.tuple #[.int .i64 1, .bool true]) ∧ Below w.heap.size w w' := by
  have lk : (Instr.lookup 42 (.map (some w.heap.size)) (.string e2) true).run Try.prog (KW w) = .ok (.tuple #[.agg #[.int .i64 2, .int .i64 1, .func (.func 20) #[] #[]], .bool true]) (KW w) := look_yes (k := 2) (by omega) w
  have mk := makeC
  have B : Hid (Below w.heap.size w ((KW w).alloc (.cells #[.int .i64 2, .int .i64 1, .func (.func 20) #[] #[]] 40))) := kw_alloc w _
  go_enter Try.func9, Try.ntmps9
  go_wp2_with fail
  refine (mk _).mono ?_
  rintro e w1 ⟨rfl, rfl⟩
  clear mk
  go_wp2
  go_ret2
  exact ⟨rfl, B.out⟩

set_option maxRecDepth 100000 in
set_option maxHeartbeats 2000000 in
theorem size_3 (w : World) : Calls Try.prog 9 #[.string e3] w fun e w' => e = .returned (.tuple #[.int .i64 1, .bool true]) ∧ Below w.heap.size w w' := by
  have lk : (Instr.lookup 42 (.map (some w.heap.size)) (.string e3) true).run Try.prog (KW w) = .ok (.tuple #[.agg #[.int .i64 3, .int .i64 1, .func (.func 21) #[] #[]], .bool true]) (KW w) := look_yes (k := 3) (by omega) w
  have mk := makeC
  have B : Hid (Below w.heap.size w ((KW w).alloc (.cells #[.int .i64 3, .int .i64 1, .func (.func 21) #[] #[]] 40))) := kw_alloc w _
  go_enter Try.func9, Try.ntmps9
  go_wp2_with fail
  refine (mk _).mono ?_
  rintro e w1 ⟨rfl, rfl⟩
  clear mk
  go_wp2
  go_ret2
  exact ⟨rfl, B.out⟩

set_option maxRecDepth 100000 in
set_option maxHeartbeats 2000000 in
theorem size_4 (w : World) : Calls Try.prog 9 #[.string e4] w fun e w' => e = .returned (.tuple #[.int .i64 2, .bool true]) ∧ Below w.heap.size w w' := by
  have lk : (Instr.lookup 42 (.map (some w.heap.size)) (.string e4) true).run Try.prog (KW w) = .ok (.tuple #[.agg #[.int .i64 4, .int .i64 2, .func (.func 22) #[] #[]], .bool true]) (KW w) := look_yes (k := 4) (by omega) w
  have mk := makeC
  have B : Hid (Below w.heap.size w ((KW w).alloc (.cells #[.int .i64 4, .int .i64 2, .func (.func 22) #[] #[]] 40))) := kw_alloc w _
  go_enter Try.func9, Try.ntmps9
  go_wp2_with fail
  refine (mk _).mono ?_
  rintro e w1 ⟨rfl, rfl⟩
  clear mk
  go_wp2
  go_ret2
  exact ⟨rfl, B.out⟩

set_option maxRecDepth 100000 in
set_option maxHeartbeats 2000000 in
theorem size_5 (w : World) : Calls Try.prog 9 #[.string e5] w fun e w' => e = .returned (.tuple #[.int .i64 1, .bool true]) ∧ Below w.heap.size w w' := by
  have lk : (Instr.lookup 42 (.map (some w.heap.size)) (.string e5) true).run Try.prog (KW w) = .ok (.tuple #[.agg #[.int .i64 5, .int .i64 1, .func (.func 27) #[] #[.pointer (some ⟨w.heap.size + 1, 0, none⟩)]], .bool true]) (KW w) := look_yes (k := 5) (by omega) w
  have mk := makeC
  have B : Hid (Below w.heap.size w ((KW w).alloc (.cells #[.int .i64 5, .int .i64 1, .func (.func 27) #[] #[.pointer (some ⟨w.heap.size + 1, 0, none⟩)]] 40))) := kw_alloc w _
  go_enter Try.func9, Try.ntmps9
  go_wp2_with fail
  refine (mk _).mono ?_
  rintro e w1 ⟨rfl, rfl⟩
  clear mk
  go_wp2
  go_ret2
  exact ⟨rfl, B.out⟩

set_option maxRecDepth 100000 in
set_option maxHeartbeats 2000000 in
theorem size_6 (w : World) : Calls Try.prog 9 #[.string e6] w fun e w' => e = .returned (.tuple #[.int .i64 2, .bool true]) ∧ Below w.heap.size w w' := by
  have lk : (Instr.lookup 42 (.map (some w.heap.size)) (.string e6) true).run Try.prog (KW w) = .ok (.tuple #[.agg #[.int .i64 6, .int .i64 2, .func (.func 27) #[] #[.pointer (some ⟨w.heap.size + 2, 0, none⟩)]], .bool true]) (KW w) := look_yes (k := 6) (by omega) w
  have mk := makeC
  have B : Hid (Below w.heap.size w ((KW w).alloc (.cells #[.int .i64 6, .int .i64 2, .func (.func 27) #[] #[.pointer (some ⟨w.heap.size + 2, 0, none⟩)]] 40))) := kw_alloc w _
  go_enter Try.func9, Try.ntmps9
  go_wp2_with fail
  refine (mk _).mono ?_
  rintro e w1 ⟨rfl, rfl⟩
  clear mk
  go_wp2
  go_ret2
  exact ⟨rfl, B.out⟩

set_option maxRecDepth 100000 in
set_option maxHeartbeats 2000000 in
theorem size_7 (w : World) : Calls Try.prog 9 #[.string e7] w fun e w' => e = .returned (.tuple #[.int .i64 2, .bool true]) ∧ Below w.heap.size w w' := by
  have lk : (Instr.lookup 42 (.map (some w.heap.size)) (.string e7) true).run Try.prog (KW w) = .ok (.tuple #[.agg #[.int .i64 7, .int .i64 2, .func (.func 27) #[] #[.pointer (some ⟨w.heap.size + 3, 0, none⟩)]], .bool true]) (KW w) := look_yes (k := 7) (by omega) w
  have mk := makeC
  have B : Hid (Below w.heap.size w ((KW w).alloc (.cells #[.int .i64 7, .int .i64 2, .func (.func 27) #[] #[.pointer (some ⟨w.heap.size + 3, 0, none⟩)]] 40))) := kw_alloc w _
  go_enter Try.func9, Try.ntmps9
  go_wp2_with fail
  refine (mk _).mono ?_
  rintro e w1 ⟨rfl, rfl⟩
  clear mk
  go_wp2
  go_ret2
  exact ⟨rfl, B.out⟩

set_option maxRecDepth 100000 in
set_option maxHeartbeats 2000000 in
theorem size_8 (w : World) : Calls Try.prog 9 #[.string e8] w fun e w' => e = .returned (.tuple #[.int .i64 4, .bool true]) ∧ Below w.heap.size w w' := by
  have lk : (Instr.lookup 42 (.map (some w.heap.size)) (.string e8) true).run Try.prog (KW w) = .ok (.tuple #[.agg #[.int .i64 8, .int .i64 4, .func (.func 27) #[] #[.pointer (some ⟨w.heap.size + 4, 0, none⟩)]], .bool true]) (KW w) := look_yes (k := 8) (by omega) w
  have mk := makeC
  have B : Hid (Below w.heap.size w ((KW w).alloc (.cells #[.int .i64 8, .int .i64 4, .func (.func 27) #[] #[.pointer (some ⟨w.heap.size + 4, 0, none⟩)]] 40))) := kw_alloc w _
  go_enter Try.func9, Try.ntmps9
  go_wp2_with fail
  refine (mk _).mono ?_
  rintro e w1 ⟨rfl, rfl⟩
  clear mk
  go_wp2
  go_ret2
  exact ⟨rfl, B.out⟩
theorem size_yes : SizeP := fun k w hk => by
  match k, hk with
  | 0, _ => exact size_0 w
  | 1, _ => exact size_1 w
  | 2, _ => exact size_2 w
  | 3, _ => exact size_3 w
  | 4, _ => exact size_4 w
  | 5, _ => exact size_5 w
  | 6, _ => exact size_6 w
  | 7, _ => exact size_7 w
  | 8, _ => exact size_8 w

/-- what the region of Of keeps: the kind's size and function -/
def Kb (W : World) (b : Nat) (sz : Int) (F : Value) (x : World) : Prop := (x.cell? ⟨b, 1, none⟩ = some (.int .i64 sz) ∧ x.cell? ⟨b, 2, none⟩ = some F) ∧ Below W.heap.size W x
theorem Kb.below {W : World} {b : Nat} {sz : Int} {F : Value} {x y : World} (h : Kb W b sz F x) (hb : Below x.heap.size x y) : Kb W b sz F y :=
  ⟨⟨(hb.cell (block_lt_of_cell h.1.1)).trans h.1.1, (hb.cell (block_lt_of_cell h.1.2)).trans h.1.2⟩, belowT h.2 hb⟩
theorem Kb.b {W : World} {b : Nat} {sz : Int} {F : Value} {x : World} (h : Kb W b sz F x) : Below W.heap.size W x := h.2
theorem Kb.drew {W : World} {b : Nat} {sz : Int} {F : Value} {x : World} (h : Kb W b sz F x) : Kb W b sz F x.drew := h.below (Below.refl _ _).drew
theorem kb_new (w : World) (p s F : Value) (sz : Int) (hs : s = .int .i64 sz) : Kb (w.alloc (.cells #[p, s, F] 40)) w.heap.size sz F (w.alloc (.cells #[p, s, F] 40)) := by
  subst hs
  exact ⟨⟨by simp, by simp⟩, Below.refl _ _⟩
/-- what a kind's function answers, over every world behind W -/
def FnAt (W : World) (f : FuncId) (args : Array Value) (V : Nat) : Prop := ∀ x, Below W.heap.size W x → Calls Try.prog f args x fun e w' => e = .returned (.int .u32 (V : Int)) ∧ Below x.heap.size x w'
def HiC (V : Nat) (n : Int) (E : List Nat) : Prop := ∀ x, Calls Try.prog 14 #[.int .u32 (V : Int), .int .i64 n] x fun e w' => ∃ y, e = .returned y ∧ BytesAt w' y E ∧ Below x.heap.size x w'
theorem same_below {f : FuncId} {args : Array Value} {x : World} {v : Value} (h : Calls Try.prog f args x fun e w' => e = .returned v ∧ w' = x) : Calls Try.prog f args x fun e w' => e = .returned v ∧ Below x.heap.size x w' :=
  h.mono fun _ _ ⟨a, b⟩ => ⟨a, by rw [b]; exact Below.refl _ _⟩
theorem end_1 (bs : List Nat) : bigL (totN bs % 256) 1 = endK 1 bs := by simp [bigL, endK]
theorem end_2 (bs : List Nat) : bigL ((256 - totN bs % 256) % 256) 1 = endK 2 bs := by simp [bigL, endK]
theorem end_3 {bs : List Nat} (h : AllBytes bs) : bigL (mixB bs) 1 = endK 3 bs := by have := mix_lt h; simp [bigL, endK]; omega
theorem end_4 (bs : List Nat) : bigL (fleN bs) 2 = endK 4 bs := by
  have h1 : fleN bs / 256 % 256 = (secN bs).2 % 255 := by unfold fleN; omega
  have h2 : fleN bs % 256 = totN bs % 255 := by unfold fleN; omega
  show [] ++ [fleN bs / 256 % 256] ++ [fleN bs % 256] = [(secN bs).2 % 255, totN bs % 255]
  rw [h1, h2]
  rfl

set_option maxRecDepth 100000 in
set_option maxHeartbeats 4000000 in
theorem of_0 (v : Value) (bs : List Nat) (w : World) (hv : BytesAt w v bs) (hl : (bs.length : Int) ≤ 300) (hb : AllBytes bs) :
    Calls Try.prog 8 #[.string e0, v] w fun e w' => ∃ x, e = .returned (.tuple #[x, .int .i64 0]) ∧ BytesAt w' x (endK 0 bs) ∧ Below w.heap.size w w' := by
  have lk : (Instr.lookup 42 (.map (some w.heap.size)) (.string e0) true).run Try.prog (KW w) = .ok (.tuple #[.agg #[.int .i64 0, .int .i64 0, .func (.func 18) #[] #[]], .bool true]) (KW w) := look_yes (k := 0) (by omega) w
  have mk := makeC
  have B : Hid (Below w.heap.size w ((KW w).alloc (.cells #[.int .i64 0, .int .i64 0, .func (.func 18) #[] #[]] 40))) := kw_alloc w _
  have hW : BytesAt ((KW w).alloc (.cells #[.int .i64 0, .int .i64 0, .func (.func 18) #[] #[]] 40)) v bs := hv.below B.out
  obtain ⟨V, hV⟩ : ∃ V : Nat, V = 0 := ⟨_, rfl⟩
  have fn : FnAt ((KW w).alloc (.cells #[.int .i64 0, .int .i64 0, .func (.func 18) #[] #[]] 40)) 18 #[v] V := by
    rw [hV]
    exact fun x hx => same_below (nothing_any v x)
  have hi : HiC V 0 (endK 0 bs) := by
    rw [hV]
    intro x
    have h := high_any (0) 0 x (by omega) (by omega)
    rwa [show bigL (0) 0 = endK 0 bs from rfl] at h
  have KS : Hid (Kb ((KW w).alloc (.cells #[.int .i64 0, .int .i64 0, .func (.func 18) #[] #[]] 40)) (KW w).heap.size 0 (.func (.func 18) #[] #[]) ((KW w).alloc (.cells #[.int .i64 0, .int .i64 0, .func (.func 18) #[] #[]] 40))) := kb_new (KW w) _ _ _ 0 rfl
  clear hv hl hb hW
  clear hV
  generalize endK 0 bs = E at *
  go_enter Try.func8, Try.ntmps8
  go_wp2_with fail
  refine (mk _).mono ?_
  rintro e w1 ⟨rfl, rfl⟩
  clear mk
  go_upto_region 4 with fail
  generalize ((KW w).alloc (.cells #[.int .i64 0, .int .i64 0, .func (.func 18) #[] #[]] 40)) = WW at *
  generalize (KW w).heap.size = b at *
  clear lk
  obtain ⟨⟨c1, c2⟩, -⟩ := KS.out
  go_region_held3 (fun x => (x.cell? ⟨b, 1, none⟩ = some (.int .i64 0) ∧ x.cell? ⟨b, 2, none⟩ = some (.func (.func 18) #[] #[])) ∧ Below WW.heap.size WW x)
    ((show Kb WW b 0 (.func (.func 18) #[] #[]) _; (repeat (first | with_reducible exact KS.out | with_reducible refine Kb.drew ?_))))
    (first
      | (go_at_call 18; refine (fn _ (by first | with_reducible exact KS.out.b | with_reducible exact KS.out.drew.b)).mono ?_; rintro e y ⟨rfl, hb⟩
         have KS : Hid (Kb WW b 0 (.func (.func 18) #[] #[]) y) := Kb.below (by first | with_reducible exact KS.out | with_reducible exact KS.out.drew) hb)
      | (go_at_call 14; refine (hi _).mono ?_; rintro e z ⟨X, rfl, hx, hb⟩
         have KS : Hid (Kb WW b 0 (.func (.func 18) #[] #[]) z) := Kb.below (by first | with_reducible exact KS.out | with_reducible exact KS.out.drew) hb
         have HX : Hid (BytesAt z X E) := hx))
  all_goals
    replace B : Hid (Below w.heap.size w _) := belowT B.out KS.out.b
    clear KS fn hi
    go_wp2
    go_ret2
    exact ⟨_, rfl, HX.out, B.out⟩

set_option maxRecDepth 100000 in
set_option maxHeartbeats 4000000 in
theorem of_1 (v : Value) (bs : List Nat) (w : World) (hv : BytesAt w v bs) (hl : (bs.length : Int) ≤ 300) (hb : AllBytes bs) :
    Calls Try.prog 8 #[.string e1, v] w fun e w' => ∃ x, e = .returned (.tuple #[x, .int .i64 0]) ∧ BytesAt w' x (endK 1 bs) ∧ Below w.heap.size w w' := by
  have lk : (Instr.lookup 42 (.map (some w.heap.size)) (.string e1) true).run Try.prog (KW w) = .ok (.tuple #[.agg #[.int .i64 1, .int .i64 1, .func (.func 19) #[] #[]], .bool true]) (KW w) := look_yes (k := 1) (by omega) w
  have mk := makeC
  have B : Hid (Below w.heap.size w ((KW w).alloc (.cells #[.int .i64 1, .int .i64 1, .func (.func 19) #[] #[]] 40))) := kw_alloc w _
  have hW : BytesAt ((KW w).alloc (.cells #[.int .i64 1, .int .i64 1, .func (.func 19) #[] #[]] 40)) v bs := hv.below B.out
  obtain ⟨V, hV⟩ : ∃ V : Nat, V = totN bs % 256 := ⟨_, rfl⟩
  have fn : FnAt ((KW w).alloc (.cells #[.int .i64 1, .int .i64 1, .func (.func 19) #[] #[]] 40)) 19 #[v] V := by
    rw [hV]
    exact fun x hx => same_below (added_any v bs x (hW.below hx) hl hb)
  have hi : HiC V 1 (endK 1 bs) := by
    rw [hV]
    intro x
    have h := high_any (totN bs % 256) 1 x (by omega) (by omega)
    rwa [show bigL (totN bs % 256) 1 = endK 1 bs from end_1 bs] at h
  have KS : Hid (Kb ((KW w).alloc (.cells #[.int .i64 1, .int .i64 1, .func (.func 19) #[] #[]] 40)) (KW w).heap.size 1 (.func (.func 19) #[] #[]) ((KW w).alloc (.cells #[.int .i64 1, .int .i64 1, .func (.func 19) #[] #[]] 40))) := kb_new (KW w) _ _ _ 1 rfl
  clear hv hl hb hW
  clear hV
  generalize endK 1 bs = E at *
  go_enter Try.func8, Try.ntmps8
  go_wp2_with fail
  refine (mk _).mono ?_
  rintro e w1 ⟨rfl, rfl⟩
  clear mk
  go_upto_region 4 with fail
  generalize ((KW w).alloc (.cells #[.int .i64 1, .int .i64 1, .func (.func 19) #[] #[]] 40)) = WW at *
  generalize (KW w).heap.size = b at *
  clear lk
  obtain ⟨⟨c1, c2⟩, -⟩ := KS.out
  go_region_held3 (fun x => (x.cell? ⟨b, 1, none⟩ = some (.int .i64 1) ∧ x.cell? ⟨b, 2, none⟩ = some (.func (.func 19) #[] #[])) ∧ Below WW.heap.size WW x)
    ((show Kb WW b 1 (.func (.func 19) #[] #[]) _; (repeat (first | with_reducible exact KS.out | with_reducible refine Kb.drew ?_))))
    (first
      | (go_at_call 19; refine (fn _ (by first | with_reducible exact KS.out.b | with_reducible exact KS.out.drew.b)).mono ?_; rintro e y ⟨rfl, hb⟩
         have KS : Hid (Kb WW b 1 (.func (.func 19) #[] #[]) y) := Kb.below (by first | with_reducible exact KS.out | with_reducible exact KS.out.drew) hb)
      | (go_at_call 14; refine (hi _).mono ?_; rintro e z ⟨X, rfl, hx, hb⟩
         have KS : Hid (Kb WW b 1 (.func (.func 19) #[] #[]) z) := Kb.below (by first | with_reducible exact KS.out | with_reducible exact KS.out.drew) hb
         have HX : Hid (BytesAt z X E) := hx))
  all_goals
    replace B : Hid (Below w.heap.size w _) := belowT B.out KS.out.b
    clear KS fn hi
    go_wp2
    go_ret2
    exact ⟨_, rfl, HX.out, B.out⟩

set_option maxRecDepth 100000 in
set_option maxHeartbeats 4000000 in
theorem of_2 (v : Value) (bs : List Nat) (w : World) (hv : BytesAt w v bs) (hl : (bs.length : Int) ≤ 300) (hb : AllBytes bs) :
    Calls Try.prog 8 #[.string e2, v] w fun e w' => ∃ x, e = .returned (.tuple #[x, .int .i64 0]) ∧ BytesAt w' x (endK 2 bs) ∧ Below w.heap.size w w' := by
  have lk : (Instr.lookup 42 (.map (some w.heap.size)) (.string e2) true).run Try.prog (KW w) = .ok (.tuple #[.agg #[.int .i64 2, .int .i64 1, .func (.func 20) #[] #[]], .bool true]) (KW w) := look_yes (k := 2) (by omega) w
  have mk := makeC
  have B : Hid (Below w.heap.size w ((KW w).alloc (.cells #[.int .i64 2, .int .i64 1, .func (.func 20) #[] #[]] 40))) := kw_alloc w _
  have hW : BytesAt ((KW w).alloc (.cells #[.int .i64 2, .int .i64 1, .func (.func 20) #[] #[]] 40)) v bs := hv.below B.out
  obtain ⟨V, hV⟩ : ∃ V : Nat, V = (256 - totN bs % 256) % 256 := ⟨_, rfl⟩
  have fn : FnAt ((KW w).alloc (.cells #[.int .i64 2, .int .i64 1, .func (.func 20) #[] #[]] 40)) 20 #[v] V := by
    rw [hV]
    exact fun x hx => same_below (lacking_any v bs x (hW.below hx) hl hb)
  have hi : HiC V 1 (endK 2 bs) := by
    rw [hV]
    intro x
    have h := high_any ((256 - totN bs % 256) % 256) 1 x (by omega) (by omega)
    rwa [show bigL ((256 - totN bs % 256) % 256) 1 = endK 2 bs from end_2 bs] at h
  have KS : Hid (Kb ((KW w).alloc (.cells #[.int .i64 2, .int .i64 1, .func (.func 20) #[] #[]] 40)) (KW w).heap.size 1 (.func (.func 20) #[] #[]) ((KW w).alloc (.cells #[.int .i64 2, .int .i64 1, .func (.func 20) #[] #[]] 40))) := kb_new (KW w) _ _ _ 1 rfl
  clear hv hl hb hW
  clear hV
  generalize endK 2 bs = E at *
  go_enter Try.func8, Try.ntmps8
  go_wp2_with fail
  refine (mk _).mono ?_
  rintro e w1 ⟨rfl, rfl⟩
  clear mk
  go_upto_region 4 with fail
  generalize ((KW w).alloc (.cells #[.int .i64 2, .int .i64 1, .func (.func 20) #[] #[]] 40)) = WW at *
  generalize (KW w).heap.size = b at *
  clear lk
  obtain ⟨⟨c1, c2⟩, -⟩ := KS.out
  go_region_held3 (fun x => (x.cell? ⟨b, 1, none⟩ = some (.int .i64 1) ∧ x.cell? ⟨b, 2, none⟩ = some (.func (.func 20) #[] #[])) ∧ Below WW.heap.size WW x)
    ((show Kb WW b 1 (.func (.func 20) #[] #[]) _; (repeat (first | with_reducible exact KS.out | with_reducible refine Kb.drew ?_))))
    (first
      | (go_at_call 20; refine (fn _ (by first | with_reducible exact KS.out.b | with_reducible exact KS.out.drew.b)).mono ?_; rintro e y ⟨rfl, hb⟩
         have KS : Hid (Kb WW b 1 (.func (.func 20) #[] #[]) y) := Kb.below (by first | with_reducible exact KS.out | with_reducible exact KS.out.drew) hb)
      | (go_at_call 14; refine (hi _).mono ?_; rintro e z ⟨X, rfl, hx, hb⟩
         have KS : Hid (Kb WW b 1 (.func (.func 20) #[] #[]) z) := Kb.below (by first | with_reducible exact KS.out | with_reducible exact KS.out.drew) hb
         have HX : Hid (BytesAt z X E) := hx))
  all_goals
    replace B : Hid (Below w.heap.size w _) := belowT B.out KS.out.b
    clear KS fn hi
    go_wp2
    go_ret2
    exact ⟨_, rfl, HX.out, B.out⟩

set_option maxRecDepth 100000 in
set_option maxHeartbeats 4000000 in
theorem of_3 (v : Value) (bs : List Nat) (w : World) (hv : BytesAt w v bs) (hl : (bs.length : Int) ≤ 300) (hb : AllBytes bs) :
    Calls Try.prog 8 #[.string e3, v] w fun e w' => ∃ x, e = .returned (.tuple #[x, .int .i64 0]) ∧ BytesAt w' x (endK 3 bs) ∧ Below w.heap.size w w' := by
  have lk : (Instr.lookup 42 (.map (some w.heap.size)) (.string e3) true).run Try.prog (KW w) = .ok (.tuple #[.agg #[.int .i64 3, .int .i64 1, .func (.func 21) #[] #[]], .bool true]) (KW w) := look_yes (k := 3) (by omega) w
  have mk := makeC
  have B : Hid (Below w.heap.size w ((KW w).alloc (.cells #[.int .i64 3, .int .i64 1, .func (.func 21) #[] #[]] 40))) := kw_alloc w _
  have hW : BytesAt ((KW w).alloc (.cells #[.int .i64 3, .int .i64 1, .func (.func 21) #[] #[]] 40)) v bs := hv.below B.out
  obtain ⟨V, hV⟩ : ∃ V : Nat, V = mixB bs := ⟨_, rfl⟩
  have fn : FnAt ((KW w).alloc (.cells #[.int .i64 3, .int .i64 1, .func (.func 21) #[] #[]] 40)) 21 #[v] V := by
    rw [hV]
    exact fun x hx => same_below (madeOne_any v bs x (hW.below hx) hl hb)
  have hi : HiC V 1 (endK 3 bs) := by
    rw [hV]
    intro x
    have h := high_any (mixB bs) 1 x (by have := mix_lt hb; omega) (by omega)
    rwa [show bigL (mixB bs) 1 = endK 3 bs from end_3 hb] at h
  have KS : Hid (Kb ((KW w).alloc (.cells #[.int .i64 3, .int .i64 1, .func (.func 21) #[] #[]] 40)) (KW w).heap.size 1 (.func (.func 21) #[] #[]) ((KW w).alloc (.cells #[.int .i64 3, .int .i64 1, .func (.func 21) #[] #[]] 40))) := kb_new (KW w) _ _ _ 1 rfl
  clear hv hl hb hW
  clear hV
  generalize endK 3 bs = E at *
  go_enter Try.func8, Try.ntmps8
  go_wp2_with fail
  refine (mk _).mono ?_
  rintro e w1 ⟨rfl, rfl⟩
  clear mk
  go_upto_region 4 with fail
  generalize ((KW w).alloc (.cells #[.int .i64 3, .int .i64 1, .func (.func 21) #[] #[]] 40)) = WW at *
  generalize (KW w).heap.size = b at *
  clear lk
  obtain ⟨⟨c1, c2⟩, -⟩ := KS.out
  go_region_held3 (fun x => (x.cell? ⟨b, 1, none⟩ = some (.int .i64 1) ∧ x.cell? ⟨b, 2, none⟩ = some (.func (.func 21) #[] #[])) ∧ Below WW.heap.size WW x)
    ((show Kb WW b 1 (.func (.func 21) #[] #[]) _; (repeat (first | with_reducible exact KS.out | with_reducible refine Kb.drew ?_))))
    (first
      | (go_at_call 21; refine (fn _ (by first | with_reducible exact KS.out.b | with_reducible exact KS.out.drew.b)).mono ?_; rintro e y ⟨rfl, hb⟩
         have KS : Hid (Kb WW b 1 (.func (.func 21) #[] #[]) y) := Kb.below (by first | with_reducible exact KS.out | with_reducible exact KS.out.drew) hb)
      | (go_at_call 14; refine (hi _).mono ?_; rintro e z ⟨X, rfl, hx, hb⟩
         have KS : Hid (Kb WW b 1 (.func (.func 21) #[] #[]) z) := Kb.below (by first | with_reducible exact KS.out | with_reducible exact KS.out.drew) hb
         have HX : Hid (BytesAt z X E) := hx))
  all_goals
    replace B : Hid (Below w.heap.size w _) := belowT B.out KS.out.b
    clear KS fn hi
    go_wp2
    go_ret2
    exact ⟨_, rfl, HX.out, B.out⟩

set_option maxRecDepth 100000 in
set_option maxHeartbeats 4000000 in
theorem of_4 (v : Value) (bs : List Nat) (w : World) (hv : BytesAt w v bs) (hl : (bs.length : Int) ≤ 300) (hb : AllBytes bs) :
    Calls Try.prog 8 #[.string e4, v] w fun e w' => ∃ x, e = .returned (.tuple #[x, .int .i64 0]) ∧ BytesAt w' x (endK 4 bs) ∧ Below w.heap.size w w' := by
  have lk : (Instr.lookup 42 (.map (some w.heap.size)) (.string e4) true).run Try.prog (KW w) = .ok (.tuple #[.agg #[.int .i64 4, .int .i64 2, .func (.func 22) #[] #[]], .bool true]) (KW w) := look_yes (k := 4) (by omega) w
  have mk := makeC
  have B : Hid (Below w.heap.size w ((KW w).alloc (.cells #[.int .i64 4, .int .i64 2, .func (.func 22) #[] #[]] 40))) := kw_alloc w _
  have hW : BytesAt ((KW w).alloc (.cells #[.int .i64 4, .int .i64 2, .func (.func 22) #[] #[]] 40)) v bs := hv.below B.out
  obtain ⟨V, hV⟩ : ∃ V : Nat, V = fleN bs := ⟨_, rfl⟩
  have fn : FnAt ((KW w).alloc (.cells #[.int .i64 4, .int .i64 2, .func (.func 22) #[] #[]] 40)) 22 #[v] V := by
    rw [hV]
    exact fun x hx => same_below (fletcher_any v bs x (hW.below hx) hl hb)
  have hi : HiC V 2 (endK 4 bs) := by
    rw [hV]
    intro x
    have h := high_any (fleN bs) 2 x (by unfold fleN; omega) (by omega)
    rwa [show bigL (fleN bs) 2 = endK 4 bs from end_4 bs] at h
  have KS : Hid (Kb ((KW w).alloc (.cells #[.int .i64 4, .int .i64 2, .func (.func 22) #[] #[]] 40)) (KW w).heap.size 2 (.func (.func 22) #[] #[]) ((KW w).alloc (.cells #[.int .i64 4, .int .i64 2, .func (.func 22) #[] #[]] 40))) := kb_new (KW w) _ _ _ 2 rfl
  clear hv hl hb hW
  clear hV
  generalize endK 4 bs = E at *
  go_enter Try.func8, Try.ntmps8
  go_wp2_with fail
  refine (mk _).mono ?_
  rintro e w1 ⟨rfl, rfl⟩
  clear mk
  go_upto_region 4 with fail
  generalize ((KW w).alloc (.cells #[.int .i64 4, .int .i64 2, .func (.func 22) #[] #[]] 40)) = WW at *
  generalize (KW w).heap.size = b at *
  clear lk
  obtain ⟨⟨c1, c2⟩, -⟩ := KS.out
  go_region_held3 (fun x => (x.cell? ⟨b, 1, none⟩ = some (.int .i64 2) ∧ x.cell? ⟨b, 2, none⟩ = some (.func (.func 22) #[] #[])) ∧ Below WW.heap.size WW x)
    ((show Kb WW b 2 (.func (.func 22) #[] #[]) _; (repeat (first | with_reducible exact KS.out | with_reducible refine Kb.drew ?_))))
    (first
      | (go_at_call 22; refine (fn _ (by first | with_reducible exact KS.out.b | with_reducible exact KS.out.drew.b)).mono ?_; rintro e y ⟨rfl, hb⟩
         have KS : Hid (Kb WW b 2 (.func (.func 22) #[] #[]) y) := Kb.below (by first | with_reducible exact KS.out | with_reducible exact KS.out.drew) hb)
      | (go_at_call 14; refine (hi _).mono ?_; rintro e z ⟨X, rfl, hx, hb⟩
         have KS : Hid (Kb WW b 2 (.func (.func 22) #[] #[]) z) := Kb.below (by first | with_reducible exact KS.out | with_reducible exact KS.out.drew) hb
         have HX : Hid (BytesAt z X E) := hx))
  all_goals
    replace B : Hid (Below w.heap.size w _) := belowT B.out KS.out.b
    clear KS fn hi
    go_wp2
    go_ret2
    exact ⟨_, rfl, HX.out, B.out⟩

set_option maxRecDepth 100000 in
set_option maxHeartbeats 4000000 in
theorem of_5 (v : Value) (bs : List Nat) (w : World) (hv : BytesAt w v bs) (hl : (bs.length : Int) ≤ 300) (hb : AllBytes bs) :
    Calls Try.prog 8 #[.string e5, v] w fun e w' => ∃ x, e = .returned (.tuple #[x, .int .i64 0]) ∧ BytesAt w' x (endK 5 bs) ∧ Below w.heap.size w w' := by
  have lk : (Instr.lookup 42 (.map (some w.heap.size)) (.string e5) true).run Try.prog (KW w) = .ok (.tuple #[.agg #[.int .i64 5, .int .i64 1, .func (.func 27) #[] #[.pointer (some ⟨w.heap.size + 1, 0, none⟩)]], .bool true]) (KW w) := look_yes (k := 5) (by omega) w
  have mk := makeC
  have B : Hid (Below w.heap.size w ((KW w).alloc (.cells #[.int .i64 5, .int .i64 1, .func (.func 27) #[] #[.pointer (some ⟨w.heap.size + 1, 0, none⟩)]] 40))) := kw_alloc w _
  have hW : BytesAt ((KW w).alloc (.cells #[.int .i64 5, .int .i64 1, .func (.func 27) #[] #[.pointer (some ⟨w.heap.size + 1, 0, none⟩)]] 40)) v bs := hv.below B.out
  have hc : ((KW w).alloc (.cells #[.int .i64 5, .int .i64 1, .func (.func 27) #[] #[.pointer (some ⟨w.heap.size + 1, 0, none⟩)]] 40)).cell? ⟨w.heap.size + 1, 0, none⟩ = some (.string e5) := (((Below.refl _ _).alloc (Nat.le_refl _) _).cell (w := KW w) (p := ⟨w.heap.size + 1, 0, none⟩) (by rw [kw_size]; simp)).trans (kw_box5 w)
  obtain ⟨V, hV⟩ : ∃ V : Nat, V = sumV 8 7 0 false 0 bs := ⟨_, rfl⟩
  have fn : FnAt ((KW w).alloc (.cells #[.int .i64 5, .int .i64 1, .func (.func 27) #[] #[.pointer (some ⟨w.heap.size + 1, 0, none⟩)]] 40)) 27 #[v, .pointer (some ⟨w.heap.size + 1, 0, none⟩)] V := by
    rw [hV]
    exact fun x hx => clo_5 _ v bs x ((hx.cell (block_lt_of_cell hc)).trans hc) (hW.below hx) hl hb
  have hi : HiC V 1 (endK 5 bs) := by
    rw [hV]
    intro x
    have h := high_any (sumV 8 7 0 false 0 bs) 1 x (sumV_u32 kind_ok.1) (by omega)
    rwa [show bigL (sumV 8 7 0 false 0 bs) 1 = endK 5 bs from rfl] at h
  have KS : Hid (Kb ((KW w).alloc (.cells #[.int .i64 5, .int .i64 1, .func (.func 27) #[] #[.pointer (some ⟨w.heap.size + 1, 0, none⟩)]] 40)) (KW w).heap.size 1 (.func (.func 27) #[] #[.pointer (some ⟨w.heap.size + 1, 0, none⟩)]) ((KW w).alloc (.cells #[.int .i64 5, .int .i64 1, .func (.func 27) #[] #[.pointer (some ⟨w.heap.size + 1, 0, none⟩)]] 40))) := kb_new (KW w) _ _ _ 1 rfl
  clear hv hl hb hW hc
  clear hV
  generalize endK 5 bs = E at *
  go_enter Try.func8, Try.ntmps8
  go_wp2_with fail
  refine (mk _).mono ?_
  rintro e w1 ⟨rfl, rfl⟩
  clear mk
  go_upto_region 4 with fail
  generalize ((KW w).alloc (.cells #[.int .i64 5, .int .i64 1, .func (.func 27) #[] #[.pointer (some ⟨w.heap.size + 1, 0, none⟩)]] 40)) = WW at *
  generalize (KW w).heap.size = b at *
  clear lk
  obtain ⟨⟨c1, c2⟩, -⟩ := KS.out
  go_region_held3 (fun x => (x.cell? ⟨b, 1, none⟩ = some (.int .i64 1) ∧ x.cell? ⟨b, 2, none⟩ = some (.func (.func 27) #[] #[.pointer (some ⟨w.heap.size + 1, 0, none⟩)])) ∧ Below WW.heap.size WW x)
    ((show Kb WW b 1 (.func (.func 27) #[] #[.pointer (some ⟨w.heap.size + 1, 0, none⟩)]) _; (repeat (first | with_reducible exact KS.out | with_reducible refine Kb.drew ?_))))
    (first
      | (go_at_call 27; refine (fn _ (by first | with_reducible exact KS.out.b | with_reducible exact KS.out.drew.b)).mono ?_; rintro e y ⟨rfl, hb⟩
         have KS : Hid (Kb WW b 1 (.func (.func 27) #[] #[.pointer (some ⟨w.heap.size + 1, 0, none⟩)]) y) := Kb.below (by first | with_reducible exact KS.out | with_reducible exact KS.out.drew) hb)
      | (go_at_call 14; refine (hi _).mono ?_; rintro e z ⟨X, rfl, hx, hb⟩
         have KS : Hid (Kb WW b 1 (.func (.func 27) #[] #[.pointer (some ⟨w.heap.size + 1, 0, none⟩)]) z) := Kb.below (by first | with_reducible exact KS.out | with_reducible exact KS.out.drew) hb
         have HX : Hid (BytesAt z X E) := hx))
  all_goals
    replace B : Hid (Below w.heap.size w _) := belowT B.out KS.out.b
    clear KS fn hi
    go_wp2
    go_ret2
    exact ⟨_, rfl, HX.out, B.out⟩

set_option maxRecDepth 100000 in
set_option maxHeartbeats 4000000 in
theorem of_6 (v : Value) (bs : List Nat) (w : World) (hv : BytesAt w v bs) (hl : (bs.length : Int) ≤ 300) (hb : AllBytes bs) :
    Calls Try.prog 8 #[.string e6, v] w fun e w' => ∃ x, e = .returned (.tuple #[x, .int .i64 0]) ∧ BytesAt w' x (endK 6 bs) ∧ Below w.heap.size w w' := by
  have lk : (Instr.lookup 42 (.map (some w.heap.size)) (.string e6) true).run Try.prog (KW w) = .ok (.tuple #[.agg #[.int .i64 6, .int .i64 2, .func (.func 27) #[] #[.pointer (some ⟨w.heap.size + 2, 0, none⟩)]], .bool true]) (KW w) := look_yes (k := 6) (by omega) w
  have mk := makeC
  have B : Hid (Below w.heap.size w ((KW w).alloc (.cells #[.int .i64 6, .int .i64 2, .func (.func 27) #[] #[.pointer (some ⟨w.heap.size + 2, 0, none⟩)]] 40))) := kw_alloc w _
  have hW : BytesAt ((KW w).alloc (.cells #[.int .i64 6, .int .i64 2, .func (.func 27) #[] #[.pointer (some ⟨w.heap.size + 2, 0, none⟩)]] 40)) v bs := hv.below B.out
  have hc : ((KW w).alloc (.cells #[.int .i64 6, .int .i64 2, .func (.func 27) #[] #[.pointer (some ⟨w.heap.size + 2, 0, none⟩)]] 40)).cell? ⟨w.heap.size + 2, 0, none⟩ = some (.string e6) := (((Below.refl _ _).alloc (Nat.le_refl _) _).cell (w := KW w) (p := ⟨w.heap.size + 2, 0, none⟩) (by rw [kw_size]; simp)).trans (kw_box6 w)
  obtain ⟨V, hV⟩ : ∃ V : Nat, V = sumV 16 32773 0 true 0 bs := ⟨_, rfl⟩
  have fn : FnAt ((KW w).alloc (.cells #[.int .i64 6, .int .i64 2, .func (.func 27) #[] #[.pointer (some ⟨w.heap.size + 2, 0, none⟩)]] 40)) 27 #[v, .pointer (some ⟨w.heap.size + 2, 0, none⟩)] V := by
    rw [hV]
    exact fun x hx => clo_6 _ v bs x ((hx.cell (block_lt_of_cell hc)).trans hc) (hW.below hx) hl hb
  have hi : HiC V 2 (endK 6 bs) := by
    rw [hV]
    intro x
    have h := high_any (sumV 16 32773 0 true 0 bs) 2 x (sumV_u32 kind_ok.2.1) (by omega)
    rwa [show bigL (sumV 16 32773 0 true 0 bs) 2 = endK 6 bs from rfl] at h
  have KS : Hid (Kb ((KW w).alloc (.cells #[.int .i64 6, .int .i64 2, .func (.func 27) #[] #[.pointer (some ⟨w.heap.size + 2, 0, none⟩)]] 40)) (KW w).heap.size 2 (.func (.func 27) #[] #[.pointer (some ⟨w.heap.size + 2, 0, none⟩)]) ((KW w).alloc (.cells #[.int .i64 6, .int .i64 2, .func (.func 27) #[] #[.pointer (some ⟨w.heap.size + 2, 0, none⟩)]] 40))) := kb_new (KW w) _ _ _ 2 rfl
  clear hv hl hb hW hc
  clear hV
  generalize endK 6 bs = E at *
  go_enter Try.func8, Try.ntmps8
  go_wp2_with fail
  refine (mk _).mono ?_
  rintro e w1 ⟨rfl, rfl⟩
  clear mk
  go_upto_region 4 with fail
  generalize ((KW w).alloc (.cells #[.int .i64 6, .int .i64 2, .func (.func 27) #[] #[.pointer (some ⟨w.heap.size + 2, 0, none⟩)]] 40)) = WW at *
  generalize (KW w).heap.size = b at *
  clear lk
  obtain ⟨⟨c1, c2⟩, -⟩ := KS.out
  go_region_held3 (fun x => (x.cell? ⟨b, 1, none⟩ = some (.int .i64 2) ∧ x.cell? ⟨b, 2, none⟩ = some (.func (.func 27) #[] #[.pointer (some ⟨w.heap.size + 2, 0, none⟩)])) ∧ Below WW.heap.size WW x)
    ((show Kb WW b 2 (.func (.func 27) #[] #[.pointer (some ⟨w.heap.size + 2, 0, none⟩)]) _; (repeat (first | with_reducible exact KS.out | with_reducible refine Kb.drew ?_))))
    (first
      | (go_at_call 27; refine (fn _ (by first | with_reducible exact KS.out.b | with_reducible exact KS.out.drew.b)).mono ?_; rintro e y ⟨rfl, hb⟩
         have KS : Hid (Kb WW b 2 (.func (.func 27) #[] #[.pointer (some ⟨w.heap.size + 2, 0, none⟩)]) y) := Kb.below (by first | with_reducible exact KS.out | with_reducible exact KS.out.drew) hb)
      | (go_at_call 14; refine (hi _).mono ?_; rintro e z ⟨X, rfl, hx, hb⟩
         have KS : Hid (Kb WW b 2 (.func (.func 27) #[] #[.pointer (some ⟨w.heap.size + 2, 0, none⟩)]) z) := Kb.below (by first | with_reducible exact KS.out | with_reducible exact KS.out.drew) hb
         have HX : Hid (BytesAt z X E) := hx))
  all_goals
    replace B : Hid (Below w.heap.size w _) := belowT B.out KS.out.b
    clear KS fn hi
    go_wp2
    go_ret2
    exact ⟨_, rfl, HX.out, B.out⟩

set_option maxRecDepth 100000 in
set_option maxHeartbeats 4000000 in
theorem of_7 (v : Value) (bs : List Nat) (w : World) (hv : BytesAt w v bs) (hl : (bs.length : Int) ≤ 300) (hb : AllBytes bs) :
    Calls Try.prog 8 #[.string e7, v] w fun e w' => ∃ x, e = .returned (.tuple #[x, .int .i64 0]) ∧ BytesAt w' x (endK 7 bs) ∧ Below w.heap.size w w' := by
  have lk : (Instr.lookup 42 (.map (some w.heap.size)) (.string e7) true).run Try.prog (KW w) = .ok (.tuple #[.agg #[.int .i64 7, .int .i64 2, .func (.func 27) #[] #[.pointer (some ⟨w.heap.size + 3, 0, none⟩)]], .bool true]) (KW w) := look_yes (k := 7) (by omega) w
  have mk := makeC
  have B : Hid (Below w.heap.size w ((KW w).alloc (.cells #[.int .i64 7, .int .i64 2, .func (.func 27) #[] #[.pointer (some ⟨w.heap.size + 3, 0, none⟩)]] 40))) := kw_alloc w _
  have hW : BytesAt ((KW w).alloc (.cells #[.int .i64 7, .int .i64 2, .func (.func 27) #[] #[.pointer (some ⟨w.heap.size + 3, 0, none⟩)]] 40)) v bs := hv.below B.out
  have hc : ((KW w).alloc (.cells #[.int .i64 7, .int .i64 2, .func (.func 27) #[] #[.pointer (some ⟨w.heap.size + 3, 0, none⟩)]] 40)).cell? ⟨w.heap.size + 3, 0, none⟩ = some (.string e7) := (((Below.refl _ _).alloc (Nat.le_refl _) _).cell (w := KW w) (p := ⟨w.heap.size + 3, 0, none⟩) (by rw [kw_size]; simp)).trans (kw_box7 w)
  obtain ⟨V, hV⟩ : ∃ V : Nat, V = sumV 16 4129 65535 false 0 bs := ⟨_, rfl⟩
  have fn : FnAt ((KW w).alloc (.cells #[.int .i64 7, .int .i64 2, .func (.func 27) #[] #[.pointer (some ⟨w.heap.size + 3, 0, none⟩)]] 40)) 27 #[v, .pointer (some ⟨w.heap.size + 3, 0, none⟩)] V := by
    rw [hV]
    exact fun x hx => clo_7 _ v bs x ((hx.cell (block_lt_of_cell hc)).trans hc) (hW.below hx) hl hb
  have hi : HiC V 2 (endK 7 bs) := by
    rw [hV]
    intro x
    have h := high_any (sumV 16 4129 65535 false 0 bs) 2 x (sumV_u32 kind_ok.2.2.1) (by omega)
    rwa [show bigL (sumV 16 4129 65535 false 0 bs) 2 = endK 7 bs from rfl] at h
  have KS : Hid (Kb ((KW w).alloc (.cells #[.int .i64 7, .int .i64 2, .func (.func 27) #[] #[.pointer (some ⟨w.heap.size + 3, 0, none⟩)]] 40)) (KW w).heap.size 2 (.func (.func 27) #[] #[.pointer (some ⟨w.heap.size + 3, 0, none⟩)]) ((KW w).alloc (.cells #[.int .i64 7, .int .i64 2, .func (.func 27) #[] #[.pointer (some ⟨w.heap.size + 3, 0, none⟩)]] 40))) := kb_new (KW w) _ _ _ 2 rfl
  clear hv hl hb hW hc
  clear hV
  generalize endK 7 bs = E at *
  go_enter Try.func8, Try.ntmps8
  go_wp2_with fail
  refine (mk _).mono ?_
  rintro e w1 ⟨rfl, rfl⟩
  clear mk
  go_upto_region 4 with fail
  generalize ((KW w).alloc (.cells #[.int .i64 7, .int .i64 2, .func (.func 27) #[] #[.pointer (some ⟨w.heap.size + 3, 0, none⟩)]] 40)) = WW at *
  generalize (KW w).heap.size = b at *
  clear lk
  obtain ⟨⟨c1, c2⟩, -⟩ := KS.out
  go_region_held3 (fun x => (x.cell? ⟨b, 1, none⟩ = some (.int .i64 2) ∧ x.cell? ⟨b, 2, none⟩ = some (.func (.func 27) #[] #[.pointer (some ⟨w.heap.size + 3, 0, none⟩)])) ∧ Below WW.heap.size WW x)
    ((show Kb WW b 2 (.func (.func 27) #[] #[.pointer (some ⟨w.heap.size + 3, 0, none⟩)]) _; (repeat (first | with_reducible exact KS.out | with_reducible refine Kb.drew ?_))))
    (first
      | (go_at_call 27; refine (fn _ (by first | with_reducible exact KS.out.b | with_reducible exact KS.out.drew.b)).mono ?_; rintro e y ⟨rfl, hb⟩
         have KS : Hid (Kb WW b 2 (.func (.func 27) #[] #[.pointer (some ⟨w.heap.size + 3, 0, none⟩)]) y) := Kb.below (by first | with_reducible exact KS.out | with_reducible exact KS.out.drew) hb)
      | (go_at_call 14; refine (hi _).mono ?_; rintro e z ⟨X, rfl, hx, hb⟩
         have KS : Hid (Kb WW b 2 (.func (.func 27) #[] #[.pointer (some ⟨w.heap.size + 3, 0, none⟩)]) z) := Kb.below (by first | with_reducible exact KS.out | with_reducible exact KS.out.drew) hb
         have HX : Hid (BytesAt z X E) := hx))
  all_goals
    replace B : Hid (Below w.heap.size w _) := belowT B.out KS.out.b
    clear KS fn hi
    go_wp2
    go_ret2
    exact ⟨_, rfl, HX.out, B.out⟩

set_option maxRecDepth 100000 in
set_option maxHeartbeats 4000000 in
theorem of_8 (v : Value) (bs : List Nat) (w : World) (hv : BytesAt w v bs) (hl : (bs.length : Int) ≤ 300) (hb : AllBytes bs) :
    Calls Try.prog 8 #[.string e8, v] w fun e w' => ∃ x, e = .returned (.tuple #[x, .int .i64 0]) ∧ BytesAt w' x (endK 8 bs) ∧ Below w.heap.size w w' := by
  have lk : (Instr.lookup 42 (.map (some w.heap.size)) (.string e8) true).run Try.prog (KW w) = .ok (.tuple #[.agg #[.int .i64 8, .int .i64 4, .func (.func 27) #[] #[.pointer (some ⟨w.heap.size + 4, 0, none⟩)]], .bool true]) (KW w) := look_yes (k := 8) (by omega) w
  have mk := makeC
  have B : Hid (Below w.heap.size w ((KW w).alloc (.cells #[.int .i64 8, .int .i64 4, .func (.func 27) #[] #[.pointer (some ⟨w.heap.size + 4, 0, none⟩)]] 40))) := kw_alloc w _
  have hW : BytesAt ((KW w).alloc (.cells #[.int .i64 8, .int .i64 4, .func (.func 27) #[] #[.pointer (some ⟨w.heap.size + 4, 0, none⟩)]] 40)) v bs := hv.below B.out
  have hc : ((KW w).alloc (.cells #[.int .i64 8, .int .i64 4, .func (.func 27) #[] #[.pointer (some ⟨w.heap.size + 4, 0, none⟩)]] 40)).cell? ⟨w.heap.size + 4, 0, none⟩ = some (.string e8) := (((Below.refl _ _).alloc (Nat.le_refl _) _).cell (w := KW w) (p := ⟨w.heap.size + 4, 0, none⟩) (by rw [kw_size]; simp)).trans (kw_box8 w)
  obtain ⟨V, hV⟩ : ∃ V : Nat, V = sumV 32 79764919 4294967295 true 4294967295 bs := ⟨_, rfl⟩
  have fn : FnAt ((KW w).alloc (.cells #[.int .i64 8, .int .i64 4, .func (.func 27) #[] #[.pointer (some ⟨w.heap.size + 4, 0, none⟩)]] 40)) 27 #[v, .pointer (some ⟨w.heap.size + 4, 0, none⟩)] V := by
    rw [hV]
    exact fun x hx => clo_8 _ v bs x ((hx.cell (block_lt_of_cell hc)).trans hc) (hW.below hx) hl hb
  have hi : HiC V 4 (endK 8 bs) := by
    rw [hV]
    intro x
    have h := high_any (sumV 32 79764919 4294967295 true 4294967295 bs) 4 x (sumV_u32 kind_ok.2.2.2) (by omega)
    rwa [show bigL (sumV 32 79764919 4294967295 true 4294967295 bs) 4 = endK 8 bs from rfl] at h
  have KS : Hid (Kb ((KW w).alloc (.cells #[.int .i64 8, .int .i64 4, .func (.func 27) #[] #[.pointer (some ⟨w.heap.size + 4, 0, none⟩)]] 40)) (KW w).heap.size 4 (.func (.func 27) #[] #[.pointer (some ⟨w.heap.size + 4, 0, none⟩)]) ((KW w).alloc (.cells #[.int .i64 8, .int .i64 4, .func (.func 27) #[] #[.pointer (some ⟨w.heap.size + 4, 0, none⟩)]] 40))) := kb_new (KW w) _ _ _ 4 rfl
  clear hv hl hb hW hc
  clear hV
  generalize endK 8 bs = E at *
  go_enter Try.func8, Try.ntmps8
  go_wp2_with fail
  refine (mk _).mono ?_
  rintro e w1 ⟨rfl, rfl⟩
  clear mk
  go_upto_region 4 with fail
  generalize ((KW w).alloc (.cells #[.int .i64 8, .int .i64 4, .func (.func 27) #[] #[.pointer (some ⟨w.heap.size + 4, 0, none⟩)]] 40)) = WW at *
  generalize (KW w).heap.size = b at *
  clear lk
  obtain ⟨⟨c1, c2⟩, -⟩ := KS.out
  go_region_held3 (fun x => (x.cell? ⟨b, 1, none⟩ = some (.int .i64 4) ∧ x.cell? ⟨b, 2, none⟩ = some (.func (.func 27) #[] #[.pointer (some ⟨w.heap.size + 4, 0, none⟩)])) ∧ Below WW.heap.size WW x)
    ((show Kb WW b 4 (.func (.func 27) #[] #[.pointer (some ⟨w.heap.size + 4, 0, none⟩)]) _; (repeat (first | with_reducible exact KS.out | with_reducible refine Kb.drew ?_))))
    (first
      | (go_at_call 27; refine (fn _ (by first | with_reducible exact KS.out.b | with_reducible exact KS.out.drew.b)).mono ?_; rintro e y ⟨rfl, hb⟩
         have KS : Hid (Kb WW b 4 (.func (.func 27) #[] #[.pointer (some ⟨w.heap.size + 4, 0, none⟩)]) y) := Kb.below (by first | with_reducible exact KS.out | with_reducible exact KS.out.drew) hb)
      | (go_at_call 14; refine (hi _).mono ?_; rintro e z ⟨X, rfl, hx, hb⟩
         have KS : Hid (Kb WW b 4 (.func (.func 27) #[] #[.pointer (some ⟨w.heap.size + 4, 0, none⟩)]) z) := Kb.below (by first | with_reducible exact KS.out | with_reducible exact KS.out.drew) hb
         have HX : Hid (BytesAt z X E) := hx))
  all_goals
    replace B : Hid (Below w.heap.size w _) := belowT B.out KS.out.b
    clear KS fn hi
    go_wp2
    go_ret2
    exact ⟨_, rfl, HX.out, B.out⟩
theorem of_yes : OfP := fun k v bs w hk hv hl hb => by
  match k, hk with
  | 0, _ => exact of_0 v bs w hv hl hb
  | 1, _ => exact of_1 v bs w hv hl hb
  | 2, _ => exact of_2 v bs w hv hl hb
  | 3, _ => exact of_3 v bs w hv hl hb
  | 4, _ => exact of_4 v bs w hv hl hb
  | 5, _ => exact of_5 v bs w hv hl hb
  | 6, _ => exact of_6 v bs w hv hl hb
  | 7, _ => exact of_7 v bs w hv hl hb
  | 8, _ => exact of_8 v bs w hv hl hb
set_option maxRecDepth 100000 in
set_option maxHeartbeats 2000000 in
theorem of_no : OfN := fun s v bs w hs hv hl hb => by
  have lk := look_no hs w
  have mk := makeC
  have B : Hid (Below w.heap.size w ((KW w).alloc (.cells #[.int .i64 0, .int .i64 0, .nilFunc] 40))) := kw_alloc w _
  clear hv hl hb
  go_enter Try.func8, Try.ntmps8
  go_wp2_with fail
  refine (mk _).mono ?_
  rintro e w1 ⟨rfl, rfl⟩
  clear mk
  go_wp2
  go_ret2
  exact ⟨_, rfl, .inl ⟨rfl, rfl⟩, B.out⟩
end Go.Proofs.Ytoocppfdcalmfaa
