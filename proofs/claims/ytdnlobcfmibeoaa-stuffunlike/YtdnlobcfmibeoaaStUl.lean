/-
  The ways through the law StuffUnlike (layer 11). Conditions: as each says.
-/
import Derived.Test.YtdnlobcfmibeoaaStBk
import Derived.Test.YtdnlobcfmibeoaaRegProps
import Derived.Test.YtdnlobcfmibeoaaRegSome
import Derived.Deep.Cut
import Derived.BigRegion
namespace Go.Proofs.Ytdnlobcfmibeoaa
open Go.RowKit
set_option linter.unusedVariables false

theorem strOf_data (l : List Nat) : (strOf l).data.toList = l.map UInt8.ofNat := by
  unfold strOf
  rw [strOfNums_data, List.map_map]
  exact List.map_congr_left fun n _ => by simp
theorem strOf_size (l : List Nat) : (strOf l).size = l.length := by
  have := congrArg List.length (strOf_data l)
  simpa using this
theorem strOf_take (l : List Nat) (k : Nat) : (strOf l).extract 0 k = strOf (l.take k) := by
  refine ByteArray.ext (Array.toList_inj.mp ?_)
  rw [strOf_data, List.map_take, ← strOf_data l]
  simp
theorem unl_eq {s e x : Nat} (hR : StuR s e x) (he : e < 256) (hx : x < 256) {a b : List Nat} (ha : AllBytes a) (hb : AllBytes b) : (((strOf (stuL s e x a)).toList == (strOf (stuL s e x b)).toList) == ((strOf a).toList == (strOf b).toList)) = true := by
  rw [str_eq (stu_bytes he hx ha) (stu_bytes he hx hb), str_eq ha hb, beq_iff_eq, Bool.eq_iff_iff, decide_eq_true_iff, decide_eq_true_iff]
  exact ⟨fun h => stu_inj hR h, fun h => by rw [h]⟩
theorem unl_pre {s e x : Nat} (hR : StuR s e x) (he : e < 256) (hx : x < 256) {a b : List Nat} (ha : AllBytes a) (hb : AllBytes b) (hl : a.length = b.length) (hlt : (strOf (stuL s e x a)).size < (strOf (stuL s e x b)).size) : (((strOf (stuL s e x b)).extract 0 (strOf (stuL s e x a)).size).toList == (strOf (stuL s e x a)).toList) = false := by
  rw [strOf_size, strOf_size] at hlt
  rw [strOf_size, strOf_take, str_eq (take_bytes (stu_bytes he hx hb) _) (stu_bytes he hx ha)]
  refine decide_eq_false fun k => ?_
  have e1 := List.take_append_drop (stuL s e x a).length (stuL s e x b)
  rw [← k] at e1
  have e2 := stu_prefix hR hl e1.symm
  rw [e2, List.append_nil] at e1
  rw [e1] at hlt
  omega
/-- the marks, as a value -/
def mkV (s e x : Nat) : Value := .agg #[.int .u8 (s : Int), .int .u8 (e : Int), .int .u8 (x : Int)]
/-- what the operations of the region yield -/
def UlP (s e x : Nat) (va vb : Value) (A B : List Nat) : Nat → Value → World → Prop
  | 0, v, _ => v = mkV s e x
  | 1, v, _ => v = va
  | 2, v, w => BytesAt w v A
  | 3, v, _ => v = .string (strOf A)
  | 4, v, _ => v = mkV s e x
  | 5, v, _ => v = vb
  | 6, v, w => BytesAt w v B
  | 7, v, _ => v = .string (strOf B)
  | 8, v, _ => v = .string (strOf A)
  | 9, v, _ => v = .string (strOf B)
  | _, _, _ => True
theorem ulP_keep {s e x : Nat} {va vb : Value} {A B : List Nat} {q : Array Bool} {w w' : World} (h : Below w.heap.size w w') : RegK (UlP s e x va vb A B) q w w' := by
  intro j v _ hv
  match j with
  | 0 | 1 | 3 | 4 | 5 | 7 | 8 | 9 => exact hv
  | 2 | 6 => exact BytesAt.below hv h
  | _ + 10 => trivial
set_option maxRecDepth 100000 in
set_option maxHeartbeats 4000000 in
theorem unlike_la (w : World) (s e x : Nat) (hs : s < 256) (he : e < 256) (hx : x < 256) (p : Option Addr) (n cap : Nat) (p2 : Option Addr) (n2 cap2 : Nat) (hl : 500 < (n : Int)) (hm : (n : Int) ≤ 9223372036854775807) (hm2 : (n2 : Int) ≤ 9223372036854775807) :
    Calls Try.prog 7 #[.int .u8 (s : Int), .int .u8 (e : Int), .int .u8 (x : Int), .slice p n cap, .slice p2 n2 cap2] w fun E w' => E = .returned (.bool true) ∧ Below w.heap.size w w' := by
  go_enter Try.func7, Try.ntmps7
  go_wp2_with fail
  refine (awake11 _).mono ?_
  rintro E w1 ⟨rfl, hB⟩
  have B : Hid (Below w.heap.size w w1) := belowT ((Below.refl _ _).alloc (Nat.le_refl _) _) hB
  clear hB
  go_wp2_with fail
  refine (awake11 _).mono ?_
  rintro E w2 ⟨rfl, hB⟩
  replace B : Hid (Below w.heap.size w w2) := belowT B.out hB
  clear hB
  go_wp2
  go_ret
  exact ⟨rfl, B.out⟩
set_option maxRecDepth 100000 in
set_option maxHeartbeats 4000000 in
theorem unlike_lb (w : World) (s e x : Nat) (hs : s < 256) (he : e < 256) (hx : x < 256) (p : Option Addr) (n cap : Nat) (p2 : Option Addr) (n2 cap2 : Nat) (hl : (n : Int) ≤ 500) (hl2 : 500 < (n2 : Int)) (hm2 : (n2 : Int) ≤ 9223372036854775807) :
    Calls Try.prog 7 #[.int .u8 (s : Int), .int .u8 (e : Int), .int .u8 (x : Int), .slice p n cap, .slice p2 n2 cap2] w fun E w' => E = .returned (.bool true) ∧ Below w.heap.size w w' := by
  go_enter Try.func7, Try.ntmps7
  go_wp2_with fail
  refine (awake11 _).mono ?_
  rintro E w1 ⟨rfl, hB⟩
  have B : Hid (Below w.heap.size w w1) := belowT ((Below.refl _ _).alloc (Nat.le_refl _) _) hB
  clear hB
  go_wp2_with fail
  refine (awake11 _).mono ?_
  rintro E w2 ⟨rfl, hB⟩
  replace B : Hid (Below w.heap.size w w2) := belowT B.out hB
  clear hB
  go_wp2
  go_ret
  exact ⟨rfl, B.out⟩
set_option maxRecDepth 100000 in
set_option maxHeartbeats 4000000 in
theorem unlike_no (w : World) (s e x : Nat) (hs : s < 256) (he : e < 256) (hx : x < 256) (p : Option Addr) (n cap : Nat) (p2 : Option Addr) (n2 cap2 : Nat) (hl : (n : Int) ≤ 500) (hl2 : (n2 : Int) ≤ 500) (hr : rightB s e x = false) :
    Calls Try.prog 7 #[.int .u8 (s : Int), .int .u8 (e : Int), .int .u8 (x : Int), .slice p n cap, .slice p2 n2 cap2] w fun E w' => E = .returned (.bool true) ∧ Below w.heap.size w w' := by
  have cR : ∀ y : World, Calls Try.prog 9 #[.agg #[.int .u8 (s : Int), .int .u8 (e : Int), .int .u8 (x : Int)]] y fun E w' => E = .returned (.bool false) ∧ Below y.heap.size y w' := fun y => by
    have := right_any y s e x hs he hx
    rw [hr] at this; exact this
  have M : Hid (MkB (w.alloc (.cells #[.int .u8 (s : Int), .int .u8 (e : Int), .int .u8 (x : Int)] 24)) w.heap.size s e x) := mkB_new _ _ _ _ _ rfl
  clear hr
  go_enter Try.func7, Try.ntmps7
  go_wp2_with fail
  refine (awake11 _).mono ?_
  rintro E w1 ⟨rfl, hB⟩
  have B : Hid (Below w.heap.size w w1) := belowT ((Below.refl _ _).alloc (Nat.le_refl _) _) hB
  replace M : Hid (MkB w1 w.heap.size s e x) := M.out.block (hB.block _ (by simp))
  clear hB
  obtain ⟨m0, m1, m2⟩ := M.out.cells
  go_wp2_with fail
  refine (cR _).mono ?_
  rintro E w2 ⟨rfl, hB⟩
  replace B : Hid (Below w.heap.size w w2) := belowT B.out hB
  clear hB cR m0 m1 m2 M
  go_wp2_with fail
  refine (awake11 _).mono ?_
  rintro E w3 ⟨rfl, hB⟩
  replace B : Hid (Below w.heap.size w w3) := belowT B.out hB
  clear hB
  go_wp2
  go_ret
  exact ⟨rfl, B.out⟩
set_option maxRecDepth 100000 in
set_option maxHeartbeats 4000000 in
theorem unlike_yes (w : World) (s e x : Nat) (hs : s < 256) (he : e < 256) (hx : x < 256) (p : Option Addr) (ls : List Nat) (cap : Nat) (h : BytesAt w (.slice p ls.length cap) ls) (ha : AllBytes ls) (hl : ls.length ≤ 500) (p2 : Option Addr) (bs : List Nat) (cap2 : Nat) (h2 : BytesAt w (.slice p2 bs.length cap2) bs) (hb : AllBytes bs) (hl2 : bs.length ≤ 500) (hr : rightB s e x = true) :
    Calls Try.prog 7 #[.int .u8 (s : Int), .int .u8 (e : Int), .int .u8 (x : Int), .slice p ls.length cap, .slice p2 bs.length cap2] w fun E w' => E = .returned (.bool true) ∧ Below w.heap.size w w' := by
  have cR : ∀ y : World, Calls Try.prog 9 #[.agg #[.int .u8 (s : Int), .int .u8 (e : Int), .int .u8 (x : Int)]] y fun E w' => E = .returned (.bool true) ∧ Below y.heap.size y w' := fun y => by
    have := right_any y s e x hs he hx
    rw [hr] at this; exact this
  have M : Hid (MkB (w.alloc (.cells #[.int .u8 (s : Int), .int .u8 (e : Int), .int .u8 (x : Int)] 24)) w.heap.size s e x) := mkB_new _ _ _ _ _ rfl
  have cS : Hid (∀ y, BytesAt y (.slice p ls.length cap) ls → Calls Try.prog 10 #[mkV s e x, .slice p ls.length cap] y fun E w' => ∃ z, E = .returned z ∧ RowB w' y.heap.size z (stuL s e x ls) ∧ Below y.heap.size y w') := fun y hy => stuff_any y s e x hs he hx _ ls hy ha (by omega)
  have cS2 : Hid (∀ y, BytesAt y (.slice p2 bs.length cap2) bs → Calls Try.prog 10 #[mkV s e x, .slice p2 bs.length cap2] y fun E w' => ∃ z, E = .returned z ∧ RowB w' y.heap.size z (stuL s e x bs) ∧ Below y.heap.size y w') := fun y hy => stuff_any y s e x hs he hx _ bs hy hb (by omega)
  have h500 : (ls.length : Int) ≤ 500 := by omega
  have h501 : (bs.length : Int) ≤ 500 := by omega
  go_enter Try.func7, Try.ntmps7
  go_wp2_with fail
  refine (awake11 _).mono ?_
  rintro E w1 ⟨rfl, hB⟩
  have B : Hid (Below w.heap.size w w1) := belowT ((Below.refl _ _).alloc (Nat.le_refl _) _) hB
  replace M : Hid (MkB w1 w.heap.size s e x) := M.out.block (hB.block _ (by simp))
  clear hB
  obtain ⟨m0, m1, m2⟩ := M.out.cells
  go_wp2_with fail
  refine (cR _).mono ?_
  rintro E w2 ⟨rfl, hB⟩
  replace B : Hid (Below w.heap.size w w2) := belowT B.out hB
  replace M : Hid (MkB w2 w.heap.size s e x) := M.out.block (hB.block _ (Array.getElem?_eq_some_iff.1 M.out).1)
  clear hB cR m0 m1 m2
  go_upto_region 4 with fail
  refine region_props (UlP s e x (.slice p ls.length cap) (.slice p2 bs.length cap2) (stuL s e x ls) (stuL s e x bs)) (fun _ z => Below w2.heap.size w2 z) (by kernel_rfl) (by kernel_rfl) ?_ ?_ ⟨rfl, rfl, rfl, Nat.le_refl _, fun _ _ => rfl⟩
  · intro y a z i op ho hI haf hy hyi hW
    have hi : i < 10 := (List.getElem?_eq_some_iff.1 ho).1
    match i, hi with
    | 0, _ =>
      obtain rfl := Option.some.inj (show some _ = some op from ho)
      have e1 : a.tmps.getD 11 undef = .pointer (some ⟨w.heap.size, 0, none⟩) := (hI.was (by kernel_rfl)).trans rfl
      obtain ⟨m0, m1, m2⟩ := (M.out.block (hW.block _ (Array.getElem?_eq_some_iff.1 M.out).1)).cells
      go_simp
      exact ⟨_, rfl, rfl, RegK.refl _ _ _⟩
    | 1, _ =>
      obtain rfl := Option.some.inj (show some _ = some op from ho)
      have e1 : a.tmps.getD 3 undef = .slice p ls.length cap := (hI.was (by kernel_rfl)).trans rfl
      go_simp
      exact ⟨_, rfl, rfl, RegK.refl _ _ _⟩
    | 2, _ =>
      obtain rfl := Option.some.inj (show some _ = some op from ho)
      have e1 : a.tmps.getD 36 undef = mkV s e x := hI.val 0 _ 36 rfl rfl (dep_at haf (by kernel_rfl))
      have e2 : a.tmps.getD 37 undef = .slice p ls.length cap := hI.val 1 _ 37 rfl rfl (dep_at haf (by kernel_rfl))
      go_simp
      refine (cS.out z (h.below (belowT B.out hW))).mono ?_
      rintro E z' ⟨v, rfl, hr, hb2⟩
      exact ⟨_, rfl, hr.at, ulP_keep hb2, belowT hW hb2⟩
    | 3, _ =>
      obtain rfl := Option.some.inj (show some _ = some op from ho)
      have q2 : BytesAt z (a.tmps.getD 38 undef) (stuL s e x ls) := hI.val 2 _ 38 rfl rfl (dep_at haf (by kernel_rfl))
      obtain ⟨v, e1⟩ : ∃ v, a.tmps.getD 38 undef = v := ⟨_, rfl⟩
      rw [e1] at q2
      have k := conv_at q2
      clear q2
      go_simp
      exact ⟨_, rfl, rfl, RegK.refl _ _ _⟩
    | 4, _ =>
      obtain rfl := Option.some.inj (show some _ = some op from ho)
      have e1 : a.tmps.getD 11 undef = .pointer (some ⟨w.heap.size, 0, none⟩) := (hI.was (by kernel_rfl)).trans rfl
      obtain ⟨m0, m1, m2⟩ := (M.out.block (hW.block _ (Array.getElem?_eq_some_iff.1 M.out).1)).cells
      go_simp
      exact ⟨_, rfl, rfl, RegK.refl _ _ _⟩
    | 5, _ =>
      obtain rfl := Option.some.inj (show some _ = some op from ho)
      have e1 : a.tmps.getD 4 undef = .slice p2 bs.length cap2 := (hI.was (by kernel_rfl)).trans rfl
      go_simp
      exact ⟨_, rfl, rfl, RegK.refl _ _ _⟩
    | 6, _ =>
      obtain rfl := Option.some.inj (show some _ = some op from ho)
      have e1 : a.tmps.getD 40 undef = mkV s e x := hI.val 4 _ 40 rfl rfl (dep_at haf (by kernel_rfl))
      have e2 : a.tmps.getD 41 undef = .slice p2 bs.length cap2 := hI.val 5 _ 41 rfl rfl (dep_at haf (by kernel_rfl))
      go_simp
      refine (cS2.out z (h2.below (belowT B.out hW))).mono ?_
      rintro E z' ⟨v, rfl, hr, hb2⟩
      exact ⟨_, rfl, hr.at, ulP_keep hb2, belowT hW hb2⟩
    | 7, _ =>
      obtain rfl := Option.some.inj (show some _ = some op from ho)
      have q2 : BytesAt z (a.tmps.getD 42 undef) (stuL s e x bs) := hI.val 6 _ 42 rfl rfl (dep_at haf (by kernel_rfl))
      obtain ⟨v, e1⟩ : ∃ v, a.tmps.getD 42 undef = v := ⟨_, rfl⟩
      rw [e1] at q2
      have k := conv_at q2
      clear q2
      go_simp
      exact ⟨_, rfl, rfl, RegK.refl _ _ _⟩
    | 8, _ =>
      obtain rfl := Option.some.inj (show some _ = some op from ho)
      have e1 : a.tmps.getD 39 undef = .string (strOf (stuL s e x ls)) := hI.val 3 _ 39 rfl rfl (dep_at haf (by kernel_rfl))
      go_simp
      exact ⟨_, rfl, rfl, RegK.refl _ _ _⟩
    | 9, _ =>
      obtain rfl := Option.some.inj (show some _ = some op from ho)
      have e1 : a.tmps.getD 43 undef = .string (strOf (stuL s e x bs)) := hI.val 7 _ 43 rfl rfl (dep_at haf (by kernel_rfl))
      go_simp
      exact ⟨_, rfl, rfl, RegK.refl _ _ _⟩
  · intro y a z hy hall hI hW
    have v8 := hI.val 8 _ 12 rfl rfl (hall 8 (by decide))
    have v9 := hI.val 9 _ 13 rfl rfl (hall 9 (by decide))
    obtain ⟨V, hV⟩ := hI.slots (by kernel_rfl) hall
    simp only [putsL, List.setIfInBounds_toArray, List.set_cons_zero, List.set_cons_succ, Nat.zero_add, Nat.reduceAdd] at hV
    have u8 : V 8 = .string (strOf (stuL s e x ls)) := by rw [hV] at v8; exact v8
    have u9 : V 9 = .string (strOf (stuL s e x bs)) := by rw [hV] at v9; exact v9
    rw [u8, u9] at hV
    subst hV
    have c1 := conv_at (h.below (belowT B.out hW))
    have c2 := conv_at (h2.below (belowT B.out hW))
    replace B : Hid (Below w.heap.size w z) := belowT B.out hW
    clear hI hW hall hy v8 v9 u8 u9 cS cS2 M
    generalize V 0 = z0
    generalize V 1 = z1
    generalize V 2 = z2
    generalize V 3 = z3
    generalize V 4 = z4
    generalize V 5 = z5
    generalize V 6 = z6
    generalize V 7 = z7
    have hR := rightB_iff.1 hr
    clear hr
    have eqF : Hid ((((strOf (stuL s e x ls)).toList == (strOf (stuL s e x bs)).toList) == ((strOf ls).toList == (strOf bs).toList)) = true) := unl_eq hR he hx ha hb
    have zA : (strOf (stuL s e x ls)).size ≤ 1000 := by rw [strOf_size]; have := (stu_most s e x ls).2; omega
    have zB : (strOf (stuL s e x bs)).size ≤ 1000 := by rw [strOf_size]; have := (stu_most s e x bs).2; omega
    by_cases hlen : ls.length = bs.length
    · have hpre : Hid ((strOf (stuL s e x ls)).size < (strOf (stuL s e x bs)).size → (((strOf (stuL s e x bs)).extract 0 (strOf (stuL s e x ls)).size).toList == (strOf (stuL s e x ls)).toList) = false) := unl_pre hR he hx ha hb hlen
      generalize strOf (stuL s e x ls) = SA at *
      generalize strOf (stuL s e x bs) = SB at *
      generalize strOf ls = Sa at *
      generalize strOf bs = Sb at *
      clear h h2 ha hb
      rw [← hlen] at c2 ⊢
      clear hlen h501 hl2
      by_cases hlt : SA.size < SB.size
      · have hp := hpre.out hlt
        have hlt' : (SA.size : Int) < (SB.size : Int) := by omega
        clear hpre
        go_wp2
        go_ret
        exact ⟨by rw [← eqF.out]; rfl, B.out⟩
      · have hlt' : ¬ (SA.size : Int) < (SB.size : Int) := by omega
        clear hpre
        go_wp2
        go_ret
        exact ⟨by rw [← eqF.out]; rfl, B.out⟩
    · generalize strOf (stuL s e x ls) = SA at *
      generalize strOf (stuL s e x bs) = SB at *
      generalize strOf ls = Sa at *
      generalize strOf bs = Sb at *
      go_wp2
      go_ret
      exact ⟨by rw [← eqF.out]; rfl, B.out⟩
theorem unlike_any (w : World) (s e x : Nat) (hs : s < 256) (he : e < 256) (hx : x < 256) (v : Value) (ls : List Nat) (hv : BytesV w v ls) (ha : AllBytes ls) (v2 : Value) (bs : List Nat) (hv2 : BytesV w v2 bs) (hb : AllBytes bs) :
    Calls Try.prog 7 #[.int .u8 (s : Int), .int .u8 (e : Int), .int .u8 (x : Int), v, v2] w fun E w' => E = .returned (.bool true) ∧ Below w.heap.size w w' := by
  have hm := hv.len
  have h := hv.at
  obtain ⟨p, cap, rfl⟩ := h.slice
  have hm2 := hv2.len
  have h2 := hv2.at
  obtain ⟨p2, cap2, rfl⟩ := h2.slice
  by_cases hl : ls.length ≤ 500
  · by_cases hl2 : bs.length ≤ 500
    · cases hr : rightB s e x with
      | false => exact unlike_no w s e x hs he hx p _ cap p2 _ cap2 (by omega) (by omega) hr
      | true => exact unlike_yes w s e x hs he hx p ls cap h ha hl p2 bs cap2 h2 hb hl2 hr
    · exact unlike_lb w s e x hs he hx p _ cap p2 _ cap2 (by omega) (by omega) hm2
  · exact unlike_la w s e x hs he hx p _ cap p2 _ cap2 (by omega) hm hm2
end Go.Proofs.Ytdnlobcfmibeoaa
