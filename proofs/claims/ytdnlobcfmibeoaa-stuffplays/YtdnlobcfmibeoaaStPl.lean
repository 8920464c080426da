/-
  The ways through the law StuffPlays (layer 11). Conditions: as each says.
-/
import Derived.Test.YtdnlobcfmibeoaaStPt
import Derived.Test.YtdnlobcfmibeoaaRegG
namespace Go.Proofs.Ytdnlobcfmibeoaa
open Go.RowKit
set_option linter.unusedVariables false

/-- what the operations of the drawn region yield -/
def ppV (B T y : Value) (S : ByteArray) (s e x : Nat) (N : Int) (i : Nat) : Value :=
  (#[T, .string S, .int .u8 (s : Int), .int .u8 (e : Int), .int .u8 (x : Int), B, y, .string S, .bool false, .bool false, B, .int .i64 N, .int .i64 (2 * N), B, .int .i64 N, .int .i64 (2 * N), .bool false, .bool false, .bool false, B, .int .i64 N, .int .i64 (-1 - N), .int .i64 0, .bool false, .bool false] : Array Value).getD i undef
theorem ppV_6 {B T y y2 : Value} {S : ByteArray} {s e x : Nat} {N : Int} {j : Nat} (h : j ≠ 6) : ppV B T y S s e x N j = ppV B T y2 S s e x N j := by
  unfold ppV
  match j, h with
  | 0, _ => rfl
  | 1, _ => rfl
  | 2, _ => rfl
  | 3, _ => rfl
  | 4, _ => rfl
  | 5, _ => rfl
  | 6, h => exact absurd rfl h
  | 7, _ => rfl
  | 8, _ => rfl
  | 9, _ => rfl
  | 10, _ => rfl
  | 11, _ => rfl
  | 12, _ => rfl
  | 13, _ => rfl
  | 14, _ => rfl
  | 15, _ => rfl
  | 16, _ => rfl
  | 17, _ => rfl
  | 18, _ => rfl
  | 19, _ => rfl
  | 20, _ => rfl
  | 21, _ => rfl
  | 22, _ => rfl
  | 23, _ => rfl
  | 24, _ => rfl
  | (n + 25), _ => rfl

structure PpW (W0 : World) (L : List Nat) (γ : Value) (x : Array Bool) (z : World) : Prop where
  low : Below W0.heap.size W0 z
  f6 : x.getD 6 false = true → BytesAt z γ L
theorem PpW.other {W0 : World} {L : List Nat} {γ : Value} {x : Array Bool} {z y : World} (h : PpW W0 L γ x z) (hb : Below z.heap.size z y) {i : Nat} (h6 : i ≠ 6) : PpW W0 L γ (x.setIfInBounds i true) y := by
  refine ⟨h.low.trans (hb.mono h.low.size), ?_⟩
  rw [getD_set_ne false h6]; exact fun e => (h.f6 e).below hb
theorem getD_qS {x : Array Bool} {j : Nat} (h : x[j]?.getD false = true) : x.getD j false = true := by rw [Array.getD_eq_getD_getElem?]; exact h
theorem RegI.tmpsG {L : List Oper} {T0 : Array Value} {D0 : List Deferred} {V : Nat → Value} {x : Array Bool} {a : Act} {w : World} (h : RegI L T0 D0 (fun i v _ => v = V i) x a w) (hb : regG L T0.size = true) (hall : ∀ i, i < L.length → x.getD i false = true) : a = ⟨putsL V L 0 T0, D0⟩ := by
  obtain ⟨T, D⟩ := a
  have e1 : D = D0 := h.dfr
  subst e1
  have e2 : T.size = T0.size := h.size
  congr 1
  refine Array.ext (by rw [e2, putsL_size]) fun t h1 h2 => ?_
  have g : T.getD t undef = (putsL V L 0 T0).getD t undef := by
    by_cases hc : ∃ (i : Nat) (o : Oper), L[i]? = some o ∧ o.dst = some t
    · obtain ⟨i, o, ho, hd⟩ := hc
      have k := h.val i o t ho hd (hall i (List.getElem?_eq_some_iff.1 ho).1)
      rw [putsL_at V L 0 T0 i o ho hd (regG_spec hb ho t hd).1 (fun j p hj hp => regG_ne hb ho hp (Ne.symm hj) hd), Nat.zero_add]
      exact k
    · have hn : ∀ (i : Nat) (o : Oper), L[i]? = some o → o.dst ≠ some t := fun i o ho hd => hc ⟨i, o, ho, hd⟩
      rw [putsL_off V t L 0 T0 hn]
      exact h.old t hn
  rw [Array.getD_eq_getD_getElem?, Array.getD_eq_getD_getElem?, Array.getElem?_eq_getElem h1, Array.getElem?_eq_getElem h2] at g
  exact g
set_option maxRecDepth 100000 in
set_option maxHeartbeats 4000000 in
theorem plays_long (w : World) (s e x : Nat) (hs : s < 256) (he : e < 256) (hx : x < 256) (p : Option Addr) (n cap : Nat) (hl : 500 < (n : Int)) (hm : (n : Int) ≤ 9223372036854775807) :
    Calls Try.prog 4 #[.int .u8 (s : Int), .int .u8 (e : Int), .int .u8 (x : Int), .slice p n cap] w fun E w' => E = .returned (.bool true) ∧ Below w.heap.size w w' := by
  go_enter Try.func4, Try.ntmps4
  go_wp2_with fail
  refine (awake11 _).mono ?_
  rintro E w1 ⟨rfl, hB⟩
  have B : Hid (Below w.heap.size w w1) := hB
  clear hB
  go_wp2_with fail
  refine (awake11 _).mono ?_
  rintro E w2 ⟨rfl, hB⟩
  replace B : Hid (Below w.heap.size w w2) := belowT B.out hB
  clear hB
  go_wp2
  go_ret
  exact ⟨rfl, B.out⟩
set_option maxRecDepth 100000 in
set_option maxHeartbeats 4000000 in
theorem plays_yes (w : World) (s e x : Nat) (hs : s < 256) (he : e < 256) (hx : x < 256) (p : Option Addr) (bs : List Nat) (cap : Nat) (h : BytesAt w (.slice p bs.length cap) bs) (hb : AllBytes bs) (hl : bs.length ≤ 500)
    (U1 W1 : List Nat) (U2 : Nat) (ob d : Bool) (hd : Hid (decide (s ∈ bs) = d)) (hU : Hid (unsM s e x bs = (U1, U2))) (hW : Hid (unsL s e x bs = (W1, ob))) (f1 : d = true → U1 = [] ∧ U2 = 10) (f2 : d = false → ob = true → U1 = [] ∧ U2 = 6) (f3 : d = false → ob = false → U1 = W1 ∧ U2 = 0) :
    Calls Try.prog 4 #[.int .u8 (s : Int), .int .u8 (e : Int), .int .u8 (x : Int), .slice p bs.length cap] w fun E w' => E = .returned (.bool true) ∧ Below w.heap.size w w' := by
  have h500 : (bs.length : Int) ≤ 500 := by omega
  have cS : Hid (∀ z, BytesAt z (.slice p bs.length cap) bs → Calls Try.prog 10 #[.agg #[.int .u8 (s : Int), .int .u8 (e : Int), .int .u8 (x : Int)], .slice p bs.length cap] z fun E w' => ∃ u, E = .returned u ∧ RowB w' z.heap.size u (stuL s e x bs) ∧ Below z.heap.size z w') := fun z hz => stuff_any z s e x hs he hx _ _ hz hb (by omega)
  have cT : Hid (∀ z, BytesAt z (.slice p bs.length cap) bs → Calls Try.prog 15 #[.int .u8 (s : Int), .int .u8 (e : Int), .int .u8 (x : Int), .slice p bs.length cap] z fun E w' => ∃ u, E = .returned u ∧ RowB w' z.heap.size u (stuL s e x bs) ∧ Below z.heap.size z w') := fun z hz => rstuff_any z s e x hs he hx _ _ hz hb (by omega)
  have cU : Hid (∀ z, BytesAt z (.slice p bs.length cap) bs → Calls Try.prog 11 #[.agg #[.int .u8 (s : Int), .int .u8 (e : Int), .int .u8 (x : Int)], .slice p bs.length cap] z fun E w' => ∃ u, E = .returned (.tuple #[u, .int .i64 (U2 : Int)]) ∧ RowB w' z.heap.size u U1 ∧ Below z.heap.size z w') := fun z hz => by
    have k := unstuff_any z s e x hs he hx _ _ hz hb (by omega)
    rw [hU.out] at k; exact k
  have cV : Hid (∀ z, BytesAt z (.slice p bs.length cap) bs → Calls Try.prog 14 #[.int .u8 (s : Int), .int .u8 (e : Int), .int .u8 (x : Int), .slice p bs.length cap] z fun E w' => ∃ u, E = .returned (.tuple #[u, .bool ob]) ∧ RowB w' z.heap.size u W1 ∧ Below z.heap.size z w') := fun z hz => by
    have k := runstuff_any z s e x hs he hx _ _ hz hb (by omega)
    rw [hW.out] at k; exact k
  have cH : Hid (∀ z, BytesAt z (.slice p bs.length cap) bs → Calls Try.prog 12 #[.slice p bs.length cap, .int .u8 (s : Int)] z fun E w' => E = .returned (.bool d) ∧ w' = z) := fun z hz => by
    have k := has_any z _ bs s hs hz hb (by omega)
    rw [hd.out] at k; exact k
  have cM : Hid (∀ z, Calls Try.prog 13 #[.int .i64 (bs.length : Int)] z fun E w' => E = .returned (.int .i64 (2 * (bs.length : Int))) ∧ w' = z) := fun z => most_any z bs.length (by omega)
  have cN : Hid (∀ z, Calls Try.prog 13 #[.int .i64 (-1 - (bs.length : Int))] z fun E w' => E = .returned (.int .i64 0) ∧ w' = z) := fun z => most_less z _ (by omega) (by omega)
  clear hd hU hW
  go_enter Try.func4, Try.ntmps4
  go_wp2_with fail
  refine (awake11 _).mono ?_
  rintro E w1 ⟨rfl, hB⟩
  have B : Hid (Below w.heap.size w (w1.alloc (.cells #[.int .u8 (s : Int), .int .u8 (e : Int), .int .u8 (x : Int)] 24))) := hB.alloc hB.size _
  have M : Hid (MkB (w1.alloc (.cells #[.int .u8 (s : Int), .int .u8 (e : Int), .int .u8 (x : Int)] 24)) w1.heap.size s e x) := mkB_new _ _ _ _ _ rfl
  clear hB
  go_wp2_with fail
  refine (cS.out _ (h.below B.out)).mono ?_
  rintro E w2 ⟨v2, rfl, r2, hB⟩
  replace B : Hid (Below w.heap.size w w2) := belowT B.out hB
  replace M : Hid (MkB w2 w1.heap.size s e x) := M.out.low hB
  have T : Hid (BytesAt w2 v2 (stuL s e x bs)) := r2.at
  clear hB r2 cS
  generalize w1.heap.size = N at *
  obtain ⟨m0, m1, m2⟩ := M.out.cells
  obtain ⟨pt, ct, rfl⟩ := T.out.slice
  go_wp2_with fail
  refine (cU.out _ (h.below B.out)).mono ?_
  rintro E w3 ⟨v3, rfl, r3, hB⟩
  replace B : Hid (Below w.heap.size w w3) := belowT B.out hB
  replace T : Hid (BytesAt w3 (.slice pt (stuL s e x bs).length ct) (stuL s e x bs)) := T.out.below hB
  have U : Hid (BytesAt w3 v3 U1) := r3.at
  clear hB r3 cU m0 m1 m2 M
  obtain ⟨pu, cu, rfl⟩ := U.out.slice
  go_wp2_with fail
  refine (cV.out _ (h.below B.out)).mono ?_
  rintro E w4 ⟨v4, rfl, r4, hB⟩
  replace B : Hid (Below w.heap.size w w4) := belowT B.out hB
  replace T : Hid (BytesAt w4 (.slice pt (stuL s e x bs).length ct) (stuL s e x bs)) := T.out.below hB
  replace U : Hid (BytesAt w4 (.slice pu U1.length cu) U1) := U.out.below hB
  have V : Hid (BytesAt w4 v4 W1) := r4.at
  clear hB r4 cV
  obtain ⟨pv, cv, rfl⟩ := V.out.slice
  generalize stuL s e x bs = L at *
  generalize hS : strOf L = S at *
  replace hS : Hid (strOf L = S) := hS
  have hw1 : IntKind.i64.wrap (2 * (bs.length : Int)) = 2 * (bs.length : Int) := by simp only [IntKind.wrap_i64]; omega
  have hw2 : IntKind.i64.wrap (-1 - (bs.length : Int)) = -1 - (bs.length : Int) := by simp only [IntKind.wrap_i64]; omega
  go_upto_region 7 with fail
  refine region_propsG (fun γ i v => v = ppV (.slice p bs.length cap) (.slice pt L.length ct) γ S s e x (bs.length : Int) i) (PpW w4 L) undef (by kernel_rfl) (by kernel_rfl) ?_ ?_ ?_
  · intro γ y a z i op ho hI haf hy hxi hW
    have hi : i < 25 := (List.getElem?_eq_some_iff.1 ho).1
    match i, hi with
    | 0, _ =>
      obtain rfl := Option.some.inj (show some _ = some op from ho)
      refine .inl ⟨wanted_all rfl, ?_⟩
      have e1 : a.tmps.getD 10 undef = (.slice pt L.length ct) := (hI.was (by kernel_rfl)).trans rfl
      go_simp
      exact ⟨_, rfl, γ, rfl, fun j _ => rfl, hW.other (Below.refl _ _) (by decide)⟩
    | 1, _ =>
      obtain rfl := Option.some.inj (show some _ = some op from ho)
      refine .inl ⟨wanted_all rfl, ?_⟩
      have e1 : a.tmps.getD 44 undef = (.slice pt L.length ct) := (hI.val 0 _ 44 rfl rfl (dep_at haf (by kernel_rfl))).trans rfl
      have k := conv_at (T.out.below hW.low)
      rw [hS.out] at k
      go_simp
      exact ⟨_, rfl, γ, rfl, fun j _ => rfl, hW.other (Below.refl _ _) (by decide)⟩
    | 2, _ =>
      obtain rfl := Option.some.inj (show some _ = some op from ho)
      refine .inl ⟨wanted_all rfl, ?_⟩
      have e1 : a.tmps.getD 0 undef = .int .u8 (s : Int) := (hI.was (by kernel_rfl)).trans rfl
      go_simp
      exact ⟨_, rfl, γ, rfl, fun j _ => rfl, hW.other (Below.refl _ _) (by decide)⟩
    | 3, _ =>
      obtain rfl := Option.some.inj (show some _ = some op from ho)
      refine .inl ⟨wanted_all rfl, ?_⟩
      have e1 : a.tmps.getD 1 undef = .int .u8 (e : Int) := (hI.was (by kernel_rfl)).trans rfl
      go_simp
      exact ⟨_, rfl, γ, rfl, fun j _ => rfl, hW.other (Below.refl _ _) (by decide)⟩
    | 4, _ =>
      obtain rfl := Option.some.inj (show some _ = some op from ho)
      refine .inl ⟨wanted_all rfl, ?_⟩
      have e1 : a.tmps.getD 2 undef = .int .u8 (x : Int) := (hI.was (by kernel_rfl)).trans rfl
      go_simp
      exact ⟨_, rfl, γ, rfl, fun j _ => rfl, hW.other (Below.refl _ _) (by decide)⟩
    | 5, _ =>
      obtain rfl := Option.some.inj (show some _ = some op from ho)
      refine .inl ⟨wanted_all rfl, ?_⟩
      have e1 : a.tmps.getD 3 undef = (.slice p bs.length cap) := (hI.was (by kernel_rfl)).trans rfl
      go_simp
      exact ⟨_, rfl, γ, rfl, fun j _ => rfl, hW.other (Below.refl _ _) (by decide)⟩
    | 6, _ =>
      obtain rfl := Option.some.inj (show some _ = some op from ho)
      refine .inl ⟨wanted_all rfl, ?_⟩
      have e1 : a.tmps.getD 46 undef = .int .u8 (s : Int) := (hI.val 2 _ 46 rfl rfl (dep_at haf (by kernel_rfl))).trans rfl
      have e2 : a.tmps.getD 47 undef = .int .u8 (e : Int) := (hI.val 3 _ 47 rfl rfl (dep_at haf (by kernel_rfl))).trans rfl
      have e3 : a.tmps.getD 48 undef = .int .u8 (x : Int) := (hI.val 4 _ 48 rfl rfl (dep_at haf (by kernel_rfl))).trans rfl
      have e4 : a.tmps.getD 49 undef = (.slice p bs.length cap) := (hI.val 5 _ 49 rfl rfl (dep_at haf (by kernel_rfl))).trans rfl
      have x6 := getD_false hxi
      go_simp
      refine (cT.out z (h.below (belowT B.out hW.low))).mono ?_
      rintro E z' ⟨u, rfl, hr, hb2⟩
      refine ⟨_, rfl, u, rfl, fun j hj => ppV_6 ?_, ⟨belowT hW.low hb2, fun _ => hr.at⟩⟩
      rintro rfl; have hj := getD_qS hj; rw [x6] at hj; cases hj
    | 7, _ =>
      obtain rfl := Option.some.inj (show some _ = some op from ho)
      refine .inl ⟨wanted_all rfl, ?_⟩
      have e1 : a.tmps.getD 50 undef = γ := (hI.val 6 _ 50 rfl rfl (dep_at haf (by kernel_rfl))).trans rfl
      have k := conv_at (hW.f6 (dep_at haf (by kernel_rfl)))
      rw [hS.out] at k
      go_simp
      exact ⟨_, rfl, γ, rfl, fun j _ => rfl, hW.other (Below.refl _ _) (by decide)⟩
    | 8, _ =>
      obtain rfl := Option.some.inj (show some _ = some op from ho)
      refine .inl ⟨wanted_all rfl, ?_⟩
      have e1 : a.tmps.getD 45 undef = .string S := (hI.val 1 _ 45 rfl rfl (dep_at haf (by kernel_rfl))).trans rfl
      have e2 : a.tmps.getD 51 undef = .string S := (hI.val 7 _ 51 rfl rfl (dep_at haf (by kernel_rfl))).trans rfl
      go_simp
      exact ⟨_, rfl, γ, rfl, fun j _ => rfl, hW.other (Below.refl _ _) (by decide)⟩
    | 9, _ =>
      obtain rfl := Option.some.inj (show some _ = some op from ho)
      refine .inl ⟨wanted_all rfl, ?_⟩
      have e1 : a.tmps.getD 52 undef = .bool false := (hI.val 8 _ 52 rfl rfl (dep_at haf (by kernel_rfl))).trans rfl
      go_simp
      exact ⟨_, rfl, γ, rfl, fun j _ => rfl, hW.other (Below.refl _ _) (by decide)⟩
    | 10, _ =>
      obtain rfl := Option.some.inj (show some _ = some op from ho)
      have eg : a.tmps.getD 53 undef = .bool false := (hI.val 9 _ 53 rfl rfl (dep_at haf (by kernel_rfl))).trans rfl
      refine .inl ⟨wanted_on (g := 9) (b := false) (d := 53) (by rfl) (by rfl) (by rfl) (by rw [hI.size]; exact of_decide_eq_true (by kernel_rfl)) eg, ?_⟩
      clear eg
      have e1 : a.tmps.getD 3 undef = (.slice p bs.length cap) := (hI.was (by kernel_rfl)).trans rfl
      go_simp
      exact ⟨_, rfl, γ, rfl, fun j _ => rfl, hW.other (Below.refl _ _) (by decide)⟩
    | 11, _ =>
      obtain rfl := Option.some.inj (show some _ = some op from ho)
      have eg : a.tmps.getD 53 undef = .bool false := (hI.val 9 _ 53 rfl rfl (dep_at haf (by kernel_rfl))).trans rfl
      refine .inl ⟨wanted_on (g := 9) (b := false) (d := 53) (by rfl) (by rfl) (by rfl) (by rw [hI.size]; exact of_decide_eq_true (by kernel_rfl)) eg, ?_⟩
      clear eg
      have e1 : a.tmps.getD 54 undef = (.slice p bs.length cap) := (hI.val 10 _ 54 rfl rfl (dep_at haf (by kernel_rfl))).trans rfl
      go_simp
      exact ⟨_, rfl, γ, rfl, fun j _ => rfl, hW.other (Below.refl _ _) (by decide)⟩
    | 12, _ =>
      obtain rfl := Option.some.inj (show some _ = some op from ho)
      have eg : a.tmps.getD 53 undef = .bool false := (hI.val 9 _ 53 rfl rfl (dep_at haf (by kernel_rfl))).trans rfl
      refine .inl ⟨wanted_on (g := 9) (b := false) (d := 53) (by rfl) (by rfl) (by rfl) (by rw [hI.size]; exact of_decide_eq_true (by kernel_rfl)) eg, ?_⟩
      clear eg
      have e1 : a.tmps.getD 55 undef = .int .i64 (bs.length : Int) := (hI.val 11 _ 55 rfl rfl (dep_at haf (by kernel_rfl))).trans rfl
      go_simp
      refine (cM.out z).mono ?_
      rintro E z' ⟨rfl, rfl⟩
      exact ⟨_, rfl, γ, rfl, fun j _ => rfl, hW.other (Below.refl _ _) (by decide)⟩
    | 13, _ =>
      obtain rfl := Option.some.inj (show some _ = some op from ho)
      have eg : a.tmps.getD 53 undef = .bool false := (hI.val 9 _ 53 rfl rfl (dep_at haf (by kernel_rfl))).trans rfl
      refine .inl ⟨wanted_on (g := 9) (b := false) (d := 53) (by rfl) (by rfl) (by rfl) (by rw [hI.size]; exact of_decide_eq_true (by kernel_rfl)) eg, ?_⟩
      clear eg
      have e1 : a.tmps.getD 3 undef = (.slice p bs.length cap) := (hI.was (by kernel_rfl)).trans rfl
      go_simp
      exact ⟨_, rfl, γ, rfl, fun j _ => rfl, hW.other (Below.refl _ _) (by decide)⟩
    | 14, _ =>
      obtain rfl := Option.some.inj (show some _ = some op from ho)
      have eg : a.tmps.getD 53 undef = .bool false := (hI.val 9 _ 53 rfl rfl (dep_at haf (by kernel_rfl))).trans rfl
      refine .inl ⟨wanted_on (g := 9) (b := false) (d := 53) (by rfl) (by rfl) (by rfl) (by rw [hI.size]; exact of_decide_eq_true (by kernel_rfl)) eg, ?_⟩
      clear eg
      have e1 : a.tmps.getD 57 undef = (.slice p bs.length cap) := (hI.val 13 _ 57 rfl rfl (dep_at haf (by kernel_rfl))).trans rfl
      go_simp
      exact ⟨_, rfl, γ, rfl, fun j _ => rfl, hW.other (Below.refl _ _) (by decide)⟩
    | 15, _ =>
      obtain rfl := Option.some.inj (show some _ = some op from ho)
      have eg : a.tmps.getD 53 undef = .bool false := (hI.val 9 _ 53 rfl rfl (dep_at haf (by kernel_rfl))).trans rfl
      refine .inl ⟨wanted_on (g := 9) (b := false) (d := 53) (by rfl) (by rfl) (by rfl) (by rw [hI.size]; exact of_decide_eq_true (by kernel_rfl)) eg, ?_⟩
      clear eg
      have e1 : a.tmps.getD 58 undef = .int .i64 (bs.length : Int) := (hI.val 14 _ 58 rfl rfl (dep_at haf (by kernel_rfl))).trans rfl
      go_simp
      exact ⟨_, rfl, γ, rfl, fun j _ => rfl, hW.other (Below.refl _ _) (by decide)⟩
    | 16, _ =>
      obtain rfl := Option.some.inj (show some _ = some op from ho)
      have eg : a.tmps.getD 53 undef = .bool false := (hI.val 9 _ 53 rfl rfl (dep_at haf (by kernel_rfl))).trans rfl
      refine .inl ⟨wanted_on (g := 9) (b := false) (d := 53) (by rfl) (by rfl) (by rfl) (by rw [hI.size]; exact of_decide_eq_true (by kernel_rfl)) eg, ?_⟩
      clear eg
      have e1 : a.tmps.getD 56 undef = .int .i64 (2 * (bs.length : Int)) := (hI.val 12 _ 56 rfl rfl (dep_at haf (by kernel_rfl))).trans rfl
      have e2 : a.tmps.getD 59 undef = .int .i64 (2 * (bs.length : Int)) := (hI.val 15 _ 59 rfl rfl (dep_at haf (by kernel_rfl))).trans rfl
      go_simp
      exact ⟨_, rfl, γ, rfl, fun j _ => rfl, hW.other (Below.refl _ _) (by decide)⟩
    | 17, _ =>
      obtain rfl := Option.some.inj (show some _ = some op from ho)
      refine .inl ⟨wanted_all rfl, ?_⟩
      have e1 : a.tmps.getD 53 undef = .bool false := (hI.val 9 _ 53 rfl rfl (dep_at haf (by kernel_rfl))).trans rfl
      have e2 : a.tmps.getD 60 undef = .bool false := (hI.val 16 _ 60 rfl rfl (dep_at haf (by kernel_rfl))).trans rfl
      go_simp
      exact ⟨_, rfl, γ, rfl, fun j _ => rfl, hW.other (Below.refl _ _) (by decide)⟩
    | 18, _ =>
      obtain rfl := Option.some.inj (show some _ = some op from ho)
      refine .inl ⟨wanted_all rfl, ?_⟩
      have e1 : a.tmps.getD 61 undef = .bool false := (hI.val 17 _ 61 rfl rfl (dep_at haf (by kernel_rfl))).trans rfl
      go_simp
      exact ⟨_, rfl, γ, rfl, fun j _ => rfl, hW.other (Below.refl _ _) (by decide)⟩
    | 19, _ =>
      obtain rfl := Option.some.inj (show some _ = some op from ho)
      have eg : a.tmps.getD 62 undef = .bool false := (hI.val 18 _ 62 rfl rfl (dep_at haf (by kernel_rfl))).trans rfl
      refine .inl ⟨wanted_on (g := 18) (b := false) (d := 62) (by rfl) (by rfl) (by rfl) (by rw [hI.size]; exact of_decide_eq_true (by kernel_rfl)) eg, ?_⟩
      clear eg
      have e1 : a.tmps.getD 3 undef = (.slice p bs.length cap) := (hI.was (by kernel_rfl)).trans rfl
      go_simp
      exact ⟨_, rfl, γ, rfl, fun j _ => rfl, hW.other (Below.refl _ _) (by decide)⟩
    | 20, _ =>
      obtain rfl := Option.some.inj (show some _ = some op from ho)
      have eg : a.tmps.getD 62 undef = .bool false := (hI.val 18 _ 62 rfl rfl (dep_at haf (by kernel_rfl))).trans rfl
      refine .inl ⟨wanted_on (g := 18) (b := false) (d := 62) (by rfl) (by rfl) (by rfl) (by rw [hI.size]; exact of_decide_eq_true (by kernel_rfl)) eg, ?_⟩
      clear eg
      have e1 : a.tmps.getD 63 undef = (.slice p bs.length cap) := (hI.val 19 _ 63 rfl rfl (dep_at haf (by kernel_rfl))).trans rfl
      go_simp
      exact ⟨_, rfl, γ, rfl, fun j _ => rfl, hW.other (Below.refl _ _) (by decide)⟩
    | 21, _ =>
      obtain rfl := Option.some.inj (show some _ = some op from ho)
      have eg : a.tmps.getD 62 undef = .bool false := (hI.val 18 _ 62 rfl rfl (dep_at haf (by kernel_rfl))).trans rfl
      refine .inl ⟨wanted_on (g := 18) (b := false) (d := 62) (by rfl) (by rfl) (by rfl) (by rw [hI.size]; exact of_decide_eq_true (by kernel_rfl)) eg, ?_⟩
      clear eg
      have e1 : a.tmps.getD 64 undef = .int .i64 (bs.length : Int) := (hI.val 20 _ 64 rfl rfl (dep_at haf (by kernel_rfl))).trans rfl
      go_simp
      exact ⟨_, rfl, γ, rfl, fun j _ => rfl, hW.other (Below.refl _ _) (by decide)⟩
    | 22, _ =>
      obtain rfl := Option.some.inj (show some _ = some op from ho)
      have eg : a.tmps.getD 62 undef = .bool false := (hI.val 18 _ 62 rfl rfl (dep_at haf (by kernel_rfl))).trans rfl
      refine .inl ⟨wanted_on (g := 18) (b := false) (d := 62) (by rfl) (by rfl) (by rfl) (by rw [hI.size]; exact of_decide_eq_true (by kernel_rfl)) eg, ?_⟩
      clear eg
      have e1 : a.tmps.getD 65 undef = .int .i64 (-1 - (bs.length : Int)) := (hI.val 21 _ 65 rfl rfl (dep_at haf (by kernel_rfl))).trans rfl
      go_simp
      refine (cN.out z).mono ?_
      rintro E z' ⟨rfl, rfl⟩
      exact ⟨_, rfl, γ, rfl, fun j _ => rfl, hW.other (Below.refl _ _) (by decide)⟩
    | 23, _ =>
      obtain rfl := Option.some.inj (show some _ = some op from ho)
      have eg : a.tmps.getD 62 undef = .bool false := (hI.val 18 _ 62 rfl rfl (dep_at haf (by kernel_rfl))).trans rfl
      refine .inl ⟨wanted_on (g := 18) (b := false) (d := 62) (by rfl) (by rfl) (by rfl) (by rw [hI.size]; exact of_decide_eq_true (by kernel_rfl)) eg, ?_⟩
      clear eg
      have e1 : a.tmps.getD 66 undef = .int .i64 0 := (hI.val 22 _ 66 rfl rfl (dep_at haf (by kernel_rfl))).trans rfl
      go_simp
      exact ⟨_, rfl, γ, rfl, fun j _ => rfl, hW.other (Below.refl _ _) (by decide)⟩
    | 24, _ =>
      obtain rfl := Option.some.inj (show some _ = some op from ho)
      refine .inl ⟨wanted_all rfl, ?_⟩
      have e1 : a.tmps.getD 62 undef = .bool false := (hI.val 18 _ 62 rfl rfl (dep_at haf (by kernel_rfl))).trans rfl
      have e2 : a.tmps.getD 67 undef = .bool false := (hI.val 23 _ 67 rfl rfl (dep_at haf (by kernel_rfl))).trans rfl
      go_simp
      exact ⟨_, rfl, γ, rfl, fun j _ => rfl, hW.other (Below.refl _ _) (by decide)⟩
  · intro γ y a z hy hall hI hW
    have ha := RegI.tmpsG (V := ppV (.slice p bs.length cap) (.slice pt L.length ct) γ S s e x (bs.length : Int)) hI (by kernel_rfl) hall
    simp only [putsL, ppV, List.setIfInBounds_toArray, List.set_cons_zero, List.set_cons_succ] at ha
    have B2 : Hid (Below w.heap.size w z) := belowT B.out hW.low
    replace U : Hid (BytesAt z (.slice pu U1.length cu) U1) := U.out.below hW.low
    replace V : Hid (BytesAt z (.slice pv W1.length cv) W1) := V.out.below hW.low
    subst ha
    clear hI hW hall hy cT cM cN T hw1 hw2 B
    go_wp2_with fail
    refine (cH.out _ (h.below B2.out)).mono ?_
    rintro E z' ⟨rfl, rfl⟩
    clear cH
    cases d with
    | true =>
      obtain ⟨rfl, rfl⟩ := f1 rfl
      clear f1 f2 f3
      go_wp2
      go_ret
      exact ⟨rfl, B2.out⟩
    | false =>
      cases ob with
      | true =>
        obtain ⟨rfl, rfl⟩ := f2 rfl rfl
        clear f1 f2 f3
        go_wp2
        go_ret
        exact ⟨rfl, B2.out⟩
      | false =>
        obtain ⟨rfl, rfl⟩ := f3 rfl rfl
        clear f1 f2 f3
        have k1 := conv_at U.out
        have k2 := conv_at V.out
        clear U V
        generalize strOf U1 = S1 at *
        go_wp2
        go_ret
        exact ⟨rfl, B2.out⟩
  · exact ⟨(Below.refl _ _).drew, fun k => (by simp at k)⟩
theorem plays_any (w : World) (s e x : Nat) (hs : s < 256) (he : e < 256) (hx : x < 256) (v : Value) (bs : List Nat) (hv : BytesV w v bs) (hb : AllBytes bs) :
    Calls Try.prog 4 #[.int .u8 (s : Int), .int .u8 (e : Int), .int .u8 (x : Int), v] w fun E w' => E = .returned (.bool true) ∧ Below w.heap.size w w' := by
  have hm := hv.len
  have h := hv.at
  obtain ⟨p, cap, rfl⟩ := h.slice
  by_cases hl : bs.length ≤ 500
  · refine plays_yes w s e x hs he hx p bs cap h hb hl (unsM s e x bs).1 (unsL s e x bs).1 (unsM s e x bs).2 (unsL s e x bs).2 (decide (s ∈ bs)) rfl rfl rfl ?_ ?_ ?_
    · intro k
      unfold unsM
      rw [if_pos (of_decide_eq_true k)]
      exact ⟨rfl, rfl⟩
    · intro k k2
      unfold unsM
      rw [if_neg (of_decide_eq_false k), if_pos k2]
      exact ⟨rfl, rfl⟩
    · intro k k2
      unfold unsM
      rw [if_neg (of_decide_eq_false k), if_neg (by rw [k2]; decide)]
      exact ⟨rfl, rfl⟩
  · exact plays_long w s e x hs he hx p _ cap (by omega) hm
end Go.Proofs.Ytdnlobcfmibeoaa
