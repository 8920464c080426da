/-
  Texts that belong together, one behind the other: SnPl. Conditions: as each says.
-/
import Derived.Test.YtllkkgcfhphgmaaJs25
import Derived.Test.YtllkkgcfhphgmaaJs27
/-
  SoundPlays, out of what its callees return (layer 9). Conditions: the device's fields lie in memory that was there; numbers are of their kinds.
-/
namespace Go.Proofs.Ytllkkgcfhphgmaa
open Go.RowKit
set_option linter.unusedVariables false

/-- what the operations of the last region yield -/
def plV (b0 : Nat) (d : Dv) (fv qv v1 v2 : Value) (tt E : Int) (B : Bool) (i : Nat) : Value :=
  (#[dvV d fv qv, dvV d v1 qv, .int .i64 E, dvV d fv qv, .int .i64 E, .bool true, .bool true, .pointer (some ⟨b0, 4, none⟩), .int .i64 d.sz, .bool B, .bool B,
    bif B then undef else dvV d fv qv, bif B then undef else dvV d v2 qv, bif B then undef else .int .i64 tt, bif B then undef else .int .i64 tt, bif B then undef else .bool true, .bool true, .bool true, .bool true] : Array Value).getD i undef
theorem plV_1 {b0 : Nat} {d : Dv} {fv qv v1 v2 v1' : Value} {tt E : Int} {B : Bool} {j : Nat} (h : j ≠ 1) : plV b0 d fv qv v1 v2 tt E B j = plV b0 d fv qv v1' v2 tt E B j := by
  unfold plV
  match j, h with
  | 0, _ => rfl
  | 1, h => exact absurd rfl h
  | 2, _ => rfl
  | 3, _ => rfl
  | 4, _ => rfl
  | 5, _ => rfl
  | 6, _ => rfl
  | 7, _ => rfl
  | 8, _ => rfl
  | 9, _ => rfl
  | 10, _ => rfl
  | 11, _ => rfl
  | 12, _ => rfl
  | 13, _ => rfl
  | 14, _ => rfl
  | 15, _ => rfl
  | 16, _ => rfl
  | 17, _ => rfl
  | 18, _ => rfl
  | (n + 19), _ => rfl
theorem plV_2 {b0 : Nat} {d : Dv} {fv qv v1 v2 v2' : Value} {tt E : Int} {B : Bool} {j : Nat} (h : j ≠ 12) : plV b0 d fv qv v1 v2 tt E B j = plV b0 d fv qv v1 v2' tt E B j := by
  unfold plV
  match j, h with
  | 0, _ => rfl
  | 1, _ => rfl
  | 2, _ => rfl
  | 3, _ => rfl
  | 4, _ => rfl
  | 5, _ => rfl
  | 6, _ => rfl
  | 7, _ => rfl
  | 8, _ => rfl
  | 9, _ => rfl
  | 10, _ => rfl
  | 11, _ => rfl
  | 12, h => exact absurd rfl h
  | 13, _ => rfl
  | 14, _ => rfl
  | 15, _ => rfl
  | 16, _ => rfl
  | 17, _ => rfl
  | 18, _ => rfl
  | (n + 19), _ => rfl
structure PlG where
  v1 : Value
  v2 : Value
structure PlW (W0 : World) (d : Dv) (b : Bool) (γ : PlG) (x : Array Bool) (z : World) : Prop where
  low : Below W0.heap.size W0 z
  f1 : x.getD 1 false = true → FldsV z γ.v1 d.fs
  f2 : x.getD 12 false = true → b = false → FldsV z γ.v2 d.fs
theorem PlW.other {W0 : World} {d : Dv} {b : Bool} {γ : PlG} {x : Array Bool} {z z' : World} (h : PlW W0 d b γ x z) (hb : Below z.heap.size z z') {i : Nat} (h1 : i ≠ 1) (h12 : i ≠ 12) : PlW W0 d b γ (x.setIfInBounds i true) z' := by
  refine ⟨h.low.trans (hb.mono h.low.size), ?_, ?_⟩
  · rw [getD_set_ne false h1]; exact fun e => (h.f1 e).below hb
  · rw [getD_set_ne false h12]; exact fun e k => (h.f2 e k).below hb
theorem getD_qS {x : Array Bool} {j : Nat} (h : x[j]?.getD false = true) : x.getD j false = true := by rw [Array.getD_eq_getD_getElem?]; exact h
def LoC (w : World) (d : Dv) (fv : Value) (pq : Option Addr) (cq : Nat) : Prop := ∀ x, Below w.heap.size w x → Calls Try.prog 10 #[dvV d fv (.slice pq d.rq.length cq)] x fun e w' => ∃ ov, e = .returned (dvV d ov (.slice pq d.rq.length cq)) ∧ FldsV w' ov d.fs ∧ Below x.heap.size x w'
def CkC (d : Dv) (pq : Option Addr) (cq : Nat) (E : Int) : Prop := ∀ v x, FldsV x v d.fs → Calls Try.prog 9 #[dvV d v (.slice pq d.rq.length cq)] x (QA x E)
def RkC (w : World) (d : Dv) (fv : Value) (pq : Option Addr) (cq : Nat) (E : Int) : Prop := ∀ x, Below w.heap.size w x → Calls Try.prog 11 #[dvV d fv (.slice pq d.rq.length cq)] x (QA x E)
def ToC (d : Dv) (pq : Option Addr) (cq : Nat) (E : Int) : Prop := ∀ v x, FldsV x v d.fs → Calls Try.prog 12 #[dvV d v (.slice pq d.rq.length cq)] x (QA x E)
set_option maxRecDepth 100000 in
set_option maxHeartbeats 8000000 in
theorem splays_any (w : World) (d : Dv) (fv : Value) (pq : Option Addr) (cq : Nat) (hd : DvH w (dvV d fv (.slice pq d.rq.length cq)) d fv pq cq) :
    Calls Try.prog 3 #[dvV d fv (.slice pq d.rq.length cq)] w fun e w' => e = .returned (.bool true) ∧ Below w.heap.size w w' := by
  have aw : Hid AwC9 := awC9
  have fw : Hid (FwC w d fv pq cq (fewD d)) := fwC hd.fl
  have oc : Hid (∀ x, Calls Try.prog 8 #[.string (txt d.sm), .slice none 0 0] x fun e w' => ∃ p n c, e = .returned (.tuple #[.slice p n c, .bool (isSum (txt d.sm))]) ∧ (isSum (txt d.sm) = true → n = sizeK (whichN (txt d.sm))) ∧ Below x.heap.size x w') := fun x => rof_any (txt d.sm) x
  have D0 : Hid (DvO (w.alloc (.cells #[.string (txt d.nm), .int .i64 d.st, .int .i64 d.es, .int .i64 d.mx, .int .i64 d.sz, .string (txt d.sm), fv, .slice pq d.rq.length cq, .int .i64 d.po, .int .i64 d.ti, .int .i64 d.re, .int .i64 d.ag] 25)) w.heap.size d fv (.slice pq d.rq.length cq)) := DvO.new hd.fl
  have B0 : Hid (Below w.heap.size w (w.alloc (.cells #[.string (txt d.nm), .int .i64 d.st, .int .i64 d.es, .int .i64 d.mx, .int .i64 d.sz, .string (txt d.sm), fv, .slice pq d.rq.length cq, .int .i64 d.po, .int .i64 d.ti, .int .i64 d.re, .int .i64 d.ag] 25))) := (Below.refl _ _).alloc (Nat.le_refl _) _
  obtain ⟨pf, cf, rfl⟩ := hd.fl.form
  obtain ⟨hz1, hz2⟩ := hd.sz
  have dvi : Hid (fewD d = true → DvI d) := fun h => dvi_of h hd.fn hd.sz
  have hz : Hid (I64 d.sz) := hd.sz
  have hfl : Hid (FldsV w (.slice pf d.fs.length cf) d.fs) := hd.fl
  clear hd
  go_enter Try.func3, Try.ntmps3
  go_wp2_with fail
  refine (aw.out _).mono ?_
  rintro e y1 ⟨rfl, hb⟩
  have D1 : Hid (DvO y1 w.heap.size d (.slice pf d.fs.length cf) (.slice pq d.rq.length cq)) := D0.out.below hb
  have B1 : Hid (Below w.heap.size w y1) := B0.out.trans (hb.mono B0.out.size)
  clear hb D0 B0
  obtain ⟨z0, z1, z2, z3, z4, z5, z6, z7, z8, z9, z10, z11⟩ := D1.out.cells
  have fk : Hid (Calls Try.prog 7 #[.agg #[.string (txt d.nm), .int .i64 d.st, .int .i64 d.es, .int .i64 d.mx, .int .i64 d.sz, .string (txt d.sm), (.slice pf d.fs.length cf), .slice pq d.rq.length cq, .int .i64 d.po, .int .i64 d.ti, .int .i64 d.re, .int .i64 d.ag]] y1 (QA y1 (oneI (fewD d)))) := fw.out y1 B1.out
  clear fw
  obtain ⟨T, hT⟩ : ∃ T, fewD d = T := ⟨_, rfl⟩
  rw [hT] at fk dvi
  clear hT
  go_wp2_with fail
  refine fk.out.mono ?_
  rintro e y2 ⟨rfl, hb⟩
  have D2 : Hid (DvO y2 w.heap.size d (.slice pf d.fs.length cf) (.slice pq d.rq.length cq)) := D1.out.below hb
  have B2 : Hid (Below w.heap.size w y2) := B1.out.trans (hb.mono B1.out.size)
  clear hb D1 B1 fk z0 z1 z2 z3 z4 z5 z6 z7 z8 z9 z10 z11
  cases T
  · have e0 : oneI false = 0 := rfl
    rw [e0]
    clear D2 oc dvi
    go_wp2_with fail
    refine (aw.out _).mono ?_
    rintro e y3 ⟨rfl, hb⟩
    have B3 : Hid (Below w.heap.size w y3) := B2.out.trans (hb.mono B2.out.size)
    clear hb B2 aw
    go_wp2
    go_ret
    exact ⟨rfl, B3.out⟩
  have e0 : oneI true = 1 := rfl
  rw [e0]
  clear e0 aw
  have hi : Hid (DvI d) := dvi.out rfl
  clear dvi
  have z5 := D2.out.cells.2.2.2.2.2.1
  go_wp2_with fail
  refine (oc.out _).mono ?_
  rintro e y3 ⟨pO, nO, cO, rfl, hn, hb⟩
  have D3 : Hid (DvO y3 w.heap.size d (.slice pf d.fs.length cf) (.slice pq d.rq.length cq)) := D2.out.below hb
  have B3 : Hid (Below w.heap.size w y3) := B2.out.trans (hb.mono B2.out.size)
  replace hn : Hid (isSum (txt d.sm) = true → nO = sizeK (whichN (txt d.sm))) := hn
  clear hb D2 B2 oc z5
  obtain ⟨z0, z1, z2, z3, z4, z5, z6, z7, z8, z9, z10, z11⟩ := D3.out.cells
  have lo : Hid (LoC y3 d (.slice pf d.fs.length cf) pq cq) := fun x hx => lof_any d _ pq _ cq x (D3.out.fl.below hx) hi.out.ln
  have ck : Hid (CkC d pq cq (ckE d)) := fun v x hv => check_any d v _ x hi.out ⟨pq, cq, rfl⟩ hv
  have rk : Hid (RkC y3 d (.slice pf d.fs.length cf) pq cq (ckE d)) := fun x hx => rcheck_any d pf pq cf cq x hi.out (D3.out.fl.below hx)
  have tc : Hid (d.sz < 1000000 → ToC d pq cq (if isSum (txt d.sm) = true then d.sz + (sizeK (whichN (txt d.sm)) : Nat) else 0)) := fun h v x hv => total_any d v _ x hz.out h hv
  have hn4 : Hid (isSum (txt d.sm) = true → nO ≤ 4) := fun h => by
    rw [hn.out h]
    rcases which_cases (txt d.sm) with ⟨k, hk, _, hw⟩ | ⟨hw, _⟩
    · rw [hw]
      match k, hk with
      | 0, _ => decide
      | 1, _ => decide
      | 2, _ => decide
      | 3, _ => decide
      | 4, _ => decide
      | 5, _ => decide
      | 6, _ => decide
      | 7, _ => decide
      | 8, _ => decide
    · rw [hw]; decide
  clear hi hz hfl
  generalize ckE d = E at *
  by_cases q : d.sz < 1000000
  · have g9 : decide (1000000 ≤ d.sz) = false := decide_eq_false (by omega)
    have tc' := tc.out q
    cases hS : isSum (txt d.sm)
    · rw [hS] at tc'
      have tk : Hid (ToC d pq cq 0) := tc'
      clear tc' tc hn hn4 hS
      go_upto_region 7 with fail
      refine region_propsG (fun γ i v => v = plV w.heap.size d (.slice pf d.fs.length cf) (.slice pq d.rq.length cq) γ.v1 γ.v2 0 E false i) (PlW y3 d false) ⟨undef, undef⟩ (by kernel_rfl) (by kernel_rfl) ?_ ?_ ?_
      · intro γ x a z i op ho hI haf hx hxi hW
        have hi : i < 19 := (List.getElem?_eq_some_iff.1 ho).1
        match i, hi with
        | 0, _ =>
          obtain rfl := Option.some.inj (show some _ = some op from ho)
          refine .inl ⟨wanted_all rfl, ?_⟩
          have e1 : a.tmps.getD 1 undef = .pointer (some ⟨w.heap.size, 0, none⟩) := (hI.was (by kernel_rfl)).trans rfl
          obtain ⟨l0, l1, l2, l3, l4, l5, l6, l7, l8, l9, l10, l11⟩ := (D3.out.below hW.low).cells
          go_simp
          exact ⟨_, rfl, γ, rfl, fun j _ => rfl, hW.other (Below.refl _ _) (by decide) (by decide)⟩
        | 1, _ =>
          obtain rfl := Option.some.inj (show some _ = some op from ho)
          refine .inl ⟨wanted_all rfl, ?_⟩
          have e1 : a.tmps.getD 31 undef = dvV d (.slice pf d.fs.length cf) (.slice pq d.rq.length cq) := (hI.val 0 _ 31 rfl rfl (dep_at haf (by kernel_rfl))).trans rfl
          have x1 := getD_false hxi
          go_simp
          refine (lo.out z hW.low).mono ?_
          rintro e z' ⟨ov, rfl, hov, hb⟩
          refine ⟨_, rfl, ⟨ov, γ.v2⟩, rfl, fun j hj => plV_1 ?_, ⟨hW.low.trans (hb.mono hW.low.size), fun _ => hov, ?_⟩⟩
          · rintro rfl; have hj := getD_qS hj; rw [x1] at hj; cases hj
          · rw [getD_set_ne false (by decide)]; exact fun e k => (hW.f2 e k).below hb
        | 2, _ =>
          obtain rfl := Option.some.inj (show some _ = some op from ho)
          refine .inl ⟨wanted_all rfl, ?_⟩
          have e1 : a.tmps.getD 32 undef = dvV d γ.v1 (.slice pq d.rq.length cq) := (hI.val 1 _ 32 rfl rfl (dep_at haf (by kernel_rfl))).trans rfl
          have x1 : x.getD 1 false = true := dep_at haf (by kernel_rfl)
          go_simp
          refine (ck.out _ z (hW.f1 x1)).mono ?_
          rintro e z' ⟨rfl, hb⟩
          exact ⟨_, rfl, γ, rfl, fun j _ => rfl, hW.other hb (by decide) (by decide)⟩
        | 3, _ =>
          obtain rfl := Option.some.inj (show some _ = some op from ho)
          refine .inl ⟨wanted_all rfl, ?_⟩
          have e1 : a.tmps.getD 1 undef = .pointer (some ⟨w.heap.size, 0, none⟩) := (hI.was (by kernel_rfl)).trans rfl
          obtain ⟨l0, l1, l2, l3, l4, l5, l6, l7, l8, l9, l10, l11⟩ := (D3.out.below hW.low).cells
          go_simp
          exact ⟨_, rfl, γ, rfl, fun j _ => rfl, hW.other (Below.refl _ _) (by decide) (by decide)⟩
        | 4, _ =>
          obtain rfl := Option.some.inj (show some _ = some op from ho)
          refine .inl ⟨wanted_all rfl, ?_⟩
          have e1 : a.tmps.getD 34 undef = dvV d (.slice pf d.fs.length cf) (.slice pq d.rq.length cq) := (hI.val 3 _ 34 rfl rfl (dep_at haf (by kernel_rfl))).trans rfl
          go_simp
          refine (rk.out z hW.low).mono ?_
          rintro e z' ⟨rfl, hb⟩
          exact ⟨_, rfl, γ, rfl, fun j _ => rfl, hW.other hb (by decide) (by decide)⟩
        | 5, _ =>
          obtain rfl := Option.some.inj (show some _ = some op from ho)
          refine .inl ⟨wanted_all rfl, ?_⟩
          have e1 : a.tmps.getD 33 undef = .int .i64 E := (hI.val 2 _ 33 rfl rfl (dep_at haf (by kernel_rfl))).trans rfl
          have e2 : a.tmps.getD 35 undef = .int .i64 E := (hI.val 4 _ 35 rfl rfl (dep_at haf (by kernel_rfl))).trans rfl
          go_simp
          exact ⟨_, rfl, γ, rfl, fun j _ => rfl, hW.other (Below.refl _ _) (by decide) (by decide)⟩
        | 6, _ =>
          obtain rfl := Option.some.inj (show some _ = some op from ho)
          refine .inl ⟨wanted_all rfl, ?_⟩
          have e1 : a.tmps.getD 36 undef = .bool true := (hI.val 5 _ 36 rfl rfl (dep_at haf (by kernel_rfl))).trans rfl
          go_simp
          exact ⟨_, rfl, γ, rfl, fun j _ => rfl, hW.other (Below.refl _ _) (by decide) (by decide)⟩
        | 7, _ =>
          obtain rfl := Option.some.inj (show some _ = some op from ho)
          have eg : a.tmps.getD 37 undef = .bool true := (hI.val 6 _ 37 rfl rfl (dep_at haf (by kernel_rfl))).trans rfl
          refine .inl ⟨wanted_on (g := 6) (b := true) (d := 37) (by rfl) (by rfl) (by rfl) (by rw [hI.size]; exact of_decide_eq_true (by kernel_rfl)) eg, ?_⟩
          clear eg
          have e1 : a.tmps.getD 1 undef = .pointer (some ⟨w.heap.size, 0, none⟩) := (hI.was (by kernel_rfl)).trans rfl
          go_simp
          exact ⟨_, rfl, γ, rfl, fun j _ => rfl, hW.other (Below.refl _ _) (by decide) (by decide)⟩
        | 8, _ =>
          obtain rfl := Option.some.inj (show some _ = some op from ho)
          have eg : a.tmps.getD 37 undef = .bool true := (hI.val 6 _ 37 rfl rfl (dep_at haf (by kernel_rfl))).trans rfl
          refine .inl ⟨wanted_on (g := 6) (b := true) (d := 37) (by rfl) (by rfl) (by rfl) (by rw [hI.size]; exact of_decide_eq_true (by kernel_rfl)) eg, ?_⟩
          clear eg
          have e1 : a.tmps.getD 38 undef = .pointer (some ⟨w.heap.size, 4, none⟩) := (hI.val 7 _ 38 rfl rfl (dep_at haf (by kernel_rfl))).trans rfl
          have l1 := (D3.out.below hW.low).cells.2.2.2.2.1
          go_simp
          exact ⟨_, rfl, γ, rfl, fun j _ => rfl, hW.other (Below.refl _ _) (by decide) (by decide)⟩
        | 9, _ =>
          obtain rfl := Option.some.inj (show some _ = some op from ho)
          have eg : a.tmps.getD 37 undef = .bool true := (hI.val 6 _ 37 rfl rfl (dep_at haf (by kernel_rfl))).trans rfl
          refine .inl ⟨wanted_on (g := 6) (b := true) (d := 37) (by rfl) (by rfl) (by rfl) (by rw [hI.size]; exact of_decide_eq_true (by kernel_rfl)) eg, ?_⟩
          clear eg
          have e1 : a.tmps.getD 39 undef = .int .i64 d.sz := (hI.val 8 _ 39 rfl rfl (dep_at haf (by kernel_rfl))).trans rfl
          go_simp
          exact ⟨_, rfl, γ, rfl, fun j _ => rfl, hW.other (Below.refl _ _) (by decide) (by decide)⟩
        | 10, _ =>
          obtain rfl := Option.some.inj (show some _ = some op from ho)
          have eg : a.tmps.getD 37 undef = .bool true := (hI.val 6 _ 37 rfl rfl (dep_at haf (by kernel_rfl))).trans rfl
          refine .inl ⟨wanted_on (g := 6) (b := true) (d := 37) (by rfl) (by rfl) (by rfl) (by rw [hI.size]; exact of_decide_eq_true (by kernel_rfl)) eg, ?_⟩
          clear eg
          have e1 : a.tmps.getD 40 undef = .bool false := (hI.val 9 _ 40 rfl rfl (dep_at haf (by kernel_rfl))).trans rfl
          go_simp
          exact ⟨_, rfl, γ, rfl, fun j _ => rfl, hW.other (Below.refl _ _) (by decide) (by decide)⟩
        | 11, _ =>
          obtain rfl := Option.some.inj (show some _ = some op from ho)
          have eg : a.tmps.getD 41 undef = .bool false := (hI.val 10 _ 41 rfl rfl (dep_at haf (by kernel_rfl))).trans rfl
          refine .inl ⟨wanted_on (g := 10) (b := false) (d := 41) (by rfl) (by rfl) (by rfl) (by rw [hI.size]; exact of_decide_eq_true (by kernel_rfl)) eg, ?_⟩
          clear eg
          have e1 : a.tmps.getD 1 undef = .pointer (some ⟨w.heap.size, 0, none⟩) := (hI.was (by kernel_rfl)).trans rfl
          obtain ⟨l0, l1, l2, l3, l4, l5, l6, l7, l8, l9, l10, l11⟩ := (D3.out.below hW.low).cells
          go_simp
          exact ⟨_, rfl, γ, rfl, fun j _ => rfl, hW.other (Below.refl _ _) (by decide) (by decide)⟩
        | 12, _ =>
          obtain rfl := Option.some.inj (show some _ = some op from ho)
          have eg : a.tmps.getD 41 undef = .bool false := (hI.val 10 _ 41 rfl rfl (dep_at haf (by kernel_rfl))).trans rfl
          refine .inl ⟨wanted_on (g := 10) (b := false) (d := 41) (by rfl) (by rfl) (by rfl) (by rw [hI.size]; exact of_decide_eq_true (by kernel_rfl)) eg, ?_⟩
          clear eg
          have e1 : a.tmps.getD 42 undef = dvV d (.slice pf d.fs.length cf) (.slice pq d.rq.length cq) := (hI.val 11 _ 42 rfl rfl (dep_at haf (by kernel_rfl))).trans rfl
          have x12 := getD_false hxi
          go_simp
          refine (lo.out z hW.low).mono ?_
          rintro e z' ⟨ov, rfl, hov, hb⟩
          refine ⟨_, rfl, ⟨γ.v1, ov⟩, rfl, fun j hj => plV_2 ?_, ⟨hW.low.trans (hb.mono hW.low.size), ?_, fun _ _ => hov⟩⟩
          · rintro rfl; have hj := getD_qS hj; rw [x12] at hj; cases hj
          · rw [getD_set_ne false (by decide)]; exact fun e => (hW.f1 e).below hb
        | 13, _ =>
          obtain rfl := Option.some.inj (show some _ = some op from ho)
          have eg : a.tmps.getD 41 undef = .bool false := (hI.val 10 _ 41 rfl rfl (dep_at haf (by kernel_rfl))).trans rfl
          refine .inl ⟨wanted_on (g := 10) (b := false) (d := 41) (by rfl) (by rfl) (by rfl) (by rw [hI.size]; exact of_decide_eq_true (by kernel_rfl)) eg, ?_⟩
          clear eg
          have e1 : a.tmps.getD 43 undef = dvV d γ.v2 (.slice pq d.rq.length cq) := (hI.val 12 _ 43 rfl rfl (dep_at haf (by kernel_rfl))).trans rfl
          have x12 : x.getD 12 false = true := dep_at haf (by kernel_rfl)
          have hv2 : FldsV z γ.v2 d.fs := hW.f2 x12 rfl
          go_simp
          refine (tk.out _ z hv2).mono ?_
          rintro e z' ⟨rfl, hb⟩
          exact ⟨_, rfl, γ, rfl, fun j _ => rfl, hW.other hb (by decide) (by decide)⟩
        | 14, _ =>
          obtain rfl := Option.some.inj (show some _ = some op from ho)
          have eg : a.tmps.getD 41 undef = .bool false := (hI.val 10 _ 41 rfl rfl (dep_at haf (by kernel_rfl))).trans rfl
          refine .inl ⟨wanted_on (g := 10) (b := false) (d := 41) (by rfl) (by rfl) (by rfl) (by rw [hI.size]; exact of_decide_eq_true (by kernel_rfl)) eg, ?_⟩
          clear eg
          have e1 : a.tmps.getD 5 undef = .int .i64 0 := (hI.was (by kernel_rfl)).trans rfl
          go_simp
          exact ⟨_, rfl, γ, rfl, fun j _ => rfl, hW.other (Below.refl _ _) (by decide) (by decide)⟩
        | 15, _ =>
          obtain rfl := Option.some.inj (show some _ = some op from ho)
          have eg : a.tmps.getD 41 undef = .bool false := (hI.val 10 _ 41 rfl rfl (dep_at haf (by kernel_rfl))).trans rfl
          refine .inl ⟨wanted_on (g := 10) (b := false) (d := 41) (by rfl) (by rfl) (by rfl) (by rw [hI.size]; exact of_decide_eq_true (by kernel_rfl)) eg, ?_⟩
          clear eg
          have e1 : a.tmps.getD 44 undef = .int .i64 0 := (hI.val 13 _ 44 rfl rfl (dep_at haf (by kernel_rfl))).trans rfl
          have e2 : a.tmps.getD 45 undef = .int .i64 0 := (hI.val 14 _ 45 rfl rfl (dep_at haf (by kernel_rfl))).trans rfl
          go_simp
          exact ⟨_, rfl, γ, rfl, fun j _ => rfl, hW.other (Below.refl _ _) (by decide) (by decide)⟩
        | 16, _ =>
          obtain rfl := Option.some.inj (show some _ = some op from ho)
          have eg : a.tmps.getD 37 undef = .bool true := (hI.val 6 _ 37 rfl rfl (dep_at haf (by kernel_rfl))).trans rfl
          refine .inl ⟨wanted_on (g := 6) (b := true) (d := 37) (by rfl) (by rfl) (by rfl) (by rw [hI.size]; exact of_decide_eq_true (by kernel_rfl)) eg, ?_⟩
          clear eg
          have e1 : a.tmps.getD 41 undef = .bool false := (hI.val 10 _ 41 rfl rfl (dep_at haf (by kernel_rfl))).trans rfl
          have e2 : a.tmps.getD 46 undef = .bool true := (hI.val 15 _ 46 rfl rfl (dep_at haf (by kernel_rfl))).trans rfl
          go_simp
          exact ⟨_, rfl, γ, rfl, fun j _ => rfl, hW.other (Below.refl _ _) (by decide) (by decide)⟩
        | 17, _ =>
          obtain rfl := Option.some.inj (show some _ = some op from ho)
          refine .inl ⟨wanted_all rfl, ?_⟩
          have e1 : a.tmps.getD 37 undef = .bool true := (hI.val 6 _ 37 rfl rfl (dep_at haf (by kernel_rfl))).trans rfl
          have e2 : a.tmps.getD 47 undef = .bool true := (hI.val 16 _ 47 rfl rfl (dep_at haf (by kernel_rfl))).trans rfl
          go_simp
          exact ⟨_, rfl, γ, rfl, fun j _ => rfl, hW.other (Below.refl _ _) (by decide) (by decide)⟩
        | 18, _ =>
          obtain rfl := Option.some.inj (show some _ = some op from ho)
          refine .inl ⟨wanted_all rfl, ?_⟩
          have e1 : a.tmps.getD 48 undef = .bool true := (hI.val 17 _ 48 rfl rfl (dep_at haf (by kernel_rfl))).trans rfl
          go_simp
          exact ⟨_, rfl, γ, rfl, fun j _ => rfl, hW.other (Below.refl _ _) (by decide) (by decide)⟩
      · intro γ x a z hx hall hI hW
        have hv : a.tmps.getD 2 undef = .bool true := (hI.val 18 _ 2 rfl rfl (hall 18 (by decide))).trans rfl
        have df := hI.dfr
        have B4 : Hid (Below w.heap.size w z) := B3.out.trans (hW.low.mono B3.out.size)
        clear hI hW hall D3 B3 lo ck rk tk
        obtain ⟨T, ds⟩ := a
        simp only at df hv
        subst df
        go_wp2
        refine bodyPost_ret (results_tmp rfl _ _ _) rfl ?_
        exact ⟨by rw [hv], B4.out⟩
      · exact ⟨(Below.refl _ _).drew, fun h => (by simp at h), fun h => (by simp at h)⟩
    · rw [hS, hn.out hS |>.symm] at tc'
      have n4 := hn4.out hS
      have n4' : (nO : Int) ≤ 4 := by omega
      have tk : Hid (ToC d pq cq (d.sz + (nO : Int))) := tc'
      clear tc' tc hn hn4 hS
      go_upto_region 7 with fail
      refine region_propsG (fun γ i v => v = plV w.heap.size d (.slice pf d.fs.length cf) (.slice pq d.rq.length cq) γ.v1 γ.v2 (d.sz + (nO : Int)) E false i) (PlW y3 d false) ⟨undef, undef⟩ (by kernel_rfl) (by kernel_rfl) ?_ ?_ ?_
      · intro γ x a z i op ho hI haf hx hxi hW
        have hi : i < 19 := (List.getElem?_eq_some_iff.1 ho).1
        match i, hi with
        | 0, _ =>
          obtain rfl := Option.some.inj (show some _ = some op from ho)
          refine .inl ⟨wanted_all rfl, ?_⟩
          have e1 : a.tmps.getD 1 undef = .pointer (some ⟨w.heap.size, 0, none⟩) := (hI.was (by kernel_rfl)).trans rfl
          obtain ⟨l0, l1, l2, l3, l4, l5, l6, l7, l8, l9, l10, l11⟩ := (D3.out.below hW.low).cells
          go_simp
          exact ⟨_, rfl, γ, rfl, fun j _ => rfl, hW.other (Below.refl _ _) (by decide) (by decide)⟩
        | 1, _ =>
          obtain rfl := Option.some.inj (show some _ = some op from ho)
          refine .inl ⟨wanted_all rfl, ?_⟩
          have e1 : a.tmps.getD 31 undef = dvV d (.slice pf d.fs.length cf) (.slice pq d.rq.length cq) := (hI.val 0 _ 31 rfl rfl (dep_at haf (by kernel_rfl))).trans rfl
          have x1 := getD_false hxi
          go_simp
          refine (lo.out z hW.low).mono ?_
          rintro e z' ⟨ov, rfl, hov, hb⟩
          refine ⟨_, rfl, ⟨ov, γ.v2⟩, rfl, fun j hj => plV_1 ?_, ⟨hW.low.trans (hb.mono hW.low.size), fun _ => hov, ?_⟩⟩
          · rintro rfl; have hj := getD_qS hj; rw [x1] at hj; cases hj
          · rw [getD_set_ne false (by decide)]; exact fun e k => (hW.f2 e k).below hb
        | 2, _ =>
          obtain rfl := Option.some.inj (show some _ = some op from ho)
          refine .inl ⟨wanted_all rfl, ?_⟩
          have e1 : a.tmps.getD 32 undef = dvV d γ.v1 (.slice pq d.rq.length cq) := (hI.val 1 _ 32 rfl rfl (dep_at haf (by kernel_rfl))).trans rfl
          have x1 : x.getD 1 false = true := dep_at haf (by kernel_rfl)
          go_simp
          refine (ck.out _ z (hW.f1 x1)).mono ?_
          rintro e z' ⟨rfl, hb⟩
          exact ⟨_, rfl, γ, rfl, fun j _ => rfl, hW.other hb (by decide) (by decide)⟩
        | 3, _ =>
          obtain rfl := Option.some.inj (show some _ = some op from ho)
          refine .inl ⟨wanted_all rfl, ?_⟩
          have e1 : a.tmps.getD 1 undef = .pointer (some ⟨w.heap.size, 0, none⟩) := (hI.was (by kernel_rfl)).trans rfl
          obtain ⟨l0, l1, l2, l3, l4, l5, l6, l7, l8, l9, l10, l11⟩ := (D3.out.below hW.low).cells
          go_simp
          exact ⟨_, rfl, γ, rfl, fun j _ => rfl, hW.other (Below.refl _ _) (by decide) (by decide)⟩
        | 4, _ =>
          obtain rfl := Option.some.inj (show some _ = some op from ho)
          refine .inl ⟨wanted_all rfl, ?_⟩
          have e1 : a.tmps.getD 34 undef = dvV d (.slice pf d.fs.length cf) (.slice pq d.rq.length cq) := (hI.val 3 _ 34 rfl rfl (dep_at haf (by kernel_rfl))).trans rfl
          go_simp
          refine (rk.out z hW.low).mono ?_
          rintro e z' ⟨rfl, hb⟩
          exact ⟨_, rfl, γ, rfl, fun j _ => rfl, hW.other hb (by decide) (by decide)⟩
        | 5, _ =>
          obtain rfl := Option.some.inj (show some _ = some op from ho)
          refine .inl ⟨wanted_all rfl, ?_⟩
          have e1 : a.tmps.getD 33 undef = .int .i64 E := (hI.val 2 _ 33 rfl rfl (dep_at haf (by kernel_rfl))).trans rfl
          have e2 : a.tmps.getD 35 undef = .int .i64 E := (hI.val 4 _ 35 rfl rfl (dep_at haf (by kernel_rfl))).trans rfl
          go_simp
          exact ⟨_, rfl, γ, rfl, fun j _ => rfl, hW.other (Below.refl _ _) (by decide) (by decide)⟩
        | 6, _ =>
          obtain rfl := Option.some.inj (show some _ = some op from ho)
          refine .inl ⟨wanted_all rfl, ?_⟩
          have e1 : a.tmps.getD 36 undef = .bool true := (hI.val 5 _ 36 rfl rfl (dep_at haf (by kernel_rfl))).trans rfl
          go_simp
          exact ⟨_, rfl, γ, rfl, fun j _ => rfl, hW.other (Below.refl _ _) (by decide) (by decide)⟩
        | 7, _ =>
          obtain rfl := Option.some.inj (show some _ = some op from ho)
          have eg : a.tmps.getD 37 undef = .bool true := (hI.val 6 _ 37 rfl rfl (dep_at haf (by kernel_rfl))).trans rfl
          refine .inl ⟨wanted_on (g := 6) (b := true) (d := 37) (by rfl) (by rfl) (by rfl) (by rw [hI.size]; exact of_decide_eq_true (by kernel_rfl)) eg, ?_⟩
          clear eg
          have e1 : a.tmps.getD 1 undef = .pointer (some ⟨w.heap.size, 0, none⟩) := (hI.was (by kernel_rfl)).trans rfl
          go_simp
          exact ⟨_, rfl, γ, rfl, fun j _ => rfl, hW.other (Below.refl _ _) (by decide) (by decide)⟩
        | 8, _ =>
          obtain rfl := Option.some.inj (show some _ = some op from ho)
          have eg : a.tmps.getD 37 undef = .bool true := (hI.val 6 _ 37 rfl rfl (dep_at haf (by kernel_rfl))).trans rfl
          refine .inl ⟨wanted_on (g := 6) (b := true) (d := 37) (by rfl) (by rfl) (by rfl) (by rw [hI.size]; exact of_decide_eq_true (by kernel_rfl)) eg, ?_⟩
          clear eg
          have e1 : a.tmps.getD 38 undef = .pointer (some ⟨w.heap.size, 4, none⟩) := (hI.val 7 _ 38 rfl rfl (dep_at haf (by kernel_rfl))).trans rfl
          have l1 := (D3.out.below hW.low).cells.2.2.2.2.1
          go_simp
          exact ⟨_, rfl, γ, rfl, fun j _ => rfl, hW.other (Below.refl _ _) (by decide) (by decide)⟩
        | 9, _ =>
          obtain rfl := Option.some.inj (show some _ = some op from ho)
          have eg : a.tmps.getD 37 undef = .bool true := (hI.val 6 _ 37 rfl rfl (dep_at haf (by kernel_rfl))).trans rfl
          refine .inl ⟨wanted_on (g := 6) (b := true) (d := 37) (by rfl) (by rfl) (by rfl) (by rw [hI.size]; exact of_decide_eq_true (by kernel_rfl)) eg, ?_⟩
          clear eg
          have e1 : a.tmps.getD 39 undef = .int .i64 d.sz := (hI.val 8 _ 39 rfl rfl (dep_at haf (by kernel_rfl))).trans rfl
          go_simp
          exact ⟨_, rfl, γ, rfl, fun j _ => rfl, hW.other (Below.refl _ _) (by decide) (by decide)⟩
        | 10, _ =>
          obtain rfl := Option.some.inj (show some _ = some op from ho)
          have eg : a.tmps.getD 37 undef = .bool true := (hI.val 6 _ 37 rfl rfl (dep_at haf (by kernel_rfl))).trans rfl
          refine .inl ⟨wanted_on (g := 6) (b := true) (d := 37) (by rfl) (by rfl) (by rfl) (by rw [hI.size]; exact of_decide_eq_true (by kernel_rfl)) eg, ?_⟩
          clear eg
          have e1 : a.tmps.getD 40 undef = .bool false := (hI.val 9 _ 40 rfl rfl (dep_at haf (by kernel_rfl))).trans rfl
          go_simp
          exact ⟨_, rfl, γ, rfl, fun j _ => rfl, hW.other (Below.refl _ _) (by decide) (by decide)⟩
        | 11, _ =>
          obtain rfl := Option.some.inj (show some _ = some op from ho)
          have eg : a.tmps.getD 41 undef = .bool false := (hI.val 10 _ 41 rfl rfl (dep_at haf (by kernel_rfl))).trans rfl
          refine .inl ⟨wanted_on (g := 10) (b := false) (d := 41) (by rfl) (by rfl) (by rfl) (by rw [hI.size]; exact of_decide_eq_true (by kernel_rfl)) eg, ?_⟩
          clear eg
          have e1 : a.tmps.getD 1 undef = .pointer (some ⟨w.heap.size, 0, none⟩) := (hI.was (by kernel_rfl)).trans rfl
          obtain ⟨l0, l1, l2, l3, l4, l5, l6, l7, l8, l9, l10, l11⟩ := (D3.out.below hW.low).cells
          go_simp
          exact ⟨_, rfl, γ, rfl, fun j _ => rfl, hW.other (Below.refl _ _) (by decide) (by decide)⟩
        | 12, _ =>
          obtain rfl := Option.some.inj (show some _ = some op from ho)
          have eg : a.tmps.getD 41 undef = .bool false := (hI.val 10 _ 41 rfl rfl (dep_at haf (by kernel_rfl))).trans rfl
          refine .inl ⟨wanted_on (g := 10) (b := false) (d := 41) (by rfl) (by rfl) (by rfl) (by rw [hI.size]; exact of_decide_eq_true (by kernel_rfl)) eg, ?_⟩
          clear eg
          have e1 : a.tmps.getD 42 undef = dvV d (.slice pf d.fs.length cf) (.slice pq d.rq.length cq) := (hI.val 11 _ 42 rfl rfl (dep_at haf (by kernel_rfl))).trans rfl
          have x12 := getD_false hxi
          go_simp
          refine (lo.out z hW.low).mono ?_
          rintro e z' ⟨ov, rfl, hov, hb⟩
          refine ⟨_, rfl, ⟨γ.v1, ov⟩, rfl, fun j hj => plV_2 ?_, ⟨hW.low.trans (hb.mono hW.low.size), ?_, fun _ _ => hov⟩⟩
          · rintro rfl; have hj := getD_qS hj; rw [x12] at hj; cases hj
          · rw [getD_set_ne false (by decide)]; exact fun e => (hW.f1 e).below hb
        | 13, _ =>
          obtain rfl := Option.some.inj (show some _ = some op from ho)
          have eg : a.tmps.getD 41 undef = .bool false := (hI.val 10 _ 41 rfl rfl (dep_at haf (by kernel_rfl))).trans rfl
          refine .inl ⟨wanted_on (g := 10) (b := false) (d := 41) (by rfl) (by rfl) (by rfl) (by rw [hI.size]; exact of_decide_eq_true (by kernel_rfl)) eg, ?_⟩
          clear eg
          have e1 : a.tmps.getD 43 undef = dvV d γ.v2 (.slice pq d.rq.length cq) := (hI.val 12 _ 43 rfl rfl (dep_at haf (by kernel_rfl))).trans rfl
          have x12 : x.getD 12 false = true := dep_at haf (by kernel_rfl)
          have hv2 : FldsV z γ.v2 d.fs := hW.f2 x12 rfl
          go_simp
          refine (tk.out _ z hv2).mono ?_
          rintro e z' ⟨rfl, hb⟩
          exact ⟨_, rfl, γ, rfl, fun j _ => rfl, hW.other hb (by decide) (by decide)⟩
        | 14, _ =>
          obtain rfl := Option.some.inj (show some _ = some op from ho)
          have eg : a.tmps.getD 41 undef = .bool false := (hI.val 10 _ 41 rfl rfl (dep_at haf (by kernel_rfl))).trans rfl
          refine .inl ⟨wanted_on (g := 10) (b := false) (d := 41) (by rfl) (by rfl) (by rfl) (by rw [hI.size]; exact of_decide_eq_true (by kernel_rfl)) eg, ?_⟩
          clear eg
          have e1 : a.tmps.getD 5 undef = .int .i64 (d.sz + (nO : Int)) := (hI.was (by kernel_rfl)).trans rfl
          go_simp
          exact ⟨_, rfl, γ, rfl, fun j _ => rfl, hW.other (Below.refl _ _) (by decide) (by decide)⟩
        | 15, _ =>
          obtain rfl := Option.some.inj (show some _ = some op from ho)
          have eg : a.tmps.getD 41 undef = .bool false := (hI.val 10 _ 41 rfl rfl (dep_at haf (by kernel_rfl))).trans rfl
          refine .inl ⟨wanted_on (g := 10) (b := false) (d := 41) (by rfl) (by rfl) (by rfl) (by rw [hI.size]; exact of_decide_eq_true (by kernel_rfl)) eg, ?_⟩
          clear eg
          have e1 : a.tmps.getD 44 undef = .int .i64 (d.sz + (nO : Int)) := (hI.val 13 _ 44 rfl rfl (dep_at haf (by kernel_rfl))).trans rfl
          have e2 : a.tmps.getD 45 undef = .int .i64 (d.sz + (nO : Int)) := (hI.val 14 _ 45 rfl rfl (dep_at haf (by kernel_rfl))).trans rfl
          go_simp
          exact ⟨_, rfl, γ, rfl, fun j _ => rfl, hW.other (Below.refl _ _) (by decide) (by decide)⟩
        | 16, _ =>
          obtain rfl := Option.some.inj (show some _ = some op from ho)
          have eg : a.tmps.getD 37 undef = .bool true := (hI.val 6 _ 37 rfl rfl (dep_at haf (by kernel_rfl))).trans rfl
          refine .inl ⟨wanted_on (g := 6) (b := true) (d := 37) (by rfl) (by rfl) (by rfl) (by rw [hI.size]; exact of_decide_eq_true (by kernel_rfl)) eg, ?_⟩
          clear eg
          have e1 : a.tmps.getD 41 undef = .bool false := (hI.val 10 _ 41 rfl rfl (dep_at haf (by kernel_rfl))).trans rfl
          have e2 : a.tmps.getD 46 undef = .bool true := (hI.val 15 _ 46 rfl rfl (dep_at haf (by kernel_rfl))).trans rfl
          go_simp
          exact ⟨_, rfl, γ, rfl, fun j _ => rfl, hW.other (Below.refl _ _) (by decide) (by decide)⟩
        | 17, _ =>
          obtain rfl := Option.some.inj (show some _ = some op from ho)
          refine .inl ⟨wanted_all rfl, ?_⟩
          have e1 : a.tmps.getD 37 undef = .bool true := (hI.val 6 _ 37 rfl rfl (dep_at haf (by kernel_rfl))).trans rfl
          have e2 : a.tmps.getD 47 undef = .bool true := (hI.val 16 _ 47 rfl rfl (dep_at haf (by kernel_rfl))).trans rfl
          go_simp
          exact ⟨_, rfl, γ, rfl, fun j _ => rfl, hW.other (Below.refl _ _) (by decide) (by decide)⟩
        | 18, _ =>
          obtain rfl := Option.some.inj (show some _ = some op from ho)
          refine .inl ⟨wanted_all rfl, ?_⟩
          have e1 : a.tmps.getD 48 undef = .bool true := (hI.val 17 _ 48 rfl rfl (dep_at haf (by kernel_rfl))).trans rfl
          go_simp
          exact ⟨_, rfl, γ, rfl, fun j _ => rfl, hW.other (Below.refl _ _) (by decide) (by decide)⟩
      · intro γ x a z hx hall hI hW
        have hv : a.tmps.getD 2 undef = .bool true := (hI.val 18 _ 2 rfl rfl (hall 18 (by decide))).trans rfl
        have df := hI.dfr
        have B4 : Hid (Below w.heap.size w z) := B3.out.trans (hW.low.mono B3.out.size)
        clear hI hW hall D3 B3 lo ck rk tk
        obtain ⟨T, ds⟩ := a
        simp only at df hv
        subst df
        go_wp2
        refine bodyPost_ret (results_tmp rfl _ _ _) rfl ?_
        exact ⟨by rw [hv], B4.out⟩
      · exact ⟨(Below.refl _ _).drew, fun h => (by simp at h), fun h => (by simp at h)⟩
  · have g9 : decide (1000000 ≤ d.sz) = true := decide_eq_true (by omega)
    clear tc
    cases hS : isSum (txt d.sm)
    · clear hn hn4 hS
      go_upto_region 7 with fail
      refine region_propsG (fun γ i v => v = plV w.heap.size d (.slice pf d.fs.length cf) (.slice pq d.rq.length cq) γ.v1 γ.v2 0 E true i) (PlW y3 d true) ⟨undef, undef⟩ (by kernel_rfl) (by kernel_rfl) ?_ ?_ ?_
      · intro γ x a z i op ho hI haf hx hxi hW
        have hi : i < 19 := (List.getElem?_eq_some_iff.1 ho).1
        match i, hi with
        | 0, _ =>
          obtain rfl := Option.some.inj (show some _ = some op from ho)
          refine .inl ⟨wanted_all rfl, ?_⟩
          have e1 : a.tmps.getD 1 undef = .pointer (some ⟨w.heap.size, 0, none⟩) := (hI.was (by kernel_rfl)).trans rfl
          obtain ⟨l0, l1, l2, l3, l4, l5, l6, l7, l8, l9, l10, l11⟩ := (D3.out.below hW.low).cells
          go_simp
          exact ⟨_, rfl, γ, rfl, fun j _ => rfl, hW.other (Below.refl _ _) (by decide) (by decide)⟩
        | 1, _ =>
          obtain rfl := Option.some.inj (show some _ = some op from ho)
          refine .inl ⟨wanted_all rfl, ?_⟩
          have e1 : a.tmps.getD 31 undef = dvV d (.slice pf d.fs.length cf) (.slice pq d.rq.length cq) := (hI.val 0 _ 31 rfl rfl (dep_at haf (by kernel_rfl))).trans rfl
          have x1 := getD_false hxi
          go_simp
          refine (lo.out z hW.low).mono ?_
          rintro e z' ⟨ov, rfl, hov, hb⟩
          refine ⟨_, rfl, ⟨ov, γ.v2⟩, rfl, fun j hj => plV_1 ?_, ⟨hW.low.trans (hb.mono hW.low.size), fun _ => hov, ?_⟩⟩
          · rintro rfl; have hj := getD_qS hj; rw [x1] at hj; cases hj
          · rw [getD_set_ne false (by decide)]; exact fun e k => (hW.f2 e k).below hb
        | 2, _ =>
          obtain rfl := Option.some.inj (show some _ = some op from ho)
          refine .inl ⟨wanted_all rfl, ?_⟩
          have e1 : a.tmps.getD 32 undef = dvV d γ.v1 (.slice pq d.rq.length cq) := (hI.val 1 _ 32 rfl rfl (dep_at haf (by kernel_rfl))).trans rfl
          have x1 : x.getD 1 false = true := dep_at haf (by kernel_rfl)
          go_simp
          refine (ck.out _ z (hW.f1 x1)).mono ?_
          rintro e z' ⟨rfl, hb⟩
          exact ⟨_, rfl, γ, rfl, fun j _ => rfl, hW.other hb (by decide) (by decide)⟩
        | 3, _ =>
          obtain rfl := Option.some.inj (show some _ = some op from ho)
          refine .inl ⟨wanted_all rfl, ?_⟩
          have e1 : a.tmps.getD 1 undef = .pointer (some ⟨w.heap.size, 0, none⟩) := (hI.was (by kernel_rfl)).trans rfl
          obtain ⟨l0, l1, l2, l3, l4, l5, l6, l7, l8, l9, l10, l11⟩ := (D3.out.below hW.low).cells
          go_simp
          exact ⟨_, rfl, γ, rfl, fun j _ => rfl, hW.other (Below.refl _ _) (by decide) (by decide)⟩
        | 4, _ =>
          obtain rfl := Option.some.inj (show some _ = some op from ho)
          refine .inl ⟨wanted_all rfl, ?_⟩
          have e1 : a.tmps.getD 34 undef = dvV d (.slice pf d.fs.length cf) (.slice pq d.rq.length cq) := (hI.val 3 _ 34 rfl rfl (dep_at haf (by kernel_rfl))).trans rfl
          go_simp
          refine (rk.out z hW.low).mono ?_
          rintro e z' ⟨rfl, hb⟩
          exact ⟨_, rfl, γ, rfl, fun j _ => rfl, hW.other hb (by decide) (by decide)⟩
        | 5, _ =>
          obtain rfl := Option.some.inj (show some _ = some op from ho)
          refine .inl ⟨wanted_all rfl, ?_⟩
          have e1 : a.tmps.getD 33 undef = .int .i64 E := (hI.val 2 _ 33 rfl rfl (dep_at haf (by kernel_rfl))).trans rfl
          have e2 : a.tmps.getD 35 undef = .int .i64 E := (hI.val 4 _ 35 rfl rfl (dep_at haf (by kernel_rfl))).trans rfl
          go_simp
          exact ⟨_, rfl, γ, rfl, fun j _ => rfl, hW.other (Below.refl _ _) (by decide) (by decide)⟩
        | 6, _ =>
          obtain rfl := Option.some.inj (show some _ = some op from ho)
          refine .inl ⟨wanted_all rfl, ?_⟩
          have e1 : a.tmps.getD 36 undef = .bool true := (hI.val 5 _ 36 rfl rfl (dep_at haf (by kernel_rfl))).trans rfl
          go_simp
          exact ⟨_, rfl, γ, rfl, fun j _ => rfl, hW.other (Below.refl _ _) (by decide) (by decide)⟩
        | 7, _ =>
          obtain rfl := Option.some.inj (show some _ = some op from ho)
          have eg : a.tmps.getD 37 undef = .bool true := (hI.val 6 _ 37 rfl rfl (dep_at haf (by kernel_rfl))).trans rfl
          refine .inl ⟨wanted_on (g := 6) (b := true) (d := 37) (by rfl) (by rfl) (by rfl) (by rw [hI.size]; exact of_decide_eq_true (by kernel_rfl)) eg, ?_⟩
          clear eg
          have e1 : a.tmps.getD 1 undef = .pointer (some ⟨w.heap.size, 0, none⟩) := (hI.was (by kernel_rfl)).trans rfl
          go_simp
          exact ⟨_, rfl, γ, rfl, fun j _ => rfl, hW.other (Below.refl _ _) (by decide) (by decide)⟩
        | 8, _ =>
          obtain rfl := Option.some.inj (show some _ = some op from ho)
          have eg : a.tmps.getD 37 undef = .bool true := (hI.val 6 _ 37 rfl rfl (dep_at haf (by kernel_rfl))).trans rfl
          refine .inl ⟨wanted_on (g := 6) (b := true) (d := 37) (by rfl) (by rfl) (by rfl) (by rw [hI.size]; exact of_decide_eq_true (by kernel_rfl)) eg, ?_⟩
          clear eg
          have e1 : a.tmps.getD 38 undef = .pointer (some ⟨w.heap.size, 4, none⟩) := (hI.val 7 _ 38 rfl rfl (dep_at haf (by kernel_rfl))).trans rfl
          have l1 := (D3.out.below hW.low).cells.2.2.2.2.1
          go_simp
          exact ⟨_, rfl, γ, rfl, fun j _ => rfl, hW.other (Below.refl _ _) (by decide) (by decide)⟩
        | 9, _ =>
          obtain rfl := Option.some.inj (show some _ = some op from ho)
          have eg : a.tmps.getD 37 undef = .bool true := (hI.val 6 _ 37 rfl rfl (dep_at haf (by kernel_rfl))).trans rfl
          refine .inl ⟨wanted_on (g := 6) (b := true) (d := 37) (by rfl) (by rfl) (by rfl) (by rw [hI.size]; exact of_decide_eq_true (by kernel_rfl)) eg, ?_⟩
          clear eg
          have e1 : a.tmps.getD 39 undef = .int .i64 d.sz := (hI.val 8 _ 39 rfl rfl (dep_at haf (by kernel_rfl))).trans rfl
          go_simp
          exact ⟨_, rfl, γ, rfl, fun j _ => rfl, hW.other (Below.refl _ _) (by decide) (by decide)⟩
        | 10, _ =>
          obtain rfl := Option.some.inj (show some _ = some op from ho)
          have eg : a.tmps.getD 37 undef = .bool true := (hI.val 6 _ 37 rfl rfl (dep_at haf (by kernel_rfl))).trans rfl
          refine .inl ⟨wanted_on (g := 6) (b := true) (d := 37) (by rfl) (by rfl) (by rfl) (by rw [hI.size]; exact of_decide_eq_true (by kernel_rfl)) eg, ?_⟩
          clear eg
          have e1 : a.tmps.getD 40 undef = .bool true := (hI.val 9 _ 40 rfl rfl (dep_at haf (by kernel_rfl))).trans rfl
          go_simp
          exact ⟨_, rfl, γ, rfl, fun j _ => rfl, hW.other (Below.refl _ _) (by decide) (by decide)⟩
        | 11, _ =>
          obtain rfl := Option.some.inj (show some _ = some op from ho)
          have eg : a.tmps.getD 41 undef = .bool true := (hI.val 10 _ 41 rfl rfl (dep_at haf (by kernel_rfl))).trans rfl
          refine .inr ⟨wanted_off (g := 10) (b := false) (d := 41) (by rfl) (by rfl) (by rfl) (by rw [hI.size]; exact of_decide_eq_true (by kernel_rfl)) eg, fun d hd => ?_, hW.other (Below.refl _ _) (by decide) (by decide)⟩
          first | rfl | (cases hd; rfl)
        | 12, _ =>
          obtain rfl := Option.some.inj (show some _ = some op from ho)
          have eg : a.tmps.getD 41 undef = .bool true := (hI.val 10 _ 41 rfl rfl (dep_at haf (by kernel_rfl))).trans rfl
          refine .inr ⟨wanted_off (g := 10) (b := false) (d := 41) (by rfl) (by rfl) (by rfl) (by rw [hI.size]; exact of_decide_eq_true (by kernel_rfl)) eg, fun d hd => ?_, ?_⟩
          · first | rfl | (cases hd; rfl)
          · refine ⟨hW.low, by rw [getD_set_ne false (by decide)]; exact hW.f1, fun _ k => by cases k⟩
        | 13, _ =>
          obtain rfl := Option.some.inj (show some _ = some op from ho)
          have eg : a.tmps.getD 41 undef = .bool true := (hI.val 10 _ 41 rfl rfl (dep_at haf (by kernel_rfl))).trans rfl
          refine .inr ⟨wanted_off (g := 10) (b := false) (d := 41) (by rfl) (by rfl) (by rfl) (by rw [hI.size]; exact of_decide_eq_true (by kernel_rfl)) eg, fun d hd => ?_, hW.other (Below.refl _ _) (by decide) (by decide)⟩
          first | rfl | (cases hd; rfl)
        | 14, _ =>
          obtain rfl := Option.some.inj (show some _ = some op from ho)
          have eg : a.tmps.getD 41 undef = .bool true := (hI.val 10 _ 41 rfl rfl (dep_at haf (by kernel_rfl))).trans rfl
          refine .inr ⟨wanted_off (g := 10) (b := false) (d := 41) (by rfl) (by rfl) (by rfl) (by rw [hI.size]; exact of_decide_eq_true (by kernel_rfl)) eg, fun d hd => ?_, hW.other (Below.refl _ _) (by decide) (by decide)⟩
          first | rfl | (cases hd; rfl)
        | 15, _ =>
          obtain rfl := Option.some.inj (show some _ = some op from ho)
          have eg : a.tmps.getD 41 undef = .bool true := (hI.val 10 _ 41 rfl rfl (dep_at haf (by kernel_rfl))).trans rfl
          refine .inr ⟨wanted_off (g := 10) (b := false) (d := 41) (by rfl) (by rfl) (by rfl) (by rw [hI.size]; exact of_decide_eq_true (by kernel_rfl)) eg, fun d hd => ?_, hW.other (Below.refl _ _) (by decide) (by decide)⟩
          first | rfl | (cases hd; rfl)
        | 16, _ =>
          obtain rfl := Option.some.inj (show some _ = some op from ho)
          have eg : a.tmps.getD 37 undef = .bool true := (hI.val 6 _ 37 rfl rfl (dep_at haf (by kernel_rfl))).trans rfl
          refine .inl ⟨wanted_on (g := 6) (b := true) (d := 37) (by rfl) (by rfl) (by rfl) (by rw [hI.size]; exact of_decide_eq_true (by kernel_rfl)) eg, ?_⟩
          clear eg
          have e1 : a.tmps.getD 41 undef = .bool true := (hI.val 10 _ 41 rfl rfl (dep_at haf (by kernel_rfl))).trans rfl
          go_simp
          exact ⟨_, rfl, γ, rfl, fun j _ => rfl, hW.other (Below.refl _ _) (by decide) (by decide)⟩
        | 17, _ =>
          obtain rfl := Option.some.inj (show some _ = some op from ho)
          refine .inl ⟨wanted_all rfl, ?_⟩
          have e1 : a.tmps.getD 37 undef = .bool true := (hI.val 6 _ 37 rfl rfl (dep_at haf (by kernel_rfl))).trans rfl
          have e2 : a.tmps.getD 47 undef = .bool true := (hI.val 16 _ 47 rfl rfl (dep_at haf (by kernel_rfl))).trans rfl
          go_simp
          exact ⟨_, rfl, γ, rfl, fun j _ => rfl, hW.other (Below.refl _ _) (by decide) (by decide)⟩
        | 18, _ =>
          obtain rfl := Option.some.inj (show some _ = some op from ho)
          refine .inl ⟨wanted_all rfl, ?_⟩
          have e1 : a.tmps.getD 48 undef = .bool true := (hI.val 17 _ 48 rfl rfl (dep_at haf (by kernel_rfl))).trans rfl
          go_simp
          exact ⟨_, rfl, γ, rfl, fun j _ => rfl, hW.other (Below.refl _ _) (by decide) (by decide)⟩
      · intro γ x a z hx hall hI hW
        have hv : a.tmps.getD 2 undef = .bool true := (hI.val 18 _ 2 rfl rfl (hall 18 (by decide))).trans rfl
        have df := hI.dfr
        have B4 : Hid (Below w.heap.size w z) := B3.out.trans (hW.low.mono B3.out.size)
        clear hI hW hall D3 B3 lo ck rk
        obtain ⟨T, ds⟩ := a
        simp only at df hv
        subst df
        go_wp2
        refine bodyPost_ret (results_tmp rfl _ _ _) rfl ?_
        exact ⟨by rw [hv], B4.out⟩
      · exact ⟨(Below.refl _ _).drew, fun h => (by simp at h), fun h => (by simp at h)⟩
    · clear hn hn4 hS
      go_upto_region 7 with fail
      refine region_propsG (fun γ i v => v = plV w.heap.size d (.slice pf d.fs.length cf) (.slice pq d.rq.length cq) γ.v1 γ.v2 0 E true i) (PlW y3 d true) ⟨undef, undef⟩ (by kernel_rfl) (by kernel_rfl) ?_ ?_ ?_
      · intro γ x a z i op ho hI haf hx hxi hW
        have hi : i < 19 := (List.getElem?_eq_some_iff.1 ho).1
        match i, hi with
        | 0, _ =>
          obtain rfl := Option.some.inj (show some _ = some op from ho)
          refine .inl ⟨wanted_all rfl, ?_⟩
          have e1 : a.tmps.getD 1 undef = .pointer (some ⟨w.heap.size, 0, none⟩) := (hI.was (by kernel_rfl)).trans rfl
          obtain ⟨l0, l1, l2, l3, l4, l5, l6, l7, l8, l9, l10, l11⟩ := (D3.out.below hW.low).cells
          go_simp
          exact ⟨_, rfl, γ, rfl, fun j _ => rfl, hW.other (Below.refl _ _) (by decide) (by decide)⟩
        | 1, _ =>
          obtain rfl := Option.some.inj (show some _ = some op from ho)
          refine .inl ⟨wanted_all rfl, ?_⟩
          have e1 : a.tmps.getD 31 undef = dvV d (.slice pf d.fs.length cf) (.slice pq d.rq.length cq) := (hI.val 0 _ 31 rfl rfl (dep_at haf (by kernel_rfl))).trans rfl
          have x1 := getD_false hxi
          go_simp
          refine (lo.out z hW.low).mono ?_
          rintro e z' ⟨ov, rfl, hov, hb⟩
          refine ⟨_, rfl, ⟨ov, γ.v2⟩, rfl, fun j hj => plV_1 ?_, ⟨hW.low.trans (hb.mono hW.low.size), fun _ => hov, ?_⟩⟩
          · rintro rfl; have hj := getD_qS hj; rw [x1] at hj; cases hj
          · rw [getD_set_ne false (by decide)]; exact fun e k => (hW.f2 e k).below hb
        | 2, _ =>
          obtain rfl := Option.some.inj (show some _ = some op from ho)
          refine .inl ⟨wanted_all rfl, ?_⟩
          have e1 : a.tmps.getD 32 undef = dvV d γ.v1 (.slice pq d.rq.length cq) := (hI.val 1 _ 32 rfl rfl (dep_at haf (by kernel_rfl))).trans rfl
          have x1 : x.getD 1 false = true := dep_at haf (by kernel_rfl)
          go_simp
          refine (ck.out _ z (hW.f1 x1)).mono ?_
          rintro e z' ⟨rfl, hb⟩
          exact ⟨_, rfl, γ, rfl, fun j _ => rfl, hW.other hb (by decide) (by decide)⟩
        | 3, _ =>
          obtain rfl := Option.some.inj (show some _ = some op from ho)
          refine .inl ⟨wanted_all rfl, ?_⟩
          have e1 : a.tmps.getD 1 undef = .pointer (some ⟨w.heap.size, 0, none⟩) := (hI.was (by kernel_rfl)).trans rfl
          obtain ⟨l0, l1, l2, l3, l4, l5, l6, l7, l8, l9, l10, l11⟩ := (D3.out.below hW.low).cells
          go_simp
          exact ⟨_, rfl, γ, rfl, fun j _ => rfl, hW.other (Below.refl _ _) (by decide) (by decide)⟩
        | 4, _ =>
          obtain rfl := Option.some.inj (show some _ = some op from ho)
          refine .inl ⟨wanted_all rfl, ?_⟩
          have e1 : a.tmps.getD 34 undef = dvV d (.slice pf d.fs.length cf) (.slice pq d.rq.length cq) := (hI.val 3 _ 34 rfl rfl (dep_at haf (by kernel_rfl))).trans rfl
          go_simp
          refine (rk.out z hW.low).mono ?_
          rintro e z' ⟨rfl, hb⟩
          exact ⟨_, rfl, γ, rfl, fun j _ => rfl, hW.other hb (by decide) (by decide)⟩
        | 5, _ =>
          obtain rfl := Option.some.inj (show some _ = some op from ho)
          refine .inl ⟨wanted_all rfl, ?_⟩
          have e1 : a.tmps.getD 33 undef = .int .i64 E := (hI.val 2 _ 33 rfl rfl (dep_at haf (by kernel_rfl))).trans rfl
          have e2 : a.tmps.getD 35 undef = .int .i64 E := (hI.val 4 _ 35 rfl rfl (dep_at haf (by kernel_rfl))).trans rfl
          go_simp
          exact ⟨_, rfl, γ, rfl, fun j _ => rfl, hW.other (Below.refl _ _) (by decide) (by decide)⟩
        | 6, _ =>
          obtain rfl := Option.some.inj (show some _ = some op from ho)
          refine .inl ⟨wanted_all rfl, ?_⟩
          have e1 : a.tmps.getD 36 undef = .bool true := (hI.val 5 _ 36 rfl rfl (dep_at haf (by kernel_rfl))).trans rfl
          go_simp
          exact ⟨_, rfl, γ, rfl, fun j _ => rfl, hW.other (Below.refl _ _) (by decide) (by decide)⟩
        | 7, _ =>
          obtain rfl := Option.some.inj (show some _ = some op from ho)
          have eg : a.tmps.getD 37 undef = .bool true := (hI.val 6 _ 37 rfl rfl (dep_at haf (by kernel_rfl))).trans rfl
          refine .inl ⟨wanted_on (g := 6) (b := true) (d := 37) (by rfl) (by rfl) (by rfl) (by rw [hI.size]; exact of_decide_eq_true (by kernel_rfl)) eg, ?_⟩
          clear eg
          have e1 : a.tmps.getD 1 undef = .pointer (some ⟨w.heap.size, 0, none⟩) := (hI.was (by kernel_rfl)).trans rfl
          go_simp
          exact ⟨_, rfl, γ, rfl, fun j _ => rfl, hW.other (Below.refl _ _) (by decide) (by decide)⟩
        | 8, _ =>
          obtain rfl := Option.some.inj (show some _ = some op from ho)
          have eg : a.tmps.getD 37 undef = .bool true := (hI.val 6 _ 37 rfl rfl (dep_at haf (by kernel_rfl))).trans rfl
          refine .inl ⟨wanted_on (g := 6) (b := true) (d := 37) (by rfl) (by rfl) (by rfl) (by rw [hI.size]; exact of_decide_eq_true (by kernel_rfl)) eg, ?_⟩
          clear eg
          have e1 : a.tmps.getD 38 undef = .pointer (some ⟨w.heap.size, 4, none⟩) := (hI.val 7 _ 38 rfl rfl (dep_at haf (by kernel_rfl))).trans rfl
          have l1 := (D3.out.below hW.low).cells.2.2.2.2.1
          go_simp
          exact ⟨_, rfl, γ, rfl, fun j _ => rfl, hW.other (Below.refl _ _) (by decide) (by decide)⟩
        | 9, _ =>
          obtain rfl := Option.some.inj (show some _ = some op from ho)
          have eg : a.tmps.getD 37 undef = .bool true := (hI.val 6 _ 37 rfl rfl (dep_at haf (by kernel_rfl))).trans rfl
          refine .inl ⟨wanted_on (g := 6) (b := true) (d := 37) (by rfl) (by rfl) (by rfl) (by rw [hI.size]; exact of_decide_eq_true (by kernel_rfl)) eg, ?_⟩
          clear eg
          have e1 : a.tmps.getD 39 undef = .int .i64 d.sz := (hI.val 8 _ 39 rfl rfl (dep_at haf (by kernel_rfl))).trans rfl
          go_simp
          exact ⟨_, rfl, γ, rfl, fun j _ => rfl, hW.other (Below.refl _ _) (by decide) (by decide)⟩
        | 10, _ =>
          obtain rfl := Option.some.inj (show some _ = some op from ho)
          have eg : a.tmps.getD 37 undef = .bool true := (hI.val 6 _ 37 rfl rfl (dep_at haf (by kernel_rfl))).trans rfl
          refine .inl ⟨wanted_on (g := 6) (b := true) (d := 37) (by rfl) (by rfl) (by rfl) (by rw [hI.size]; exact of_decide_eq_true (by kernel_rfl)) eg, ?_⟩
          clear eg
          have e1 : a.tmps.getD 40 undef = .bool true := (hI.val 9 _ 40 rfl rfl (dep_at haf (by kernel_rfl))).trans rfl
          go_simp
          exact ⟨_, rfl, γ, rfl, fun j _ => rfl, hW.other (Below.refl _ _) (by decide) (by decide)⟩
        | 11, _ =>
          obtain rfl := Option.some.inj (show some _ = some op from ho)
          have eg : a.tmps.getD 41 undef = .bool true := (hI.val 10 _ 41 rfl rfl (dep_at haf (by kernel_rfl))).trans rfl
          refine .inr ⟨wanted_off (g := 10) (b := false) (d := 41) (by rfl) (by rfl) (by rfl) (by rw [hI.size]; exact of_decide_eq_true (by kernel_rfl)) eg, fun d hd => ?_, hW.other (Below.refl _ _) (by decide) (by decide)⟩
          first | rfl | (cases hd; rfl)
        | 12, _ =>
          obtain rfl := Option.some.inj (show some _ = some op from ho)
          have eg : a.tmps.getD 41 undef = .bool true := (hI.val 10 _ 41 rfl rfl (dep_at haf (by kernel_rfl))).trans rfl
          refine .inr ⟨wanted_off (g := 10) (b := false) (d := 41) (by rfl) (by rfl) (by rfl) (by rw [hI.size]; exact of_decide_eq_true (by kernel_rfl)) eg, fun d hd => ?_, ?_⟩
          · first | rfl | (cases hd; rfl)
          · refine ⟨hW.low, by rw [getD_set_ne false (by decide)]; exact hW.f1, fun _ k => by cases k⟩
        | 13, _ =>
          obtain rfl := Option.some.inj (show some _ = some op from ho)
          have eg : a.tmps.getD 41 undef = .bool true := (hI.val 10 _ 41 rfl rfl (dep_at haf (by kernel_rfl))).trans rfl
          refine .inr ⟨wanted_off (g := 10) (b := false) (d := 41) (by rfl) (by rfl) (by rfl) (by rw [hI.size]; exact of_decide_eq_true (by kernel_rfl)) eg, fun d hd => ?_, hW.other (Below.refl _ _) (by decide) (by decide)⟩
          first | rfl | (cases hd; rfl)
        | 14, _ =>
          obtain rfl := Option.some.inj (show some _ = some op from ho)
          have eg : a.tmps.getD 41 undef = .bool true := (hI.val 10 _ 41 rfl rfl (dep_at haf (by kernel_rfl))).trans rfl
          refine .inr ⟨wanted_off (g := 10) (b := false) (d := 41) (by rfl) (by rfl) (by rfl) (by rw [hI.size]; exact of_decide_eq_true (by kernel_rfl)) eg, fun d hd => ?_, hW.other (Below.refl _ _) (by decide) (by decide)⟩
          first | rfl | (cases hd; rfl)
        | 15, _ =>
          obtain rfl := Option.some.inj (show some _ = some op from ho)
          have eg : a.tmps.getD 41 undef = .bool true := (hI.val 10 _ 41 rfl rfl (dep_at haf (by kernel_rfl))).trans rfl
          refine .inr ⟨wanted_off (g := 10) (b := false) (d := 41) (by rfl) (by rfl) (by rfl) (by rw [hI.size]; exact of_decide_eq_true (by kernel_rfl)) eg, fun d hd => ?_, hW.other (Below.refl _ _) (by decide) (by decide)⟩
          first | rfl | (cases hd; rfl)
        | 16, _ =>
          obtain rfl := Option.some.inj (show some _ = some op from ho)
          have eg : a.tmps.getD 37 undef = .bool true := (hI.val 6 _ 37 rfl rfl (dep_at haf (by kernel_rfl))).trans rfl
          refine .inl ⟨wanted_on (g := 6) (b := true) (d := 37) (by rfl) (by rfl) (by rfl) (by rw [hI.size]; exact of_decide_eq_true (by kernel_rfl)) eg, ?_⟩
          clear eg
          have e1 : a.tmps.getD 41 undef = .bool true := (hI.val 10 _ 41 rfl rfl (dep_at haf (by kernel_rfl))).trans rfl
          go_simp
          exact ⟨_, rfl, γ, rfl, fun j _ => rfl, hW.other (Below.refl _ _) (by decide) (by decide)⟩
        | 17, _ =>
          obtain rfl := Option.some.inj (show some _ = some op from ho)
          refine .inl ⟨wanted_all rfl, ?_⟩
          have e1 : a.tmps.getD 37 undef = .bool true := (hI.val 6 _ 37 rfl rfl (dep_at haf (by kernel_rfl))).trans rfl
          have e2 : a.tmps.getD 47 undef = .bool true := (hI.val 16 _ 47 rfl rfl (dep_at haf (by kernel_rfl))).trans rfl
          go_simp
          exact ⟨_, rfl, γ, rfl, fun j _ => rfl, hW.other (Below.refl _ _) (by decide) (by decide)⟩
        | 18, _ =>
          obtain rfl := Option.some.inj (show some _ = some op from ho)
          refine .inl ⟨wanted_all rfl, ?_⟩
          have e1 : a.tmps.getD 48 undef = .bool true := (hI.val 17 _ 48 rfl rfl (dep_at haf (by kernel_rfl))).trans rfl
          go_simp
          exact ⟨_, rfl, γ, rfl, fun j _ => rfl, hW.other (Below.refl _ _) (by decide) (by decide)⟩
      · intro γ x a z hx hall hI hW
        have hv : a.tmps.getD 2 undef = .bool true := (hI.val 18 _ 2 rfl rfl (hall 18 (by decide))).trans rfl
        have df := hI.dfr
        have B4 : Hid (Below w.heap.size w z) := B3.out.trans (hW.low.mono B3.out.size)
        clear hI hW hall D3 B3 lo ck rk
        obtain ⟨T, ds⟩ := a
        simp only at df hv
        subst df
        go_wp2
        refine bodyPost_ret (results_tmp rfl _ _ _) rfl ?_
        exact ⟨by rw [hv], B4.out⟩
      · exact ⟨(Below.refl _ _).drew, fun h => (by simp at h), fun h => (by simp at h)⟩
end Go.Proofs.Ytllkkgcfhphgmaa
