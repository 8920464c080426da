/-
  Texts that belong together, one behind the other: DsOrd0, DsOrd. Conditions: as each says.
-/
import Derived.Test.YtagkgneijdbkoaaDoorJn1
import Derived.Test.YtagkgneijdbkoaaDoorJn37
/-
  Two neighbouring lines in a slice of lines, turned about in memory (layer 8). No conditions but those that each says.
-/
namespace Go.Proofs.YtagkgneijdbkoaaDoor
open Go.RowKit
set_option linter.unusedVariables false

/-- two neighbours -/
theorem two_at {α : Type} (l : List α) {k : Nat} (h : k + 1 < l.length) : ∃ pre post, l = pre ++ l[k] :: l[k + 1] :: post ∧ pre.length = k :=
  ⟨l.take k, l.drop (k + 2), by rw [← List.drop_eq_getElem_cons h, ← List.drop_eq_getElem_cons (by omega : k < l.length), List.take_append_drop], by rw [List.length_take]; omega⟩
def swapL {α : Type} (l : List α) (k : Nat) (a b : α) : List α := (l.set k b).set (k + 1) a
theorem swapL_len {α : Type} (l : List α) (k : Nat) (a b : α) : (swapL l k a b).length = l.length := by unfold swapL; simp
theorem swapL_eq {α : Type} (pre post : List α) (a b : α) : swapL (pre ++ a :: b :: post) pre.length a b = pre ++ b :: a :: post := by
  unfold swapL
  rw [List.set_append_right _ _ (Nat.le_refl _), Nat.sub_self, List.set_append_right _ _ (by omega), show pre.length + 1 - pre.length = 1 by omega]
  rfl
theorem swapL_mem {α : Type} {l : List α} {k : Nat} {a b : α} (ha : a ∈ l) (hb : b ∈ l) : ∀ r ∈ swapL l k a b, r ∈ l := by
  intro r hr
  unfold swapL at hr
  rcases List.mem_or_eq_of_mem_set hr with hr | rfl
  · rcases List.mem_or_eq_of_mem_set hr with hr | rfl
    · exact hr
    · exact hb
  · exact ha
/-- lines, each with its words' slice -/
theorem rows_rn {L0 : Nat} {w : World} {p : Option Addr} {n cap : Nat} {rs : List Lr} (h : RowsC L0 w (.slice p n cap) rs) (hl : rs.length = n) (hn : 0 < n) :
    ∃ (g o : Nat) (fs : List Rn), p = some ⟨g, o, none⟩ ∧ g < L0 ∧ fs.map (·.1) = rs ∧ (∀ f ∈ fs, WdsAt L0 w f.2 f.1.2) ∧ ∀ j u, (rnC fs)[j]? = some u → w.cell? ((⟨g, o, none⟩ : Addr).add j) = some u := by
  rcases h with ⟨_, rfl⟩ | ⟨g, o, cap', e, h2, h3⟩
  · simp at hl; omega
  · injection e with e1 e2 e3
    have each : ∀ i, i < rs.length → ∃ f : Rn, rs[i]? = some f.1 ∧ w.cell? ⟨g, o + 2 * i, none⟩ = some (.int .i64 f.1.1) ∧ w.cell? ⟨g, o + 2 * i + 1, none⟩ = some f.2 ∧ WdsAt L0 w f.2 f.1.2 := by
      intro i hi
      obtain ⟨q1, u, q2, q3⟩ := h2 i hi
      exact ⟨(rs[i], u), List.getElem?_eq_getElem hi, q1, q2, q3⟩
    obtain ⟨F, hF⟩ := choose_lt' each
    have len : ((List.range rs.length).map F).length = rs.length := by simp
    refine ⟨g, o, (List.range rs.length).map F, e1, h3, ?_, ?_, ?_⟩
    · refine List.ext_getElem? fun i => ?_
      rw [List.getElem?_map, List.getElem?_map]
      by_cases hi : i < rs.length
      · rw [List.getElem?_range hi, (hF i hi).1]; rfl
      · rw [List.getElem?_eq_none (by simp; omega), List.getElem?_eq_none (by omega)]; rfl
    · intro f hf
      obtain ⟨i, hi, rfl⟩ := List.mem_map.1 hf
      exact (hF i (List.mem_range.1 hi)).2.2.2
    · intro j u hu
      have hj : j < rs.length * 2 := by have := (List.getElem?_eq_some_iff.1 hu).1; rw [rnC_len, len] at this; exact this
      have hq : j / 2 < ((List.range rs.length).map F).length := by rw [len]; omega
      obtain ⟨c1, c2⟩ := rnC_get hq
      have eF : ((List.range rs.length).map F)[j / 2] = F (j / 2) := by simp
      rw [eF] at c1 c2
      obtain ⟨_, k1, k2, _⟩ := hF (j / 2) (by omega)
      rw [addr_add]
      rcases (by omega : j = 2 * (j / 2) ∨ j = 2 * (j / 2) + 1) with hj2 | hj2
      · rw [← hj2, hu] at c1
        rw [show o + j = o + 2 * (j / 2) by omega, k1, ← Option.some.inj c1]
      · rw [← hj2, hu] at c2
        rw [show o + j = o + 2 * (j / 2) + 1 by omega, k2, ← Option.some.inj c2]
theorem one_rn {L0 : Nat} {w : World} {fs : List Rn} (h : ∀ f ∈ fs, WdsAt L0 w f.2 f.1.2) : ∀ u ∈ rnC fs, u.oneCell' = true := by
  intro u hu
  unfold rnC at hu
  obtain ⟨f, hf, hu⟩ := List.mem_flatMap.1 hu
  simp only [List.mem_cons, List.not_mem_nil, or_false] at hu
  rcases hu with rfl | rfl
  · rfl
  · obtain ⟨p, c, e⟩ := (h f hf).form
    rw [e]; rfl
/-- two cells twice: lines i and j of a row -/
def sw2 (z : World) (g i : Nat) (L : Int) (u : Value) : World := (z.setCell ⟨g, i * 2, none⟩ (.int .i64 L)).setCell ⟨g, i * 2 + 1, none⟩ u
theorem sw2_off {z : World} {g i : Nat} {L : Int} {u : Value} {a : Addr} (h1 : a ≠ ⟨g, i * 2, none⟩) (h2 : a ≠ ⟨g, i * 2 + 1, none⟩) : (sw2 z g i L u).cell? a = z.cell? a := by
  unfold sw2
  rw [World.cell?_setCell_other _ _ _ _ (Ne.symm h2), World.cell?_setCell_other _ _ _ _ (Ne.symm h1)]
theorem sw2_at {z : World} {g i : Nat} {L : Int} {u v0 v1 : Value} (c0 : z.cell? ⟨g, i * 2, none⟩ = some v0) (c1 : z.cell? ⟨g, i * 2 + 1, none⟩ = some v1) : (sw2 z g i L u).cell? ⟨g, i * 2, none⟩ = some (.int .i64 L) ∧ (sw2 z g i L u).cell? ⟨g, i * 2 + 1, none⟩ = some u := by
  have ne : (⟨g, i * 2, none⟩ : Addr) ≠ ⟨g, i * 2 + 1, none⟩ := fun e => by injection e with _ e; omega
  constructor
  · unfold sw2
    rw [World.cell?_setCell_other _ _ _ _ (Ne.symm ne), World.cell?_setCell_same _ _ _ c0]
  · unfold sw2
    exact World.cell?_setCell_same _ _ _ (by rw [World.cell?_setCell_other _ _ _ _ ne]; exact c1)
theorem sw2_in {z : World} {g i : Nat} {L : Int} {v1 : Value} (c1 : z.cell? ⟨g, i * 2 + 1, none⟩ = some v1) : (z.setCell ⟨g, i * 2, none⟩ (.int .i64 L)).cell? ⟨g, i * 2 + 1, none⟩ = some v1 :=
  (World.cell?_setCell_other _ _ _ _ (fun e => by injection e with _ e; omega)).trans c1
theorem sw2_size (z : World) (g i : Nat) (L : Int) (u : Value) : (sw2 z g i L u).heap.size = z.heap.size := by unfold sw2; simp
theorem sw2_frozen (z : World) (g i : Nat) (L : Int) (u : Value) (a : Addr) : (sw2 z g i L u).frozen? a = z.frozen? a := by unfold sw2; simp
theorem sw2_below {b : Nat} {w z : World} (h : Below b w z) {g i : Nat} (hg : b ≤ g) (L : Int) (u : Value) : Below b w (sw2 z g i L u) := (h.setCell (p := ⟨g, i * 2, none⟩) hg _).setCell (p := ⟨g, i * 2 + 1, none⟩) hg _
/-- the row behind both stores -/
theorem sw_rows {y : World} {base g cap n k : Nat} {fs : List Rn} {rs : List Lr} (own : y.ownsRow base 46 2 (.slice (some ⟨g, 0, none⟩) n cap) n (rnC fs)) (hm : fs.map (·.1) = rs) (hl : fs.length = n) (hw : ∀ f ∈ fs, WdsAt base y f.2 f.1.2) (hbg : base ≤ g) (hk : k + 1 < n) :
    RowsC y.heap.size (sw2 (sw2 y g k (fs[k + 1]'(by omega)).1.1 (fs[k + 1]'(by omega)).2) g (k + 1) (fs[k]'(by omega)).1.1 (fs[k]'(by omega)).2) (.slice (some ⟨g, 0, none⟩) n cap) (swapL rs k (fs[k]'(by omega)).1 (fs[k + 1]'(by omega)).1) := by
  have hg : g < y.heap.size := by
    rcases own_slice own with ⟨e, _⟩ | ⟨g', cap', e, _, h⟩
    · cases e
    · injection e with e _ _
      injection e with e
      injection e with e _ _
      omega
  have hlr : rs.length = n := by rw [← hm, List.length_map]; exact hl
  have cc : ∀ j (h : j < fs.length), y.cell? ⟨g, j * 2, none⟩ = some (.int .i64 fs[j].1.1) ∧ y.cell? ⟨g, j * 2 + 1, none⟩ = some fs[j].2 := by
    intro j h
    obtain ⟨c1, c2⟩ := rnC_get h
    rw [Nat.mul_comm 2 j] at c1 c2
    exact ⟨(World.ownsRow.cellAt own _ (by omega)).trans c1, (World.ownsRow.cellAt own _ (by omega)).trans c2⟩
  have low : Below base y (sw2 (sw2 y g k (fs[k + 1]'(by omega)).1.1 (fs[k + 1]'(by omega)).2) g (k + 1) (fs[k]'(by omega)).1.1 (fs[k]'(by omega)).2) := sw2_below (sw2_below (Below.refl base y) hbg _ _) hbg _ _
  refine .inr ⟨g, 0, cap, by rw [swapL_len, hlr], fun j hj => ?_, hg⟩
  rw [swapL_len, hlr] at hj
  rw [Nat.zero_add, Nat.mul_comm 2 j]
  have hjf : j < fs.length := by omega
  have n00 : ∀ {i j : Nat}, i ≠ j → (⟨g, i * 2, none⟩ : Addr) ≠ ⟨g, j * 2, none⟩ := fun hij e => by injection e with _ e; omega
  have n01 : ∀ {i j : Nat}, (⟨g, i * 2, none⟩ : Addr) ≠ ⟨g, j * 2 + 1, none⟩ := fun e => by injection e with _ e; omega
  have n10 : ∀ {i j : Nat}, (⟨g, i * 2 + 1, none⟩ : Addr) ≠ ⟨g, j * 2, none⟩ := fun e => by injection e with _ e; omega
  have n11 : ∀ {i j : Nat}, i ≠ j → (⟨g, i * 2 + 1, none⟩ : Addr) ≠ ⟨g, j * 2 + 1, none⟩ := fun hij e => by injection e with _ e; omega
  have gs : ∀ f : Rn, f ∈ fs → WdsAt y.heap.size (sw2 (sw2 y g k (fs[k + 1]'(by omega)).1.1 (fs[k + 1]'(by omega)).2) g (k + 1) (fs[k]'(by omega)).1.1 (fs[k]'(by omega)).2) f.2 f.1.2 := fun f hf => ((hw f hf).below low).up (by omega)
  have rj : rs[j]'(by omega) = fs[j].1 := by
    have : (fs.map (·.1))[j]'(by rw [List.length_map]; omega) = fs[j].1 := by simp
    simpa [hm] using this
  by_cases h1 : j = k + 1
  · subst h1
    have e : (swapL rs k (fs[k]'(by omega)).1 (fs[k + 1]'(by omega)).1)[k + 1]'(by rw [swapL_len]; omega) = (fs[k]'(by omega)).1 := by unfold swapL; simp
    rw [e]
    obtain ⟨d0, d1⟩ := cc (k + 1) (by omega)
    have e0 := sw2_off (z := y) (g := g) (i := k) (L := (fs[k + 1]'(by omega)).1.1) (u := (fs[k + 1]'(by omega)).2) (a := ⟨g, (k + 1) * 2, none⟩) (n00 (by omega)) n01
    have e1 := sw2_off (z := y) (g := g) (i := k) (L := (fs[k + 1]'(by omega)).1.1) (u := (fs[k + 1]'(by omega)).2) (a := ⟨g, (k + 1) * 2 + 1, none⟩) n10 (n11 (by omega))
    obtain ⟨a0, a1⟩ := sw2_at (L := (fs[k]'(by omega)).1.1) (u := (fs[k]'(by omega)).2) (e0.trans d0) (e1.trans d1)
    exact ⟨a0, _, a1, gs _ (List.getElem_mem (by omega))⟩
  · by_cases h2 : j = k
    · subst h2
      have e : (swapL rs j (fs[j]'(by omega)).1 (fs[j + 1]'(by omega)).1)[j]'(by rw [swapL_len]; omega) = (fs[j + 1]'(by omega)).1 := by
        unfold swapL; rw [List.getElem_set_ne (by omega)]; simp
      rw [e]
      obtain ⟨d0, d1⟩ := cc j (by omega)
      obtain ⟨a0, a1⟩ := sw2_at (L := (fs[j + 1]'(by omega)).1.1) (u := (fs[j + 1]'(by omega)).2) d0 d1
      refine ⟨?_, _, ?_, gs _ (List.getElem_mem (by omega))⟩
      · rw [sw2_off (n00 (by omega)) n01]; exact a0
      · rw [sw2_off n10 (n11 (by omega))]; exact a1
    · have e : (swapL rs k (fs[k]'(by omega)).1 (fs[k + 1]'(by omega)).1)[j]'(by rw [swapL_len]; omega) = fs[j].1 := by
        unfold swapL; rw [List.getElem_set_ne (by omega), List.getElem_set_ne (by omega)]; exact rj
      rw [e]
      obtain ⟨d0, d1⟩ := cc j (by omega)
      refine ⟨?_, _, ?_, gs _ (List.getElem_mem (by omega))⟩
      · rw [sw2_off (n00 (by omega)) n01, sw2_off (n00 (by omega)) n01]; exact d0
      · rw [sw2_off n10 (n11 (by omega)), sw2_off n10 (n11 (by omega))]; exact d1
/-- what the operations of the region that turns about yield -/
def swV (g cap n k : Nat) (p q : Rn) (i : Nat) : Value :=
  (#[.slice (some ⟨g, 0, none⟩) n cap, .int .i64 (k : Int), .slice (some ⟨g, 0, none⟩) n cap, .int .i64 (k : Int), .int .i64 ((k : Int) + 1), .slice (some ⟨g, 0, none⟩) n cap, .int .i64 (k : Int), .int .i64 ((k : Int) + 1), .pointer (some ⟨g, (k + 1) * 2, none⟩), .agg #[.int .i64 q.1.1, q.2],
    .slice (some ⟨g, 0, none⟩) n cap, .int .i64 (k : Int), .pointer (some ⟨g, k * 2, none⟩), .agg #[.int .i64 p.1.1, p.2], .pointer (some ⟨g, k * 2, none⟩), undef, .pointer (some ⟨g, (k + 1) * 2, none⟩), undef] : Array Value).getD i undef
def SwP (g cap n k : Nat) (p q : Rn) (i : Nat) (v : Value) : Prop := v = swV g cap n k p q i
structure SwW (y : World) (g k k1 : Nat) (p q : Rn) (x : Array Bool) (z : World) : Prop where
  a : x.getD 15 false = false → z = y.drew
  b : x.getD 15 false = true → x.getD 17 false = false → z = (sw2 y g k q.1.1 q.2).drew
  c : x.getD 17 false = true → z = (sw2 (sw2 y g k q.1.1 q.2) g k1 p.1.1 p.2).drew
  d : x.getD 15 false = true → x.getD 9 false = true ∧ x.getD 13 false = true
  e : x.getD 17 false = true → x.getD 15 false = true
theorem getD_set_tr {x : Array Bool} {i j : Nat} (h : x.getD j false = true) : (x.setIfInBounds i true).getD j false = true := by
  by_cases e : i = j
  · subst e
    refine getD_set_at ?_
    rw [Array.getD_eq_getD_getElem?] at h
    cases hx : x[i]? with
    | none => rw [hx] at h; cases h
    | some b => exact (Array.getElem?_eq_some_iff.1 hx).1
  · rw [getD_set_ne false e]; exact h
theorem SwW.other {y : World} {g k k1 : Nat} {p q : Rn} {x : Array Bool} {z : World} (h : SwW y g k k1 p q x z) {i : Nat} (h15 : i ≠ 15) (h17 : i ≠ 17) : SwW y g k k1 p q (x.setIfInBounds i true) z := by
  refine ⟨?_, ?_, ?_, ?_, ?_⟩
  · rw [getD_set_ne false h15]; exact h.a
  · rw [getD_set_ne false h15, getD_set_ne false h17]; exact h.b
  · rw [getD_set_ne false h17]; exact h.c
  · rw [getD_set_ne false h15]; exact fun e => ⟨getD_set_tr (h.d e).1, getD_set_tr (h.d e).2⟩
  · rw [getD_set_ne false h17, getD_set_ne false h15]; exact h.e
/-- a load ahead of the stores -/
theorem SwW.pre {y : World} {g k k1 : Nat} {p q : Rn} {x : Array Bool} {z : World} (h : SwW y g k k1 p q x z) (hx : x.getD 9 false = false ∨ x.getD 13 false = false) : z = y.drew := by
  refine h.a ?_
  cases h15 : x.getD 15 false with
  | false => rfl
  | true =>
    obtain ⟨e1, e2⟩ := h.d h15
    rcases hx with hx | hx
    · rw [e1] at hx; cases hx
    · rw [e2] at hx; cases hx
theorem SwW.one {y : World} {g k k1 : Nat} {p q : Rn} {x : Array Bool} {z : World} (h : SwW y g k k1 p q x z) (hx : x.getD 15 false = false) (h9 : x.getD 9 false = true) (h13 : x.getD 13 false = true) (hs : 15 < x.size) : z = y.drew ∧ SwW y g k k1 p q (x.setIfInBounds 15 true) (sw2 y g k q.1.1 q.2).drew := by
  have h17 : x.getD 17 false = false := by
    cases e : x.getD 17 false with
    | false => rfl
    | true => rw [h.e e] at hx; cases hx
  refine ⟨h.a hx, ?_, ?_, ?_, ?_, ?_⟩
  · rw [getD_set_at hs]; intro e; cases e
  · exact fun _ _ => rfl
  · rw [getD_set_ne false (by decide), h17]; intro e; cases e
  · exact fun _ => ⟨getD_set_tr h9, getD_set_tr h13⟩
  · rw [getD_set_ne false (by decide), h17]; intro e; cases e
theorem SwW.two {y : World} {g k k1 : Nat} {p q : Rn} {x : Array Bool} {z : World} (h : SwW y g k k1 p q x z) (hx : x.getD 15 false = true) (h17 : x.getD 17 false = false) (hs : 17 < x.size) : z = (sw2 y g k q.1.1 q.2).drew ∧ SwW y g k k1 p q (x.setIfInBounds 17 true) (sw2 (sw2 y g k q.1.1 q.2) g k1 p.1.1 p.2).drew := by
  refine ⟨h.b hx h17, ?_, ?_, ?_, ?_, ?_⟩
  · rw [getD_set_ne false (by decide), hx]; intro e; cases e
  · rw [getD_set_at hs]; intro _ e; cases e
  · exact fun _ => rfl
  · exact fun _ => ⟨getD_set_tr (h.d hx).1, getD_set_tr (h.d hx).2⟩
  · exact fun _ => getD_set_tr hx
theorem RowsC.drew {L0 : Nat} {x : World} {v : Value} {rs : List Lr} (h : RowsC L0 x v rs) : RowsC L0 x.drew v rs := h
/-- what a first slice of none owns -/
theorem own_none (y : World) : (y.alloc (.cells #[] 46)).ownsRow y.heap.size 46 2 (.slice (some ⟨y.heap.size, 0, none⟩) 0 0) 0 [] :=
  ⟨rfl, .inr ⟨y.heap.size, 0, #[], rfl, Nat.le_refl _, World.alloc_heap_new y _, Nat.le_refl _, Nat.zero_le _, rfl, rfl⟩⟩
theorem info_row8 : (Tryd.prog.info? 46).map (fun i => (i.zero, i.size, i.bytes)) = some (some (.agg #[.int .i64 0, .slice none 0 0]), 2, 32) := by kernel_rfl
/-- what reading makes of the lines the other way round -/
structure SwM (T T2 : Dv × Int × Nat) (p q : Lr) : Prop where
  e : T2.2.2 = 0
  same : ¬ (p.2.headD [] = kFie ∧ q.2.headD [] = kFie) → T2 = T
  np : ¬ p.2 = []
  nq : ¬ q.2 = []
theorem swM {rs : List Lr} {k : Nat} (hk : k + 1 < rs.length) (h : (readM rs).2.2 = 0) : SwM (readM rs) (readM (swapL rs k (rs[k]'(by omega)) rs[k + 1])) (rs[k]'(by omega)) rs[k + 1] := by
  obtain ⟨pre, post, e, hp⟩ := two_at rs hk
  generalize hP : rs[k]'(by omega) = P at *
  generalize hQ : rs[k + 1] = Q at *
  subst hp
  subst e
  have g := go_swap pre (d := dv0) (s := []) (p := P) (q := Q) (rs := post) h
  rw [swapL_eq]
  exact ⟨g.1, g.2, go_words _ h P (by simp), go_words _ h Q (by simp)⟩
def SmD (d2 d : Dv) (p q : Lr) : Prop := ¬ (p.2.headD [] = kFie ∧ q.2.headD [] = kFie) → d2 = d
def SwMC (T T2 : Dv × Int × Nat) (p q : Lr) : Prop := T.2.2 = 0 → SwM T T2 p q
def Rws2 (rs : List Lr) : Prop := ∀ v x, RowsC x.heap.size x v rs → Calls Tryd.prog 14 #[v] x fun e y => ∃ v', e = .returned v' ∧ RowsC y.heap.size y v' rs ∧ Below x.heap.size x y
def DrT (rs : List Lr) (T : Dv × Int × Nat) : Prop := ∀ v x, RowsC x.heap.size x v rs → Calls Tryd.prog 13 #[v] x (ReadQ x T)
def RrT (w : World) (v : Value) (T : Dv × Int × Nat) : Prop := ∀ x, Below w.heap.size w x → Calls Tryd.prog 11 #[v] x (ReadQ x T)
def NwT (z : World) (g o : Nat) (l : List Value) : Prop := ∀ j u, l[j]? = some u → z.cell? ((⟨g, o, none⟩ : Addr).add j) = some u
def OneC (l : List Value) : Prop := ∀ u ∈ l, u.oneCell' = true
def WdW (w : World) (fs : List Rn) : Prop := ∀ f ∈ fs, WdsAt w.heap.size w f.2 f.1.2
/-- the copy -/
structure GrT (y3 : World) (l : List Value) (n g2 cap2 : Nat) (y4 : World) : Prop where
  own : y4.ownsRow y3.heap.size 46 2 (.slice (some ⟨g2, 0, none⟩) n cap2) n l
  b : Below y3.heap.size y3 y4
  lo : y3.heap.size ≤ g2
theorem GrT.of {y3 : World} {l : List Value} {n g2 cap2 : Nat} {y4 : World} (h1 : y4.ownsRow y3.heap.size 46 2 (.slice (some ⟨g2, 0, none⟩) (0 + n) cap2) (0 + n) ([] ++ l)) (h3 : (y3.alloc (.cells #[] 46)).grownBy y4 (some y3.heap.size)) (h4 : some y3.heap.size = some g2 ∨ g2 = y3.heap.size + 1) : GrT y3 l n g2 cap2 y4 := by
  rw [Nat.zero_add, List.nil_append] at h1
  have b3n : Below y3.heap.size y3 (y3.alloc (.cells #[] 46)) := (Below.refl _ _).alloc (Nat.le_refl _) _
  refine ⟨h1, b3n.grown h3 b3n.size (fun j e => by have := Option.some.inj e; omega), ?_⟩
  rcases h4 with h4 | h4
  · have := Option.some.inj h4; omega
  · omega
theorem nwT {w y3 : World} {rs : List Lr} {g o : Nat} {fs : List Rn} (B : Below w.heap.size w y3) (hg : g < w.heap.size) (h : ∀ j u, (rnC fs)[j]? = some u → w.cell? ((⟨g, o, none⟩ : Addr).add j) = some u) : NwT (y3.alloc (.cells #[] 46)) g o (rnC fs) := fun j u hu => by
  have h := h j u hu
  rw [addr_add] at h ⊢
  exact ((B.alloc B.size _).cell (p := ⟨g, o + j, none⟩) hg).trans h
theorem WdsAt.cons2 {L0 : Nat} {x : World} {v : Value} {z : Wd} {ws : List Wd} (h : WdsAt L0 x v (z :: ws)) : ∃ g o cap, v = .slice (some ⟨g, o, none⟩) (ws.length + 1) cap ∧ StrsIn x g o (z :: ws) ∧ g < L0 := by
  obtain ⟨g, o, cap, h1, h2, h3, _⟩ := h.cons
  exact ⟨g, o, cap, h1, h2, h3⟩
/-- line j of the copy -/
theorem GrT.cell {y3 : World} {fs : List Rn} {n g2 cap2 : Nat} {y4 : World} (h : GrT y3 (rnC fs) n g2 cap2 y4) (hl : fs.length = n) {j : Nat} {f : Rn} (hj : j < fs.length) (hf : fs[j] = f) :
    y4.cell? ⟨g2, j * 2, none⟩ = some (.int .i64 f.1.1) ∧ y4.cell? ⟨g2, j * 2 + 1, none⟩ = some f.2 ∧ y4.frozen? ⟨g2, j * 2, none⟩ = false ∧ y4.frozen? ⟨g2, j * 2 + 1, none⟩ = false := by
  subst hf
  obtain ⟨c1, c2⟩ := rnC_get hj
  rw [Nat.mul_comm 2 j] at c1 c2
  have fz : ∀ i, y4.frozen? ⟨g2, i, none⟩ = false := by
    intro i
    rcases h.own.2 with ⟨e, _⟩ | ⟨g', cap', cur, e, _, hb, _⟩
    · cases e
    · injection e with e _ _
      injection e with e
      injection e with e _ _
      subst e
      simp [World.frozen?, hb]
  exact ⟨(World.ownsRow.cellAt h.own _ (by omega)).trans c1, (World.ownsRow.cellAt h.own _ (by omega)).trans c2, fz _, fz _⟩
theorem GrT.lt {y3 : World} {l : List Value} {n g2 cap2 : Nat} {y4 : World} (h : GrT y3 l n g2 cap2 y4) : g2 < y4.heap.size := by
  rcases own_slice h.own with ⟨e, _⟩ | ⟨g', cap', e, _, h⟩
  · cases e
  · injection e with e _ _
    injection e with e
    injection e with e _ _
    omega
/-- behind the region -/
theorem GrT.swapped {w y3 : World} {fs : List Rn} {rs rs2 : List Lr} {n g2 cap2 k k1 : Nat} {y4 : World} {Pn Qn : Rn} {P Q : Lr} (h : GrT y3 (rnC fs) n g2 cap2 y4) (hl : fs.length = n) (hm : fs.map (·.1) = rs) (B : Below w.heap.size w y3) (hw : WdW w fs) (e1 : k1 = k + 1) (hk : k1 < n) (hP : rs[k]? = some P) (hQ : rs[k1]? = some Q)
    (hPn : fs[k]? = some Pn) (hQn : fs[k1]? = some Qn) (hrs2 : rs2 = swapL rs k P Q) :
    RowsC ((sw2 (sw2 y4 g2 k Qn.1.1 Qn.2) g2 k1 Pn.1.1 Pn.2).drew).heap.size (sw2 (sw2 y4 g2 k Qn.1.1 Qn.2) g2 k1 Pn.1.1 Pn.2).drew (.slice (some ⟨g2, 0, none⟩) n cap2) rs2 ∧ Below y3.heap.size y3 (sw2 (sw2 y4 g2 k Qn.1.1 Qn.2) g2 k1 Pn.1.1 Pn.2).drew := by
  subst e1
  have a1 : fs[k]'(by omega) = Pn := by rw [List.getElem?_eq_getElem (by omega)] at hPn; exact Option.some.inj hPn
  have a2 : fs[k + 1]'(by omega) = Qn := by rw [List.getElem?_eq_getElem (by omega)] at hQn; exact Option.some.inj hQn
  have a3 : Pn.1 = P := by
    have : (fs.map (·.1))[k]? = some Pn.1 := by rw [List.getElem?_map, hPn]; rfl
    rw [hm, hP] at this
    exact (Option.some.inj this).symm
  have a4 : Qn.1 = Q := by
    have : (fs.map (·.1))[k + 1]? = some Qn.1 := by rw [List.getElem?_map, hQn]; rfl
    rw [hm, hQ] at this
    exact (Option.some.inj this).symm
  have B4 : Below w.heap.size w y4 := B.trans (h.b.mono B.size)
  have hw4 : ∀ f ∈ fs, WdsAt y3.heap.size y4 f.2 f.1.2 := fun f hf => ((hw f hf).below B4).up B.size
  have R := sw_rows (k := k) h.own hm hl hw4 h.lo hk
  rw [a1, a2, a3, a4, ← hrs2] at R
  rw [← a3, ← a4] at R
  refine ⟨?_, (sw2_below (sw2_below h.b h.lo _ _) h.lo _ _).drew⟩
  have e : ((sw2 (sw2 y4 g2 k Qn.1.1 Qn.2) g2 (k + 1) Pn.1.1 Pn.2).drew).heap.size = y4.heap.size := by
    show (sw2 (sw2 y4 g2 k Qn.1.1 Qn.2) g2 (k + 1) Pn.1.1 Pn.2).heap.size = y4.heap.size
    rw [sw2_size, sw2_size]
  rw [e]
  exact R.drew
def SmC (w : World) (a b : Value) : Prop := ∀ x, Below w.heap.size w x → Calls Tryd.prog 10 #[a, b] x fun e y => e = .returned (.int .i64 1) ∧ Below x.heap.size x y
end Go.Proofs.YtagkgneijdbkoaaDoor
/-
  DescOrder, out of what its callees return (layer 8). Conditions: the library's table of white space is as laid; line's contract.
-/
namespace Go.Proofs.YtagkgneijdbkoaaDoor
open Go.RowKit
set_option linter.unusedVariables false

set_option maxRecDepth 100000 in
set_option maxHeartbeats 8000000 in
theorem dorder_few (w : World) (aw : Hid (AwC w)) (v : Value) (A : Int) (fw : Hid (FewC w v false)) :
    Calls Tryd.prog 5 #[v, .int .u8 A] w fun e y => e = .returned (.bool true) ∧ Below w.heap.size w y := by
  go_enter Tryd.func5, Tryd.ntmps5
  go_wp2_with fail
  refine (aw.out w (Below.refl _ _)).mono ?_
  rintro e y ⟨rfl, hb⟩
  replace hb : Hid (Below w.heap.size w y) := hb
  go_wp2_with fail
  refine (fw.out y hb.out).mono ?_
  rintro e y' ⟨rfl, hy⟩
  replace hy := hy.symm
  subst hy
  clear fw
  go_wp2_with fail
  refine (aw.out y hb.out).mono ?_
  rintro e y2 ⟨rfl, hb2⟩
  have hb3 : Hid (Below w.heap.size w y2) := hb.out.trans (hb2.mono hb.out.size)
  clear hb hb2
  go_wp2
  go_ret
  exact ⟨rfl, hb3.out⟩

set_option maxRecDepth 100000 in
set_option maxHeartbeats 8000000 in
theorem dorder_short (w : World) (aw : Hid (AwC w)) (p : Option Addr) (n cap : Nat) (A : Int) (h2 : (n : Int) < 2) (fw : Hid (FewC w (.slice p n cap) true)) :
    Calls Tryd.prog 5 #[.slice p n cap, .int .u8 A] w fun e y => e = .returned (.bool true) ∧ Below w.heap.size w y := by
  go_enter Tryd.func5, Tryd.ntmps5
  go_wp2_with fail
  refine (aw.out w (Below.refl _ _)).mono ?_
  rintro e y ⟨rfl, hb⟩
  replace hb : Hid (Below w.heap.size w y) := hb
  go_wp2_with fail
  refine (fw.out y hb.out).mono ?_
  rintro e y' ⟨rfl, hy⟩
  replace hy := hy.symm
  subst hy
  clear fw
  go_wp2_with fail
  refine (aw.out y hb.out).mono ?_
  rintro e y2 ⟨rfl, hb2⟩
  have hb3 : Hid (Below w.heap.size w y2) := hb.out.trans (hb2.mono hb.out.size)
  clear hb hb2
  go_wp2
  go_ret
  exact ⟨rfl, hb3.out⟩

set_option maxRecDepth 100000 in
set_option maxHeartbeats 16000000 in
theorem dorder_main (w : World) (aw : Hid (AwC w)) (pp : Option Addr) (n cap : Nat) (A : Int) (bA : 0 ≤ A ∧ A < 256) (h2 : (2 : Int) ≤ (n : Int)) (h60 : (n : Int) ≤ 60) (k : Nat) (hkn : (k : Int) + 1 < (n : Int)) (hk : Hid (A % ((n : Int) - 1) = (k : Int)))
    (rs rs2 : List Lr) (P Q : Lr) (hP : Hid (rs[k]? = some P)) (hQ : Hid (rs[k + 1]? = some Q)) (hrs2 : Hid (rs2 = swapL rs k P Q)) (hlen : Hid (rs.length = n)) (hv : Hid (RowsC w.heap.size w (.slice pp n cap) rs))
    (T T2 : Dv × Int × Nat) (fsT : Hid (T.1.fs.length ≤ 8)) (sw : Hid (SwMC T T2 P Q))
    (fw : Hid (FewC w (.slice pp n cap) true)) (rw : Hid (RwsC w (.slice pp n cap) rs)) (dr : Hid (DrT rs T)) (rr : Hid (RrT w (.slice pp n cap) T)) (rw2 : Hid (Rws2 rs2)) (dr2 : Hid (DrT rs2 T2)) :
    Calls Tryd.prog 5 #[.slice pp n cap, .int .u8 A] w fun e y => e = .returned (.bool true) ∧ Below w.heap.size w y := by
  obtain ⟨r0, hri, hr0, hr1, hr2⟩ := info_parts info_row8
  go_enter Tryd.func5, Tryd.ntmps5
  go_wp2_with fail
  refine (aw.out w (Below.refl _ _)).mono ?_
  rintro e y ⟨rfl, hb⟩
  replace hb : Hid (Below w.heap.size w y) := hb
  clear aw
  go_wp2_with fail
  refine (fw.out y hb.out).mono ?_
  rintro e y' ⟨rfl, hy⟩
  replace hy := hy.symm
  subst hy
  clear fw
  go_wp2_with fail
  refine (rw.out y hb.out).mono ?_
  rintro e y1 ⟨v', rfl, hv', hb1⟩
  have B1 : Hid (Below w.heap.size w y1) := hb.out.trans (hb1.mono hb.out.size)
  have drv : Hid (Calls Tryd.prog 13 #[v'] y1 (ReadQ y1 T)) := dr.out v' y1 hv'
  clear hb1 hb rw hv' dr
  go_wp2_with fail
  refine drv.out.mono ?_
  rintro e z ⟨fv, qv, rfl, hf, hq, hb2, nn1, nn2⟩
  clear nn1 nn2
  obtain ⟨p1, n1, c1, rfl⟩ := hf.form
  obtain ⟨p2, n2, c2, rfl⟩ := hq.form'
  obtain ⟨d, ln, en⟩ := T
  have hbz : Below w.heap.size w z := B1.out.trans (hb2.mono B1.out.size)
  have za : Below z.heap.size z (z.alloc (.cells (dvX d (.slice p1 n1 c1) (.slice p2 n2 c2)) 26)) := (Below.refl _ _).alloc (Nat.le_refl _) _
  have B2 : Hid (Below w.heap.size w (z.alloc (.cells (dvX d (.slice p1 n1 c1) (.slice p2 n2 c2)) 26))) := hbz.alloc hbz.size _
  have K2 : Hid ((z.alloc (.cells (dvX d (.slice p1 n1 c1) (.slice p2 n2 c2)) 26)).heap[z.heap.size]? = some (.cells (dvX d (.slice p1 n1 c1) (.slice p2 n2 c2)) 26 (0, 0))) := World.alloc_heap_new z _
  have F2 : Hid (FldsAt (z.alloc (.cells (dvX d (.slice p1 n1 c1) (.slice p2 n2 c2)) 26)) (.slice p1 n1 c1) d.fs) := hf.below za
  have Q2 : Hid (BytesAt (z.alloc (.cells (dvX d (.slice p1 n1 c1) (.slice p2 n2 c2)) 26)) (.slice p2 n2 c2) d.rq) := hq.below za
  clear hf hq hb2 hbz za B1 drv
  simp only at fsT
  go_upto_region 4 with fail
  change Code.wp Tryd.prog _ _ _ (z.alloc (.cells (dvX d (.slice p1 n1 c1) (.slice p2 n2 c2)) 26))
  generalize z.alloc (.cells (dvX d (.slice p1 n1 c1) (.slice p2 n2 c2)) 26) = y3 at *
  generalize z.heap.size = bD at *
  clear z
  by_cases he : en = 0
  case neg =>
    have hne : ((en : Int) != 0) = true := by rw [bne_iff_ne]; omega
    clear F2 Q2 K2 rw2 dr2 rr hP hQ hrs2 hv sw fsT
    go_wp2
    go_ret
    exact ⟨rfl, B2.out⟩
  subst he
  have SW : Hid (SwM (d, ln, 0) T2 P Q) := sw.out rfl
  clear sw
  have hk' := hk.out
  obtain ⟨g, o, fs, rfl, hgl, hfm, hfw, hnw⟩ := rows_rn hv.out hlen.out (by omega)
  have hfl : fs.length = n := by rw [← hlen.out, ← hfm, List.length_map]
  have news : Hid (NwT (y3.alloc (.cells #[] 46)) g o (rnC fs)) := nwT (rs := rs) B2.out hgl hnw
  have one : Hid (OneC (rnC fs)) := one_rn hfw
  have rnl : Hid ((rnC fs).length = n * 2) := by unfold Hid; rw [rnC_len, hfl]
  replace hfl : Hid (fs.length = n) := hfl
  replace hfm : Hid (fs.map (·.1) = rs) := hfm
  obtain ⟨Pn, hPn⟩ : ∃ f, fs[k]'(by have := hfl.out; omega) = f := ⟨_, rfl⟩
  obtain ⟨Qn, hQn⟩ : ∃ f, fs[k + 1]'(by have := hfl.out; omega) = f := ⟨_, rfl⟩
  have hfw' : Hid (WdW w fs) := hfw
  obtain ⟨ap, cp, fp⟩ := (hfw Pn (by rw [← hPn]; exact List.getElem_mem _)).form
  obtain ⟨aq, cq, fq⟩ := (hfw Qn (by rw [← hQn]; exact List.getElem_mem _)).form
  obtain ⟨⟨lp, wp⟩, up⟩ := Pn
  obtain ⟨⟨lq, wq⟩, uq⟩ := Qn
  simp only at fp fq
  subst fp fq
  have own0 : Hid ((y3.alloc (.cells #[] 46)).ownsRow y3.heap.size 46 2 (.slice (some ⟨y3.heap.size, 0, none⟩) 0 0) 0 []) := own_none y3
  have h63 : 0 + n ≤ maxLen := by unfold maxLen; omega
  have hby : (0 + n) * 32 ≤ 140737488355328 := by omega
  have hn0 : 0 < n := by omega
  replace hPn : Hid (fs[k]'(by have := hfl.out; omega) = ((lp, wp), Value.slice ap wp.length cp)) := hPn
  replace hQn : Hid (fs[k + 1]'(by have := hfl.out; omega) = ((lq, wq), Value.slice aq wq.length cq)) := hQn
  clear hfw hnw
  go_upto_region 8 with (at_builtin; refine wpList_append_lies _ rfl _ _ 30 rfl y3.heap.size 46 r0 (.agg #[.int .i64 0, .slice none 0 0]) 2 32 Tryd.underlying30 hri hr0 hr1 hr2 rfl (by decide) _ 0 [] rfl own0.out ⟨g, o, none⟩ n cap (rnC fs) rfl rnl.out news.out one.out hn0 h63 hby (by simp) (y3.heap.size + 1) (by simp) ?_; intro g2 cap2 y4 hO gO hat hlt2; have hG : Hid (GrT y3 (rnC fs) n g2 cap2 y4) := .of hO gO hat; clear hO gO hat hlt2)
  have lfk := hfl.out
  obtain ⟨a0, a1, a2, a3⟩ := hG.out.cell (j := k) hfl.out (by omega) hPn.out
  obtain ⟨b0, b1, b2, b3⟩ := hG.out.cell (j := k + 1) hfl.out (by omega) hQn.out
  have kb : (k : Int) < (n : Int) := by omega
  have q0 : 0 ≤ (k : Int) + 1 := by omega
  have wk : IntKind.i64.wrap ((k : Int) + 1) = (k : Int) + 1 := by simp only [IntKind.wrap_i64]; omega
  replace a0 : Hid (y4.cell? ⟨g2, k * 2, none⟩ = some (.int .i64 lp)) := a0
  replace a1 : Hid (y4.cell? ⟨g2, k * 2 + 1, none⟩ = some (.slice ap wp.length cp)) := a1
  replace a2 : Hid (y4.frozen? ⟨g2, k * 2, none⟩ = false) := a2
  replace a3 : Hid (y4.frozen? ⟨g2, k * 2 + 1, none⟩ = false) := a3
  replace b0 : Hid (y4.cell? ⟨g2, (k + 1) * 2, none⟩ = some (.int .i64 lq)) := b0
  replace b1 : Hid (y4.cell? ⟨g2, (k + 1) * 2 + 1, none⟩ = some (.slice aq wq.length cq)) := b1
  replace b2 : Hid (y4.frozen? ⟨g2, (k + 1) * 2, none⟩ = false) := b2
  replace b3 : Hid (y4.frozen? ⟨g2, (k + 1) * 2 + 1, none⟩ = false) := b3
  have sp := hG.out.swapped (Pn := ((lp, wp), Value.slice ap wp.length cp)) (Qn := ((lq, wq), Value.slice aq wq.length cq)) (P := P) (Q := Q) (rs2 := rs2) (k := k) (k1 := k + 1) hfl.out hfm.out B2.out hfw'.out (by omega) (by omega) hP.out hQ.out (by rw [List.getElem?_eq_getElem (by omega), hPn.out]) (by rw [List.getElem?_eq_getElem (by omega), hQn.out]) hrs2.out
  have R5 : Hid (RowsC ((sw2 (sw2 y4 g2 k lq (.slice aq wq.length cq)) g2 (k + 1) lp (.slice ap wp.length cp)).drew).heap.size (sw2 (sw2 y4 g2 k lq (.slice aq wq.length cq)) g2 (k + 1) lp (.slice ap wp.length cp)).drew (.slice (some ⟨g2, 0, none⟩) n cap2) rs2) := sp.1
  have b5 : Hid (Below y3.heap.size y3 (sw2 (sw2 y4 g2 k lq (.slice aq wq.length cq)) g2 (k + 1) lp (.slice ap wp.length cp)).drew) := sp.2
  clear sp lfk hG hPn hQn one news own0 hfw' rnl h63 hby hn0
  refine region_props (fun i v _ => SwP g2 cap2 n k ((lp, wp), Value.slice ap wp.length cp) ((lq, wq), Value.slice aq wq.length cq) i v) (SwW y4 g2 k (k + 1) ((lp, wp), Value.slice ap wp.length cp) ((lq, wq), Value.slice aq wq.length cq)) (by kernel_rfl) (by kernel_rfl) ?_ ?_ ⟨fun _ => rfl, fun h => (by cases h), fun h => (by cases h), fun h => (by cases h), fun h => (by cases h)⟩
  · intro x a z i op ho hI haf hx hxi hW
    have hi : i < 18 := (List.getElem?_eq_some_iff.1 ho).1
    have xi := getD_false hxi
    match i, hi with
    | 0, _ =>
      obtain rfl := Option.some.inj (show some _ = some op from ho)
      have e1 : a.tmps.getD 9 undef = .slice (some ⟨g2, 0, none⟩) n cap2 := (hI.was (by kernel_rfl)).trans rfl
      go_simp
      exact ⟨_, rfl, rfl, fun j v _ h => h, hW.other (by decide) (by decide)⟩
    | 1, _ =>
      obtain rfl := Option.some.inj (show some _ = some op from ho)
      have e1 : a.tmps.getD 8 undef = .int .i64 (k : Int) := (hI.was (by kernel_rfl)).trans rfl
      go_simp
      exact ⟨_, rfl, rfl, fun j v _ h => h, hW.other (by decide) (by decide)⟩
    | 2, _ =>
      obtain rfl := Option.some.inj (show some _ = some op from ho)
      have e1 : a.tmps.getD 9 undef = .slice (some ⟨g2, 0, none⟩) n cap2 := (hI.was (by kernel_rfl)).trans rfl
      go_simp
      exact ⟨_, rfl, rfl, fun j v _ h => h, hW.other (by decide) (by decide)⟩
    | 3, _ =>
      obtain rfl := Option.some.inj (show some _ = some op from ho)
      have e1 : a.tmps.getD 8 undef = .int .i64 (k : Int) := (hI.was (by kernel_rfl)).trans rfl
      go_simp
      exact ⟨_, rfl, rfl, fun j v _ h => h, hW.other (by decide) (by decide)⟩
    | 4, _ =>
      obtain rfl := Option.some.inj (show some _ = some op from ho)
      have e1 : a.tmps.getD 50 undef = .int .i64 (k : Int) := Eq.trans (hI.val 3 _ 50 rfl rfl (dep_at haf (by kernel_rfl))) rfl
      go_simp
      exact ⟨_, rfl, rfl, fun j v _ h => h, hW.other (by decide) (by decide)⟩
    | 5, _ =>
      obtain rfl := Option.some.inj (show some _ = some op from ho)
      have e1 : a.tmps.getD 9 undef = .slice (some ⟨g2, 0, none⟩) n cap2 := (hI.was (by kernel_rfl)).trans rfl
      go_simp
      exact ⟨_, rfl, rfl, fun j v _ h => h, hW.other (by decide) (by decide)⟩
    | 6, _ =>
      obtain rfl := Option.some.inj (show some _ = some op from ho)
      have e1 : a.tmps.getD 8 undef = .int .i64 (k : Int) := (hI.was (by kernel_rfl)).trans rfl
      go_simp
      exact ⟨_, rfl, rfl, fun j v _ h => h, hW.other (by decide) (by decide)⟩
    | 7, _ =>
      obtain rfl := Option.some.inj (show some _ = some op from ho)
      have e1 : a.tmps.getD 53 undef = .int .i64 (k : Int) := Eq.trans (hI.val 6 _ 53 rfl rfl (dep_at haf (by kernel_rfl))) rfl
      go_simp
      exact ⟨_, rfl, rfl, fun j v _ h => h, hW.other (by decide) (by decide)⟩
    | 8, _ =>
      obtain rfl := Option.some.inj (show some _ = some op from ho)
      have e1 : a.tmps.getD 52 undef = .slice (some ⟨g2, 0, none⟩) n cap2 := Eq.trans (hI.val 5 _ 52 rfl rfl (dep_at haf (by kernel_rfl))) rfl
      have e2 : a.tmps.getD 54 undef = .int .i64 ((k : Int) + 1) := Eq.trans (hI.val 7 _ 54 rfl rfl (dep_at haf (by kernel_rfl))) rfl
      go_simp
      exact ⟨_, rfl, rfl, fun j v _ h => h, hW.other (by decide) (by decide)⟩
    | 9, _ =>
      obtain rfl := Option.some.inj (show some _ = some op from ho)
      have e1 : a.tmps.getD 55 undef = .pointer (some ⟨g2, (k + 1) * 2, none⟩) := Eq.trans (hI.val 8 _ 55 rfl rfl (dep_at haf (by kernel_rfl))) rfl
      obtain rfl := hW.pre (.inl xi)
      have m0 := b0.out
      have m1 := b1.out
      go_simp
      exact ⟨_, rfl, rfl, fun j v _ h => h, hW.other (by decide) (by decide)⟩
    | 10, _ =>
      obtain rfl := Option.some.inj (show some _ = some op from ho)
      have e1 : a.tmps.getD 9 undef = .slice (some ⟨g2, 0, none⟩) n cap2 := (hI.was (by kernel_rfl)).trans rfl
      go_simp
      exact ⟨_, rfl, rfl, fun j v _ h => h, hW.other (by decide) (by decide)⟩
    | 11, _ =>
      obtain rfl := Option.some.inj (show some _ = some op from ho)
      have e1 : a.tmps.getD 8 undef = .int .i64 (k : Int) := (hI.was (by kernel_rfl)).trans rfl
      go_simp
      exact ⟨_, rfl, rfl, fun j v _ h => h, hW.other (by decide) (by decide)⟩
    | 12, _ =>
      obtain rfl := Option.some.inj (show some _ = some op from ho)
      have e1 : a.tmps.getD 57 undef = .slice (some ⟨g2, 0, none⟩) n cap2 := Eq.trans (hI.val 10 _ 57 rfl rfl (dep_at haf (by kernel_rfl))) rfl
      have e2 : a.tmps.getD 58 undef = .int .i64 (k : Int) := Eq.trans (hI.val 11 _ 58 rfl rfl (dep_at haf (by kernel_rfl))) rfl
      go_simp
      exact ⟨_, rfl, rfl, fun j v _ h => h, hW.other (by decide) (by decide)⟩
    | 13, _ =>
      obtain rfl := Option.some.inj (show some _ = some op from ho)
      have e1 : a.tmps.getD 59 undef = .pointer (some ⟨g2, k * 2, none⟩) := Eq.trans (hI.val 12 _ 59 rfl rfl (dep_at haf (by kernel_rfl))) rfl
      obtain rfl := hW.pre (.inr xi)
      have m0 := a0.out
      have m1 := a1.out
      go_simp
      exact ⟨_, rfl, rfl, fun j v _ h => h, hW.other (by decide) (by decide)⟩
    | 14, _ =>
      obtain rfl := Option.some.inj (show some _ = some op from ho)
      have e1 : a.tmps.getD 47 undef = .slice (some ⟨g2, 0, none⟩) n cap2 := Eq.trans (hI.val 0 _ 47 rfl rfl (dep_at haf (by kernel_rfl))) rfl
      have e2 : a.tmps.getD 48 undef = .int .i64 (k : Int) := Eq.trans (hI.val 1 _ 48 rfl rfl (dep_at haf (by kernel_rfl))) rfl
      go_simp
      exact ⟨_, rfl, rfl, fun j v _ h => h, hW.other (by decide) (by decide)⟩
    | 15, _ =>
      obtain rfl := Option.some.inj (show some _ = some op from ho)
      have e1 : a.tmps.getD 61 undef = .pointer (some ⟨g2, k * 2, none⟩) := Eq.trans (hI.val 14 _ 61 rfl rfl (dep_at haf (by kernel_rfl))) rfl
      have e2 : a.tmps.getD 56 undef = .agg #[.int .i64 lq, (.slice aq wq.length cq)] := Eq.trans (hI.val 9 _ 56 rfl rfl (dep_at haf (by kernel_rfl))) rfl
      obtain ⟨rfl, W'⟩ := hW.one xi (dep_at haf (by kernel_rfl)) (dep_at haf (by kernel_rfl)) (by rw [hx]; decide)
      replace W' : Hid _ := W'
      have m0 := a0.out
      have m1 := a1.out
      have m4 := sw2_in (L := lq) a1.out
      have m2 := a2.out
      have m3 := a3.out
      go_simp
      exact ⟨fun j v _ h => h, W'⟩
    | 16, _ =>
      obtain rfl := Option.some.inj (show some _ = some op from ho)
      have e1 : a.tmps.getD 49 undef = .slice (some ⟨g2, 0, none⟩) n cap2 := Eq.trans (hI.val 2 _ 49 rfl rfl (dep_at haf (by kernel_rfl))) rfl
      have e2 : a.tmps.getD 51 undef = .int .i64 ((k : Int) + 1) := Eq.trans (hI.val 4 _ 51 rfl rfl (dep_at haf (by kernel_rfl))) rfl
      go_simp
      exact ⟨_, rfl, rfl, fun j v _ h => h, hW.other (by decide) (by decide)⟩
    | 17, _ =>
      obtain rfl := Option.some.inj (show some _ = some op from ho)
      have e1 : a.tmps.getD 62 undef = .pointer (some ⟨g2, (k + 1) * 2, none⟩) := Eq.trans (hI.val 16 _ 62 rfl rfl (dep_at haf (by kernel_rfl))) rfl
      have e2 : a.tmps.getD 60 undef = .agg #[.int .i64 lp, (.slice ap wp.length cp)] := Eq.trans (hI.val 13 _ 60 rfl rfl (dep_at haf (by kernel_rfl))) rfl
      obtain ⟨rfl, W'⟩ := hW.two (dep_at haf (by kernel_rfl)) xi (by rw [hx]; decide)
      have m0 : (sw2 y4 g2 k lq (.slice aq wq.length cq)).cell? ⟨g2, (k + 1) * 2, none⟩ = some (.int .i64 lq) := (sw2_off (by intro e; injection e with _ e; omega) (by intro e; injection e with _ e; omega)).trans b0.out
      have m1 : (sw2 y4 g2 k lq (.slice aq wq.length cq)).cell? ⟨g2, (k + 1) * 2 + 1, none⟩ = some (.slice aq wq.length cq) := (sw2_off (by intro e; injection e with _ e; omega) (by intro e; injection e with _ e; omega)).trans b1.out
      have m4 := sw2_in (L := lp) m1
      replace W' : Hid _ := W'
      have m2 : (sw2 y4 g2 k lq (.slice aq wq.length cq)).frozen? ⟨g2, (k + 1) * 2, none⟩ = false := (sw2_frozen _ _ _ _ _ _).trans b2.out
      have m3 : (sw2 y4 g2 k lq (.slice aq wq.length cq)).frozen? ⟨g2, (k + 1) * 2 + 1, none⟩ = false := (sw2_frozen _ _ _ _ _ _).trans b3.out
      clear R5 b5
      generalize hS : sw2 y4 g2 k lq (.slice aq wq.length cq) = S at *
      go_simp
      exact ⟨fun j v _ h => h, W'⟩
  · intro x a zz hx hall hI hW
    obtain rfl := hW.c (hall 17 (by decide))
    have ha := RegI.tmps (V := swV g2 cap2 n k ((lp, wp), Value.slice ap wp.length cp) ((lq, wq), Value.slice aq wq.length cq)) hI (by kernel_rfl) hall
    simp only [putsL, swV, List.setIfInBounds_toArray, List.set_cons_zero, List.set_cons_succ, Array.getD_eq_getD_getElem?, List.getElem?_toArray, List.getElem?_cons_zero, List.getElem?_cons_succ, Option.getD_some] at ha
    subst ha
    clear hI hW hall hx a0 a1 a2 a3 b0 b1 b2 b3
    generalize (sw2 (sw2 y4 g2 k lq (.slice aq wq.length cq)) g2 (k + 1) lp (.slice ap wp.length cp)).drew = y5 at *
    clear q0 wk
    have lt3 : bD < y3.heap.size := (Array.getElem?_eq_some_iff.1 K2.out).1
    have K5 : Hid (y5.heap[bD]? = some (.cells (dvX d (.slice p1 n1 c1) (.slice p2 n2 c2)) 26 (0, 0))) := (b5.out.block bD lt3).trans K2.out
    have F5 : Hid (FldsAt y5 (.slice p1 n1 c1) d.fs) := F2.out.below b5.out
    have Q5 : Hid (BytesAt y5 (.slice p2 n2 c2) d.rq) := Q2.out.below b5.out
    have B5 : Hid (Below w.heap.size w y5) := B2.out.trans (b5.out.mono B2.out.size)
    clear K2 F2 Q2 B2 b5 lt3 hrs2 hfl hfm
    go_wp2_with fail
    refine (rw2.out _ y5 R5.out).mono ?_
    rintro e y6 ⟨v6, rfl, hv6, hb6⟩
    have K6 : Hid (y6.heap[bD]? = some (.cells (dvX d (.slice p1 n1 c1) (.slice p2 n2 c2)) 26 (0, 0))) := (hb6.block bD (Array.getElem?_eq_some_iff.1 K5.out).1).trans K5.out
    have F6 : Hid (FldsAt y6 (.slice p1 n1 c1) d.fs) := F5.out.below hb6
    have Q6 : Hid (BytesAt y6 (.slice p2 n2 c2) d.rq) := Q5.out.below hb6
    have B6 : Hid (Below w.heap.size w y6) := B5.out.trans (hb6.mono B5.out.size)
    have drv : Hid (Calls Tryd.prog 13 #[v6] y6 (ReadQ y6 T2)) := dr2.out v6 y6 hv6
    clear K5 F5 Q5 B5 R5 hb6 hv6 dr2 rw2
    go_wp2_with fail
    refine drv.out.mono ?_
    rintro e z ⟨fv, qv, rfl, hf, hq, hb2, nn1, nn2⟩
    clear nn1 nn2
    obtain ⟨p3, n3, c3, rfl⟩ := hf.form
    obtain ⟨p4, n4, c4, rfl⟩ := hq.form'
    obtain ⟨d2, ln2, en2⟩ := T2
    obtain ⟨se, ss, sp, sq⟩ := SW.out
    simp only at se
    subst se
    replace ss : Hid (SmD d2 d P Q) := fun h => congrArg (·.1) (ss h)
    clear SW
    have hbz : Below w.heap.size w z := B6.out.trans (hb2.mono B6.out.size)
    have za : Below z.heap.size z (z.alloc (.cells (dvX d2 (.slice p3 n3 c3) (.slice p4 n4 c4)) 26)) := (Below.refl _ _).alloc (Nat.le_refl _) _
    have B7 : Hid (Below w.heap.size w (z.alloc (.cells (dvX d2 (.slice p3 n3 c3) (.slice p4 n4 c4)) 26))) := hbz.alloc hbz.size _
    have X7 : Hid ((z.alloc (.cells (dvX d2 (.slice p3 n3 c3) (.slice p4 n4 c4)) 26)).heap[z.heap.size]? = some (.cells (dvX d2 (.slice p3 n3 c3) (.slice p4 n4 c4)) 26 (0, 0))) := World.alloc_heap_new z _
    have XF7 : Hid (FldsAt (z.alloc (.cells (dvX d2 (.slice p3 n3 c3) (.slice p4 n4 c4)) 26)) (.slice p3 n3 c3) d2.fs) := hf.below za
    have XQ7 : Hid (BytesAt (z.alloc (.cells (dvX d2 (.slice p3 n3 c3) (.slice p4 n4 c4)) 26)) (.slice p4 n4 c4) d2.rq) := hq.below za
    have zK : z.heap[bD]? = some (.cells (dvX d (.slice p1 n1 c1) (.slice p2 n2 c2)) 26 (0, 0)) := (hb2.block bD (Array.getElem?_eq_some_iff.1 K6.out).1).trans K6.out
    have K7 : Hid ((z.alloc (.cells (dvX d2 (.slice p3 n3 c3) (.slice p4 n4 c4)) 26)).heap[bD]? = some (.cells (dvX d (.slice p1 n1 c1) (.slice p2 n2 c2)) 26 (0, 0))) := (za.block bD (Array.getElem?_eq_some_iff.1 zK).1).trans zK
    have F7 : Hid (FldsAt (z.alloc (.cells (dvX d2 (.slice p3 n3 c3) (.slice p4 n4 c4)) 26)) (.slice p1 n1 c1) d.fs) := (F6.out.below hb2).below za
    have Q7 : Hid (BytesAt (z.alloc (.cells (dvX d2 (.slice p3 n3 c3) (.slice p4 n4 c4)) 26)) (.slice p2 n2 c2) d.rq) := (Q6.out.below hb2).below za
    clear hf hq hb2 hbz za zK B6 K6 F6 Q6 drv
    go_upto_region 10 with fail
    change Code.wp Tryd.prog _ _ _ (z.alloc (.cells (dvX d2 (.slice p3 n3 c3) (.slice p4 n4 c4)) 26))
    generalize z.alloc (.cells (dvX d2 (.slice p3 n3 c3) (.slice p4 n4 c4)) 26) = y7 at *
    generalize z.heap.size = bX at *
    clear z
    have rdv : Hid (Calls Tryd.prog 11 #[.slice (some ⟨g, o, none⟩) n cap] y7 (ReadQ y7 (d, ln, 0))) := rr.out y7 B7.out
    clear rr
    go_wp2_with fail
    refine rdv.out.mono ?_
    rintro e z ⟨fv, qv, rfl, hf, hq, hb4, nn1, nn2⟩
    clear nn1 nn2
    obtain ⟨p5, n5, c5, rfl⟩ := hf.form
    obtain ⟨p6, n6, c6, rfl⟩ := hq.form'
    have za : Below z.heap.size z (z.alloc (.cells (dvX d (.slice p5 n5 c5) (.slice p6 n6 c6)) 36)) := (Below.refl _ _).alloc (Nat.le_refl _) _
    have hbz : Below w.heap.size w z := B7.out.trans (hb4.mono B7.out.size)
    have B9 : Hid (Below w.heap.size w (z.alloc (.cells (dvX d (.slice p5 n5 c5) (.slice p6 n6 c6)) 36))) := hbz.alloc hbz.size _
    have Y9 : Hid ((z.alloc (.cells (dvX d (.slice p5 n5 c5) (.slice p6 n6 c6)) 36)).heap[z.heap.size]? = some (.cells (dvX d (.slice p5 n5 c5) (.slice p6 n6 c6)) 36 (0, 0))) := World.alloc_heap_new z _
    have YF9 : Hid (FldsAt (z.alloc (.cells (dvX d (.slice p5 n5 c5) (.slice p6 n6 c6)) 36)) (.slice p5 n5 c5) d.fs) := hf.below za
    have YQ9 : Hid (BytesAt (z.alloc (.cells (dvX d (.slice p5 n5 c5) (.slice p6 n6 c6)) 36)) (.slice p6 n6 c6) d.rq) := hq.below za
    have zK : z.heap[bD]? = some (.cells (dvX d (.slice p1 n1 c1) (.slice p2 n2 c2)) 26 (0, 0)) := (hb4.block bD (Array.getElem?_eq_some_iff.1 K7.out).1).trans K7.out
    have K9 : Hid ((z.alloc (.cells (dvX d (.slice p5 n5 c5) (.slice p6 n6 c6)) 36)).heap[bD]? = some (.cells (dvX d (.slice p1 n1 c1) (.slice p2 n2 c2)) 26 (0, 0))) := (za.block bD (Array.getElem?_eq_some_iff.1 zK).1).trans zK
    have F9 : Hid (FldsAt (z.alloc (.cells (dvX d (.slice p5 n5 c5) (.slice p6 n6 c6)) 36)) (.slice p1 n1 c1) d.fs) := (F7.out.below hb4).below za
    have Q9 : Hid (BytesAt (z.alloc (.cells (dvX d (.slice p5 n5 c5) (.slice p6 n6 c6)) 36)) (.slice p2 n2 c2) d.rq) := (Q7.out.below hb4).below za
    have zX : z.heap[bX]? = some (.cells (dvX d2 (.slice p3 n3 c3) (.slice p4 n4 c4)) 26 (0, 0)) := (hb4.block bX (Array.getElem?_eq_some_iff.1 X7.out).1).trans X7.out
    have X9 : Hid ((z.alloc (.cells (dvX d (.slice p5 n5 c5) (.slice p6 n6 c6)) 36)).heap[bX]? = some (.cells (dvX d2 (.slice p3 n3 c3) (.slice p4 n4 c4)) 26 (0, 0))) := (za.block bX (Array.getElem?_eq_some_iff.1 zX).1).trans zX
    have XF9 : Hid (FldsAt (z.alloc (.cells (dvX d (.slice p5 n5 c5) (.slice p6 n6 c6)) 36)) (.slice p3 n3 c3) d2.fs) := (XF7.out.below hb4).below za
    have XQ9 : Hid (BytesAt (z.alloc (.cells (dvX d (.slice p5 n5 c5) (.slice p6 n6 c6)) 36)) (.slice p4 n4 c4) d2.rq) := (XQ7.out.below hb4).below za
    clear hf hq hb4 za hbz zK zX rdv K7 F7 Q7 X7 XF7 XQ7 B7
    go_upto_region 11 with fail
    change Code.wp Tryd.prog _ _ _ (z.alloc (.cells (dvX d (.slice p5 n5 c5) (.slice p6 n6 c6)) 36))
    generalize z.alloc (.cells (dvX d (.slice p5 n5 c5) (.slice p6 n6 c6)) 36) = y9 at *
    generalize z.heap.size = bY at *
    clear z
    obtain ⟨g', o', pu, cu, e', x1, x2, k1, kw⟩ := hv.out.at hlen.out B9.out (i := k) (by omega)
    clear x1 x2
    obtain ⟨rfl, rfl⟩ : g = g' ∧ o = o' := by
      injection e' with e'
      injection e' with e1 e2 _
      exact ⟨e1, e2⟩
    obtain ⟨g', o', pu', cu', e', x1, x2, m1, mw⟩ := hv.out.at hlen.out B9.out (i := k + 1) (by omega)
    clear x1 x2
    obtain ⟨rfl, rfl⟩ : g = g' ∧ o = o' := by
      injection e' with e'
      injection e' with e1 e2 _
      exact ⟨e1, e2⟩
    have eP : rs[k]'(by have := hlen.out; omega) = P := by have h := hP.out; rw [List.getElem?_eq_getElem (by have := hlen.out; omega)] at h; exact Option.some.inj h
    have eQ : rs[k + 1]'(by have := hlen.out; omega) = Q := by have h := hQ.out; rw [List.getElem?_eq_getElem (by have := hlen.out; omega)] at h; exact Option.some.inj h
    rw [eP] at k1 kw
    rw [eQ] at m1 mw
    clear eP eQ hP hQ hv e'
    obtain ⟨Pl, Pw⟩ := P
    obtain ⟨Ql, Qw⟩ := Q
    simp only at k1 kw m1 mw sp sq
    obtain ⟨f1, a1, rfl⟩ := List.exists_cons_of_ne_nil sp
    obtain ⟨f2, a2, rfl⟩ := List.exists_cons_of_ne_nil sq
    obtain ⟨gp, op, cp1, ep, hip, x1⟩ := kw.cons2
    obtain ⟨gq, oq, cq1, eq, hiq, x2⟩ := mw.cons2
    clear x1 x2
    injection ep with ep1 ep2 ep3
    injection eq with eq1 eq2 eq3
    subst ep1
    subst eq1
    have k2 : y9.cell? ⟨gp, op, none⟩ = some (.string (txt f1)) := hip 0 (by simp)
    have m2 : y9.cell? ⟨gq, oq, none⟩ = some (.string (txt f2)) := hiq 0 (by simp)
    have t1 : (txt f1 == ⟨#[102, 105, 101, 108, 100]⟩) = decide (f1 = kFie) := txt_beq f1 kFie
    have t2 : (txt f2 == ⟨#[102, 105, 101, 108, 100]⟩) = decide (f2 = kFie) := txt_beq f2 kFie
    have w1 : ((txt f1).toList == [102, 105, 101, 108, 100]) = decide (f1 = kFie) := by
      rw [Bool.eq_iff_iff, decide_eq_true_iff, beq_iff_eq, ByteArray.toList_eq]
      exact ⟨fun h => h, fun h => by rw [h]; rfl⟩
    have w2 : ((txt f2).toList == [102, 105, 101, 108, 100]) = decide (f2 = kFie) := by
      rw [Bool.eq_iff_iff, decide_eq_true_iff, beq_iff_eq, ByteArray.toList_eq]
      exact ⟨fun h => h, fun h => by rw [h]; rfl⟩
    have u1 : 0 < (((f1 :: a1).length : Nat) : Int) := by simp only [List.length_cons]; omega
    have u2 : 0 < (((f2 :: a2).length : Nat) : Int) := by simp only [List.length_cons]; omega
    have q0 : 0 ≤ (k : Int) + 1 := by omega
    have wk : IntKind.i64.wrap ((k : Int) + 1) = (k : Int) + 1 := by simp only [IntKind.wrap_i64]; omega
    have kb : (k : Int) < (n : Int) := by omega
    generalize hl1 : (f1 :: a1).length = L1 at *
    generalize hl2 : (f2 :: a2).length = L2 at *
    replace ss : Hid (¬ (f1 = kFie ∧ f2 = kFie) → d2 = d) := ss.out
    have hb : ((decide (f1 = kFie) && decide (f2 = kFie)) = true) ∨ Hid (d2 = d) := by
      by_cases h : f1 = kFie ∧ f2 = kFie
      · left; simp [h.1, h.2]
      · right; exact ss.out h
    clear ss hip hiq kw mw sp sq ep2 ep3 eq2 eq3 hl1 hl2 hlen hgl
    generalize decide (f1 = kFie) = D1 at *
    generalize decide (f2 = kFie) = D2 at *
    generalize txt f1 = S1 at *
    generalize txt f2 = S2 at *
    clear f1 f2 a1 a2
    cases D1
    case true =>
      cases D2
      case true =>
        clear K9 F9 Q9 X9 XF9 XQ9 Y9 YF9 YQ9 fsT hb
        go_wp2
        go_ret
        exact ⟨rfl, B9.out⟩
      case false =>
        obtain hd := hb.resolve_left (by decide)
        obtain rfl := hd.out
        clear hb hd
        have s1 : Hid (SmC y9 (dvV d2 (.slice p3 n3 c3) (.slice p4 n4 c4)) (dvV d2 (.slice p5 n5 c5) (.slice p6 n6 c6))) := fun x hx => same_any d2 _ _ _ _ _ (XF9.out.below hx) (XQ9.out.below hx) (YF9.out.below hx) (YQ9.out.below hx) (by have := fsT.out; omega)
        have s2 : Hid (SmC y9 (dvV d2 (.slice p1 n1 c1) (.slice p2 n2 c2)) (dvV d2 (.slice p5 n5 c5) (.slice p6 n6 c6))) := fun x hx => same_any d2 _ _ _ _ _ (F9.out.below hx) (Q9.out.below hx) (YF9.out.below hx) (YQ9.out.below hx) (by have := fsT.out; omega)
        clear F9 Q9 XF9 XQ9 YF9 YQ9 fsT
        go_upto_region 13 with fail
        clear k1 k2 m1 m2 t1 t2 u1 u2 w1 w2
        have l0 := (rd_cell X9.out 0).1
        have m0 := (rd_cell Y9.out 0).1
        have l1 := (rd_cell X9.out 1).1
        have m1 := (rd_cell Y9.out 1).1
        have l2 := (rd_cell X9.out 2).1
        have m2 := (rd_cell Y9.out 2).1
        have l3 := (rd_cell X9.out 3).1
        have m3 := (rd_cell Y9.out 3).1
        have l4 := (rd_cell X9.out 4).1
        have m4 := (rd_cell Y9.out 4).1
        have l5 := (rd_cell X9.out 5).1
        have m5 := (rd_cell Y9.out 5).1
        have l6 := (rd_cell X9.out 6).1
        have m6 := (rd_cell Y9.out 6).1
        have l7 := (rd_cell X9.out 7).1
        have m7 := (rd_cell Y9.out 7).1
        have l8 := (rd_cell X9.out 8).1
        have m8 := (rd_cell Y9.out 8).1
        have l9 := (rd_cell X9.out 9).1
        have m9 := (rd_cell Y9.out 9).1
        have l10 := (rd_cell X9.out 10).1
        have m10 := (rd_cell Y9.out 10).1
        have l11 := (rd_cell X9.out 11).1
        have m11 := (rd_cell Y9.out 11).1
        simp only [List.getElem?_toArray, List.getElem?_cons_zero, List.getElem?_cons_succ] at l0 m0 l1 m1 l2 m2 l3 m3 l4 m4 l5 m5 l6 m6 l7 m7 l8 m8 l9 m9 l10 m10 l11 m11
        go_wp2_with fail
        refine (s1.out y9 (Below.refl _ _)).mono ?_
        rintro e y10 ⟨rfl, hb10⟩
        have K10 : Hid (y10.heap[bD]? = some (.cells (dvX d2 (.slice p1 n1 c1) (.slice p2 n2 c2)) 26 (0, 0))) := (hb10.block bD (Array.getElem?_eq_some_iff.1 K9.out).1).trans K9.out
        have Y10 : Hid (y10.heap[bY]? = some (.cells (dvX d2 (.slice p5 n5 c5) (.slice p6 n6 c6)) 36 (0, 0))) := (hb10.block bY (Array.getElem?_eq_some_iff.1 Y9.out).1).trans Y9.out
        have s3 := (show Hid (Calls Tryd.prog 10 #[dvV d2 (.slice p1 n1 c1) (.slice p2 n2 c2), dvV d2 (.slice p5 n5 c5) (.slice p6 n6 c6)] y10 fun e y => e = .returned (.int .i64 1) ∧ Below y10.heap.size y10 y) from s2.out y10 hb10)
        have B10 : Hid (Below w.heap.size w y10) := B9.out.trans (hb10.mono B9.out.size)
        clear hb10 s1 s2 K9 Y9 X9 B9 l0 m0 l1 m1 l2 m2 l3 m3 l4 m4 l5 m5 l6 m6 l7 m7 l8 m8 l9 m9 l10 m10 l11 m11
        have l0 := (rd_cell K10.out 0).1
        have m0 := (rd_cell Y10.out 0).1
        have l1 := (rd_cell K10.out 1).1
        have m1 := (rd_cell Y10.out 1).1
        have l2 := (rd_cell K10.out 2).1
        have m2 := (rd_cell Y10.out 2).1
        have l3 := (rd_cell K10.out 3).1
        have m3 := (rd_cell Y10.out 3).1
        have l4 := (rd_cell K10.out 4).1
        have m4 := (rd_cell Y10.out 4).1
        have l5 := (rd_cell K10.out 5).1
        have m5 := (rd_cell Y10.out 5).1
        have l6 := (rd_cell K10.out 6).1
        have m6 := (rd_cell Y10.out 6).1
        have l7 := (rd_cell K10.out 7).1
        have m7 := (rd_cell Y10.out 7).1
        have l8 := (rd_cell K10.out 8).1
        have m8 := (rd_cell Y10.out 8).1
        have l9 := (rd_cell K10.out 9).1
        have m9 := (rd_cell Y10.out 9).1
        have l10 := (rd_cell K10.out 10).1
        have m10 := (rd_cell Y10.out 10).1
        have l11 := (rd_cell K10.out 11).1
        have m11 := (rd_cell Y10.out 11).1
        simp only [List.getElem?_toArray, List.getElem?_cons_zero, List.getElem?_cons_succ] at l0 m0 l1 m1 l2 m2 l3 m3 l4 m4 l5 m5 l6 m6 l7 m7 l8 m8 l9 m9 l10 m10 l11 m11
        go_wp2_with fail
        refine s3.out.mono ?_
        rintro e y11 ⟨rfl, hb11⟩
        have B11 : Hid (Below w.heap.size w y11) := B10.out.trans (hb11.mono B10.out.size)
        clear hb11 s3 K10 Y10 B10 l0 m0 l1 m1 l2 m2 l3 m3 l4 m4 l5 m5 l6 m6 l7 m7 l8 m8 l9 m9 l10 m10 l11 m11
        go_wp2
        go_ret
        exact ⟨rfl, B11.out⟩
    case false =>
      obtain hd := hb.resolve_left (by cases D2 <;> decide)
      obtain rfl := hd.out
      clear hb hd
      have s1 : Hid (SmC y9 (dvV d2 (.slice p3 n3 c3) (.slice p4 n4 c4)) (dvV d2 (.slice p5 n5 c5) (.slice p6 n6 c6))) := fun x hx => same_any d2 _ _ _ _ _ (XF9.out.below hx) (XQ9.out.below hx) (YF9.out.below hx) (YQ9.out.below hx) (by have := fsT.out; omega)
      have s2 : Hid (SmC y9 (dvV d2 (.slice p1 n1 c1) (.slice p2 n2 c2)) (dvV d2 (.slice p5 n5 c5) (.slice p6 n6 c6))) := fun x hx => same_any d2 _ _ _ _ _ (F9.out.below hx) (Q9.out.below hx) (YF9.out.below hx) (YQ9.out.below hx) (by have := fsT.out; omega)
      clear F9 Q9 XF9 XQ9 YF9 YQ9 fsT
      go_upto_region 13 with fail
      clear k1 k2 m1 m2 t1 t2 u1 u2 w1 w2
      have l0 := (rd_cell X9.out 0).1
      have m0 := (rd_cell Y9.out 0).1
      have l1 := (rd_cell X9.out 1).1
      have m1 := (rd_cell Y9.out 1).1
      have l2 := (rd_cell X9.out 2).1
      have m2 := (rd_cell Y9.out 2).1
      have l3 := (rd_cell X9.out 3).1
      have m3 := (rd_cell Y9.out 3).1
      have l4 := (rd_cell X9.out 4).1
      have m4 := (rd_cell Y9.out 4).1
      have l5 := (rd_cell X9.out 5).1
      have m5 := (rd_cell Y9.out 5).1
      have l6 := (rd_cell X9.out 6).1
      have m6 := (rd_cell Y9.out 6).1
      have l7 := (rd_cell X9.out 7).1
      have m7 := (rd_cell Y9.out 7).1
      have l8 := (rd_cell X9.out 8).1
      have m8 := (rd_cell Y9.out 8).1
      have l9 := (rd_cell X9.out 9).1
      have m9 := (rd_cell Y9.out 9).1
      have l10 := (rd_cell X9.out 10).1
      have m10 := (rd_cell Y9.out 10).1
      have l11 := (rd_cell X9.out 11).1
      have m11 := (rd_cell Y9.out 11).1
      simp only [List.getElem?_toArray, List.getElem?_cons_zero, List.getElem?_cons_succ] at l0 m0 l1 m1 l2 m2 l3 m3 l4 m4 l5 m5 l6 m6 l7 m7 l8 m8 l9 m9 l10 m10 l11 m11
      go_wp2_with fail
      refine (s1.out y9 (Below.refl _ _)).mono ?_
      rintro e y10 ⟨rfl, hb10⟩
      have K10 : Hid (y10.heap[bD]? = some (.cells (dvX d2 (.slice p1 n1 c1) (.slice p2 n2 c2)) 26 (0, 0))) := (hb10.block bD (Array.getElem?_eq_some_iff.1 K9.out).1).trans K9.out
      have Y10 : Hid (y10.heap[bY]? = some (.cells (dvX d2 (.slice p5 n5 c5) (.slice p6 n6 c6)) 36 (0, 0))) := (hb10.block bY (Array.getElem?_eq_some_iff.1 Y9.out).1).trans Y9.out
      have s3 := (show Hid (Calls Tryd.prog 10 #[dvV d2 (.slice p1 n1 c1) (.slice p2 n2 c2), dvV d2 (.slice p5 n5 c5) (.slice p6 n6 c6)] y10 fun e y => e = .returned (.int .i64 1) ∧ Below y10.heap.size y10 y) from s2.out y10 hb10)
      have B10 : Hid (Below w.heap.size w y10) := B9.out.trans (hb10.mono B9.out.size)
      clear hb10 s1 s2 K9 Y9 X9 B9 l0 m0 l1 m1 l2 m2 l3 m3 l4 m4 l5 m5 l6 m6 l7 m7 l8 m8 l9 m9 l10 m10 l11 m11
      have l0 := (rd_cell K10.out 0).1
      have m0 := (rd_cell Y10.out 0).1
      have l1 := (rd_cell K10.out 1).1
      have m1 := (rd_cell Y10.out 1).1
      have l2 := (rd_cell K10.out 2).1
      have m2 := (rd_cell Y10.out 2).1
      have l3 := (rd_cell K10.out 3).1
      have m3 := (rd_cell Y10.out 3).1
      have l4 := (rd_cell K10.out 4).1
      have m4 := (rd_cell Y10.out 4).1
      have l5 := (rd_cell K10.out 5).1
      have m5 := (rd_cell Y10.out 5).1
      have l6 := (rd_cell K10.out 6).1
      have m6 := (rd_cell Y10.out 6).1
      have l7 := (rd_cell K10.out 7).1
      have m7 := (rd_cell Y10.out 7).1
      have l8 := (rd_cell K10.out 8).1
      have m8 := (rd_cell Y10.out 8).1
      have l9 := (rd_cell K10.out 9).1
      have m9 := (rd_cell Y10.out 9).1
      have l10 := (rd_cell K10.out 10).1
      have m10 := (rd_cell Y10.out 10).1
      have l11 := (rd_cell K10.out 11).1
      have m11 := (rd_cell Y10.out 11).1
      simp only [List.getElem?_toArray, List.getElem?_cons_zero, List.getElem?_cons_succ] at l0 m0 l1 m1 l2 m2 l3 m3 l4 m4 l5 m5 l6 m6 l7 m7 l8 m8 l9 m9 l10 m10 l11 m11
      go_wp2_with fail
      refine s3.out.mono ?_
      rintro e y11 ⟨rfl, hb11⟩
      have B11 : Hid (Below w.heap.size w y11) := B10.out.trans (hb11.mono B10.out.size)
      clear hb11 s3 K10 Y10 B10 l0 m0 l1 m1 l2 m2 l3 m3 l4 m4 l5 m5 l6 m6 l7 m7 l8 m8 l9 m9 l10 m10 l11 m11
      go_wp2
      go_ret
      exact ⟨rfl, B11.out⟩

theorem dorder_any (L : LineP) (w : World) (T7 : Tab7 w) (v : Value) (rs : List Lr) (hv : RowsC w.heap.size w v rs) (hn : (rs.length : Int) ≤ 9223372036854775807) (A : Nat) (hA : A < 256) :
    Calls Tryd.prog 5 #[v, .int .u8 (A : Int)] w fun e y => e = .returned (.bool true) ∧ Below w.heap.size w y := by
  have aw : Hid (AwC w) := fun x hb => awake8_any x (T7.below hb)
  have fw := fewC hv hn
  cases hT : fewB rs with
  | false => rw [hT] at fw; exact dorder_few w aw v _ fw
  | true =>
    rw [hT] at fw
    obtain ⟨p, cap, rfl⟩ := hv.form
    by_cases h2 : rs.length < 2
    · exact dorder_short w aw p rs.length cap _ (by omega) fw
    · obtain ⟨b1, b2, b3⟩ := few_bd hT
      have h60 := (few_spec hT).1
      have hk : A % (rs.length - 1) < rs.length - 1 := Nat.mod_lt _ (by omega)
      have hk1 : A % (rs.length - 1) + 1 < rs.length := by omega
      have m1 : ∀ r ∈ swapL rs (A % (rs.length - 1)) (rs[A % (rs.length - 1)]'(by omega)) rs[A % (rs.length - 1) + 1], r ∈ rs := swapL_mem (List.getElem_mem _) (List.getElem_mem _)
      have ln : (swapL rs (A % (rs.length - 1)) (rs[A % (rs.length - 1)]'(by omega)) rs[A % (rs.length - 1) + 1]).length = rs.length := swapL_len _ _ _ _
      have ek : (A : Int) % ((rs.length : Int) - 1) = ((A % (rs.length - 1) : Nat) : Int) := by
        rw [show (rs.length : Int) - 1 = ((rs.length - 1 : Nat) : Int) by omega]
        exact (Int.natCast_emod _ _).symm
      exact dorder_main w aw p rs.length cap (A : Int) (by omega) (by omega) (by omega) (A % (rs.length - 1)) (by omega) ek rs _ _ _ (List.getElem?_eq_getElem (by omega)) (List.getElem?_eq_getElem hk1) rfl rfl hv
        (readM rs) (readM (swapL rs (A % (rs.length - 1)) (rs[A % (rs.length - 1)]'(by omega)) rs[A % (rs.length - 1) + 1])) (read_fs rs) (fun h => swM hk1 h) fw (rwsC hv b1) (fun v x h => dread_any rs v x h b1 b2 b3) (rrdC L hv b1 b2 b3)
        (fun v x h => rows_any v x _ h (by rw [ln]; exact b1)) (fun v x h => dread_any _ v x h (by rw [ln]; exact b1) (fun r hr => b2 r (m1 r hr)) (fun r hr => b3 r (m1 r hr)))
end Go.Proofs.YtagkgneijdbkoaaDoor
