/-
  Texts that belong together, one behind the other: DsBk0, DsBk1, DsBk, DsBkL. Conditions: as each says.
-/
import Derived.BigQuiet
import Derived.Deep.CutRange
import Derived.Deep.QuietTactic
import Derived.Lib.SliceRun
import Derived.Test.YtagkgneijdbkoaaDoorJb1
import Derived.Test.YtagkgneijdbkoaaDoorJn13
import Derived.Test.YtagkgneijdbkoaaDoorJn37
/-
  Rows of rows of lines that are being made (layer 8). No conditions but those that each says.
-/
namespace Go.Proofs.YtagkgneijdbkoaaDoor
open Go.RowKit
set_option linter.unusedVariables false

theorem info_row8p : (Tryd.prog.info? 50).map (fun i => (i.zero, i.size, i.bytes)) = some (some (.agg #[.int .i64 0, .slice none 0 0]), 2, 32) := by kernel_rfl
theorem info_rws : (Tryd.prog.info? 42).map (fun i => (i.zero, i.size, i.bytes)) = some (some (.slice none 0 0), 1, 24) := by kernel_rfl
/-- rows of two types lie apart -/
theorem own_apart {x : World} {b b' : Nat} {T T' : TypeId} {s s' : Nat} {v v' : Value} {n n' : Nat} {xs xs' : List Value} (h : x.ownsRow b T s v n xs) (h' : x.ownsRow b' T' s' v' n' xs') (hne : T ≠ T') : v.ownBlock = none ∨ v.ownBlock ≠ v'.ownBlock := by
  rcases h.2 with ⟨e, _⟩ | ⟨g, c, cur, e, _, hb, _⟩
  · left; rw [e]; rfl
  · rcases h'.2 with ⟨e', _⟩ | ⟨g', c', cur', e', _, hb', _⟩
    · right; rw [e, e']; simp [Value.ownBlock]
    · right
      rw [e, e']
      intro h
      have h : g = g' := by simpa [Value.ownBlock] using h
      subst h
      rw [hb] at hb'
      injection hb' with hb'
      injection hb' with _ ht _
      exact hne ht
theorem own_below {x y : World} {b : Nat} {T : TypeId} {s : Nat} {v : Value} {n : Nat} {xs : List Value} (h : x.ownsRow b T s v n xs) (hb : Below x.heap.size x y) : y.ownsRow b T s v n xs :=
  own_on h fun g hg => hb.block g (World.ownsRow.lt h g hg).2
structure BkSt (w x : World) (vo : Value) (us : List Value) (cs : List (List Rn)) : Prop where
  len : us.length = cs.length
  ro : x.ownsRow w.heap.size 42 1 vo us.length us
  inn : ∀ i (h : i < us.length) (h' : i < cs.length), x.ownsRow w.heap.size 50 2 us[i] cs[i].length (rnC cs[i])
  dj : ∀ i j (hi : i < us.length) (hj : j < us.length), i ≠ j → us[i].ownBlock = none ∨ us[i].ownBlock ≠ us[j].ownBlock
  b : Below w.heap.size w x
theorem BkSt.first (w : World) : BkSt w w (.slice none 0 0) [] [] :=
  ⟨rfl, World.ownsRow_nil _ _ _ _, fun i h => (by cases h), fun i j h => (by cases h), Below.refl _ _⟩
theorem BkSt.below {w x y : World} {vo : Value} {us : List Value} {cs : List (List Rn)} (h : BkSt w x vo us cs) (hb : Below x.heap.size x y) : BkSt w y vo us cs :=
  ⟨h.len, own_below h.ro hb, fun i h1 h2 => own_below (h.inn i h1 h2) hb, h.dj, h.b.trans (hb.mono h.b.size)⟩
/-- one row more, of none -/
theorem BkSt.push {w x y : World} {vo vo' : Value} {us : List Value} {cs : List (List Rn)} (h : BkSt w x vo us cs) (hown : y.ownsRow w.heap.size 42 1 vo' (us.length + 1) (us ++ [.slice none 0 0])) (hg : x.grownBy y vo.ownBlock) : BkSt w y vo' (us ++ [.slice none 0 0]) (cs ++ [[]]) := by
  refine ⟨by simp [h.len], by rw [List.length_append]; exact hown, fun i h1 h2 => ?_, fun i j hi hj hij => ?_, h.b.grown hg h.b.size (fun k e => (World.ownsRow.lt h.ro k e).1)⟩
  · rw [List.length_append] at h1
    by_cases hi : i < us.length
    · rw [List.getElem_append_left hi, List.getElem_append_left (by rw [← h.len]; exact hi)]
      exact World.ownsRow.kept (h.inn i hi (by rw [← h.len]; exact hi)) hg (own_apart (h.inn i hi (by rw [← h.len]; exact hi)) h.ro (by decide))
    · have e : i = us.length := by simp at h1; omega
      subst e
      have e1 : (us ++ [Value.slice none 0 0])[us.length] = .slice none 0 0 := by simp
      have e2 : (cs ++ [[]])[us.length]'h2 = [] := by simp [h.len]
      rw [e1, e2]
      exact World.ownsRow_nil _ _ _ _
  · by_cases h1 : i < us.length
    · rw [List.getElem_append_left h1]
      by_cases h2 : j < us.length
      · rw [List.getElem_append_left h2]; exact h.dj i j h1 h2 hij
      · have e : j = us.length := by simp at hj; omega
        subst e
        have e1 : (us ++ [Value.slice none 0 0])[us.length] = .slice none 0 0 := by simp
        rw [e1]
        cases hu : us[i].ownBlock with
        | none => exact .inl rfl
        | some g => right; simp [Value.ownBlock]
    · have e : i = us.length := by simp at hi; omega
      subst e
      left
      have e1 : (us ++ [Value.slice none 0 0])[us.length] = .slice none 0 0 := by simp
      rw [e1]; rfl
/-- a line more in the last row -/
theorem BkSt.grow {w x z2 z3 : World} {go n capo : Nat} {us0 : List Value} {u u' : Value} {cs0 : List (List Rn)} {c : List Rn} {f : Rn} (h : BkSt w x (.slice (some ⟨go, 0, none⟩) n capo) (us0 ++ [u]) (cs0 ++ [c])) (hb : Below x.heap.size x z2)
    (hown : z3.ownsRow w.heap.size 50 2 u' (c.length + 1) (rnC c ++ [.int .i64 f.1.1, f.2])) (hg : z2.grownBy z3 u.ownBlock) (hn : u'.ownBlock = u.ownBlock ∨ ∃ g, u'.ownBlock = some g ∧ z2.heap.size ≤ g) :
    BkSt w (z3.setCell ⟨go, us0.length, none⟩ u') (.slice (some ⟨go, 0, none⟩) n capo) (us0 ++ [u']) (cs0 ++ [c ++ [f]]) := by
  have h2 := h.below hb
  have ln : us0.length = cs0.length := by have := h.len; simpa using this
  have nn : n = us0.length + 1 := by
    rcases h.ro.2 with ⟨e, _⟩ | ⟨g, cap, cur, e, _⟩
    · cases e
    · injection e with _ e _; simpa using e
  subst nn
  have eu : (us0 ++ [u])[us0.length]'(by simp) = u := by simp
  have ec : (cs0 ++ [c])[us0.length]'(by simp [ln]) = c := by simp [ln]
  have hu := h2.inn us0.length (by simp) (by simp [ln])
  rw [eu, ec] at hu
  have ro2 := h2.ro
  rw [show (us0 ++ [u]).length = us0.length + 1 by simp] at ro2
  have ro3 := World.ownsRow.kept ro2 hg (own_apart ro2 hu (by decide))
  obtain ⟨ro4, g4⟩ := World.ownsRow.stored ro3 us0.length u'
  have es : (us0 ++ [u]).set us0.length u' = us0 ++ [u'] := by rw [List.set_append_right _ _ (Nat.le_refl _), Nat.sub_self]; rfl
  rw [es] at ro4
  have keep : ∀ {v : Value} {k : Nat} {xs : List Value}, z3.ownsRow w.heap.size 50 2 v k xs → (z3.setCell ⟨go, us0.length, none⟩ u').ownsRow w.heap.size 50 2 v k xs := fun hv => World.ownsRow.kept hv g4 (own_apart hv ro3 (by decide))
  have old : ∀ i (hi : i < us0.length), z3.ownsRow w.heap.size 50 2 us0[i] (cs0[i]'(by omega)).length (rnC (cs0[i]'(by omega))) ∧ (us0[i].ownBlock = none ∨ us0[i].ownBlock ≠ u.ownBlock) := by
    intro i hi
    have k := h2.inn i (by simp; omega) (by simp; omega)
    rw [List.getElem_append_left hi, List.getElem_append_left (by omega)] at k
    have d := h2.dj i us0.length (by simp; omega) (by simp) (by omega)
    rw [List.getElem_append_left hi, eu] at d
    exact ⟨World.ownsRow.kept k hg d, d⟩
  have new : ∀ i (hi : i < us0.length), us0[i].ownBlock = none ∨ us0[i].ownBlock ≠ u'.ownBlock := by
    intro i hi
    have k := h2.inn i (by simp; omega) (by simp; omega)
    rw [List.getElem_append_left hi] at k
    rcases hn with hn | ⟨g, hn, hge⟩
    · rw [hn]; exact (old i hi).2
    · cases hv : us0[i].ownBlock with
      | none => exact .inl rfl
      | some g' =>
        right
        rw [hn]
        intro e
        have e := Option.some.inj e
        have := (World.ownsRow.lt k g' hv).2
        omega
  refine ⟨by simp [ln], by rw [show (us0 ++ [u']).length = us0.length + 1 by simp]; exact ro4, fun i h1 h2' => ?_, fun i j hi hj hij => ?_, ?_⟩
  · by_cases hi : i < us0.length
    · rw [List.getElem_append_left hi, List.getElem_append_left (by omega)]
      exact keep (old i hi).1
    · have e : i = us0.length := by simp at h1; omega
      subst e
      have e1 : (us0 ++ [u'])[us0.length]'h1 = u' := by simp
      have e2 : (cs0 ++ [c ++ [f]])[us0.length]'h2' = c ++ [f] := by simp [ln]
      rw [e1, e2, List.length_append, List.length_singleton, rnC_snoc]
      exact keep hown
  · by_cases h1 : i < us0.length
    · rw [List.getElem_append_left h1]
      by_cases h2 : j < us0.length
      · rw [List.getElem_append_left h2]
        have d := h.dj i j (by simp; omega) (by simp; omega) hij
        rwa [List.getElem_append_left h1, List.getElem_append_left h2] at d
      · have e : j = us0.length := by simp at hj; omega
        subst e
        have e1 : (us0 ++ [u'])[us0.length]'hj = u' := by simp
        rw [e1]; exact new i h1
    · have e : i = us0.length := by simp at hi; omega
      subst e
      have e1 : (us0 ++ [u'])[us0.length]'hi = u' := by simp
      have hj' : j < us0.length := by simp at hj; omega
      rw [e1, List.getElem_append_left hj']
      rcases new j hj' with d | d
      · cases hv : u'.ownBlock with
        | none => exact .inl rfl
        | some g => right; rw [d]; simp
      · exact .inr (Ne.symm d)
  · have b3 := h2.b.grown hg h2.b.size (fun k e => (World.ownsRow.lt hu k e).1)
    have lo := (World.ownsRow.lt ro3 go rfl).1
    exact b3.setCell (p := ⟨go, us0.length, none⟩) lo u'
/-! Clone -/
def ClF (w : World) (ws : List Wd) : Prop := ∀ (y : World) (v' : Value), (w.alloc (.cells #[] 9)).grownBy y (some w.heap.size) → y.ownsRow w.heap.size 9 1 v' (0 + ws.length) ([] ++ strV ws) → ∃ p c, v' = .slice p ws.length c ∧ Below w.heap.size w y
def NwW (z : World) (a : Addr) (l : List Value) : Prop := ∀ j u, l[j]? = some u → z.cell? (a.add j) = some u
def OneV (l : List Value) : Prop := ∀ u ∈ l, u.oneCell' = true
set_option maxRecDepth 100000 in
set_option maxHeartbeats 4000000 in
theorem clone_any (v : Value) (w : World) (ws : List Wd) (hv : WdsAt w.heap.size w v ws) (hl : (ws.length : Int) ≤ 4500) :
    Calls Tryd.prog 22 #[v] w fun e y => ∃ p c, e = .returned (.slice p ws.length c) ∧ Below w.heap.size w y := by
  obtain ⟨i0, hi0, hz0, hz1, hz2⟩ := info_parts info_st
  have fin : ∀ {y : World} {v' : Value}, (w.alloc (.cells #[] 9)).grownBy y (some w.heap.size) → y.ownsRow w.heap.size 9 1 v' (0 + ws.length) ([] ++ strV ws) → ∃ p c, v' = .slice p ws.length c ∧ Below w.heap.size w y := by
    intro y v' hg ho
    rw [Nat.zero_add] at ho
    have ba : Below w.heap.size w (w.alloc (.cells #[] 9)) := (Below.refl _ _).alloc (Nat.le_refl _) _
    have bl := ba.grown hg ba.size (fun k e => by have := Option.some.inj e; omega)
    rcases own_slice ho with ⟨e, e2⟩ | ⟨g, cap, e, _⟩
    · exact ⟨none, 0, by rw [e, e2], bl⟩
    · exact ⟨_, _, e, bl⟩
  have own0 : (w.alloc (.cells #[] 9)).ownsRow w.heap.size 9 1 (.slice (some ⟨w.heap.size, 0, none⟩) 0 0) 0 [] := ⟨rfl, .inr ⟨w.heap.size, 0, #[], rfl, Nat.le_refl _, World.alloc_heap_new w _, Nat.le_refl _, Nat.zero_le _, rfl, rfl⟩⟩
  have hm : 0 + ws.length ≤ maxLen := by unfold maxLen; omega
  have hby : (0 + ws.length) * 16 ≤ 140737488355328 := by omega
  replace fin : Hid (ClF w ws) := fun y v' h1 h2 => fin h1 h2
  have ba : Below w.heap.size w (w.alloc (.cells #[] 9)) := (Below.refl _ _).alloc (Nat.le_refl _) _
  obtain ⟨p, c, rfl⟩ := hv.form
  cases p with
  | none =>
    obtain rfl : ws = [] := by
      rcases hv with ⟨_, _, _, h⟩ | ⟨g, o, cap, e, _⟩
      · exact h
      · injection e with e _ _; cases e
    clear fin own0 hv ba
    have eq0 : ∀ x : World, (binOp .eql 44 (.slice none 0 c) (.slice none 0 0)).run Tryd.prog x = .ok (.bool true) x := fun x => Lib.run_eql_slice_nil x _ _ none 0 c 0 0 Tryd.underlying44
    go_enter Tryd.func22, Tryd.ntmps22
    go_wp2
    go_ret
    exact ⟨none, 0, rfl, Below.refl _ _⟩
  | some a =>
    have news : Hid (NwW (w.alloc (.cells #[] 9)) a (strV ws)) := by
      intro j u hu
      rcases hv with ⟨_, _, _, rfl⟩ | ⟨g, o, cap, e, _, hi, hg⟩
      · cases hu
      · injection e with e _ _
        injection e with e
        subst e
        rw [addr_add]
        have hj : j < ws.length := by have := (List.getElem?_eq_some_iff.1 hu).1; simpa using this
        have k := (ba.cell (p := ⟨g, o + j, none⟩) hg).trans (hi j hj)
        rw [k]
        have e2 : (strV ws)[j]? = some (Value.string (txt ws[j])) := by unfold strV; rw [List.getElem?_map, List.getElem?_eq_getElem hj]; rfl
        rw [hu] at e2
        exact e2.symm
    have one : Hid (OneV (strV ws)) := by
      intro u hu
      unfold strV at hu
      obtain ⟨z, _, rfl⟩ := List.mem_map.1 hu
      rfl
    have ln : Hid ((strV ws).length = ws.length * 1) := by unfold strV Hid; simp
    replace own0 : Hid ((w.alloc (.cells #[] 9)).ownsRow w.heap.size 9 1 (.slice (some ⟨w.heap.size, 0, none⟩) 0 0) 0 []) := own0
    clear hv ba
    obtain ⟨m, hm'⟩ : ∃ m, ws.length = m := ⟨_, rfl⟩
    rw [hm'] at hm hby ln ⊢
    replace hm' : Hid (ws.length = m) := hm'
    clear hl
    have eq0 : ∀ x : World, (binOp .eql 44 (.slice (some a) m c) (.slice none 0 0)).run Tryd.prog x = .ok (.bool false) x := fun x => Lib.run_eql_slice_nil x _ _ (some a) m c 0 0 Tryd.underlying44
    go_enter Tryd.func22, Tryd.ntmps22
    go_wp2_with (at_builtin; refine wpList_append_own_at _ rfl _ _ 44 rfl w.heap.size 9 i0 (.string ⟨#[]⟩) 1 16 Tryd.underlying44 hi0 hz0 hz1 hz2 rfl (by decide) _ 0 [] rfl own0.out a m c (strV ws) rfl ln.out news.out one.out hm hby (by simp) ?_; intro v1 y1 hA gA _ vA; rw [← hm'.out] at hA; obtain ⟨p, c, rfl, hbe⟩ := fin.out y1 v1 gA hA; rw [hm'.out]; replace hbe : Hid (Below w.heap.size w y1) := hbe; clear hA gA vA)
    go_ret
    exact ⟨p, c, rfl, hbe.out⟩
end Go.Proofs.YtagkgneijdbkoaaDoor
/-
  Lines parted by devices, plainly; what the region that hands a line on to its row yields (layer 8). No conditions but those that each says.
-/
namespace Go.Proofs.YtagkgneijdbkoaaDoor
open Go.RowKit
set_option linter.unusedVariables false

/-- a line that begins with device -/
def isDev (r : Lr) : Bool :=
  match r.2 with
  | [] => false
  | f :: _ => decide (f = kDev)
/-- blocks are the lines, parted ahead of each that begins with device -/
structure BkR (rs : List Lr) (bs : List (List Lr)) : Prop where
  flat : bs.flatten = rs
  ne : ∀ b ∈ bs, b ≠ []
  tl : ∀ b ∈ bs, ∀ r ∈ b.tail, isDev r = false
  hd : ∀ b ∈ bs.tail, ∀ r ∈ b.head?, isDev r = true
theorem BkR.nil : BkR [] [] := ⟨rfl, fun b h => (by cases h), fun b h => (by cases h), fun b h => (by cases h)⟩
theorem BkR.new {rs : List Lr} {bs : List (List Lr)} (h : BkR rs bs) {r : Lr} (hr : bs = [] ∨ isDev r = true) : BkR (rs ++ [r]) (bs ++ [ [r] ]) := by
  refine ⟨by rw [List.flatten_append, h.flat]; simp, fun b hb => ?_, fun b hb => ?_, fun b hb => ?_⟩
  · rcases List.mem_append.1 hb with hb | hb
    · exact h.ne b hb
    · rw [List.mem_singleton.1 hb]; simp
  · rcases List.mem_append.1 hb with hb | hb
    · exact h.tl b hb
    · rw [List.mem_singleton.1 hb]; intro q hq; cases hq
  · cases bs with
    | nil => cases hb
    | cons c bs =>
      rcases List.mem_append.1 hb with hb | hb
      · exact h.hd b hb
      · rw [List.mem_singleton.1 hb]
        intro q hq
        have e : r = q := by simpa using hq
        subst e
        exact hr.resolve_left (by simp)
theorem BkR.old {rs : List Lr} {bs : List (List Lr)} {c : List Lr} (h : BkR rs (bs ++ [c])) {r : Lr} (hr : isDev r = false) : BkR (rs ++ [r]) (bs ++ [c ++ [r]]) := by
  have hc : c ≠ [] := h.ne c (by simp)
  refine ⟨by rw [← h.flat]; simp, fun b hb => ?_, fun b hb => ?_, fun b hb => ?_⟩
  · rcases List.mem_append.1 hb with hb | hb
    · exact h.ne b (by simp [hb])
    · rw [List.mem_singleton.1 hb]; simp
  · rcases List.mem_append.1 hb with hb | hb
    · exact h.tl b (by simp [hb])
    · rw [List.mem_singleton.1 hb]
      intro q hq
      rw [List.tail_append_of_ne_nil hc] at hq
      rcases List.mem_append.1 hq with hq | hq
      · exact h.tl c (by simp) q hq
      · rw [List.mem_singleton.1 hq]; exact hr
  · cases bs with
    | nil => cases hb
    | cons d bs =>
      rcases List.mem_append.1 hb with hb | hb
      · exact h.hd b (by simp [hb])
      · rw [List.mem_singleton.1 hb]
        intro q hq
        have e : (c ++ [r]).head? = c.head? := by
          cases c with
          | nil => exact absurd rfl hc
          | cons a c => rfl
        rw [e] at hq
        exact h.hd c (by simp) q hq
abbrev outR (cs : List (List Rn)) : List (List Lr) := cs.map fun c => c.map (·.1)
theorem BkR.some {rs : List Lr} {cs : List (List Rn)} (h : BkR rs (outR cs)) (hr : rs ≠ []) : cs ≠ [] := by
  intro e
  subst e
  exact hr h.flat.symm
/-- what is chosen on the way: Clone's slice, the block of the one line, the row -/
structure BkG where
  p : Option Addr
  c : Nat
  b : Nat
  g : Nat
  cap : Nat
def bkV (go K capo N rb : Nat) (u : Value) (ln : Int) (pu : Option Addr) (m cu n : Nat) (γ : BkG) : Nat → Value
  | 0 => .slice (some ⟨go, 0, none⟩) N capo
  | 1 => .int .i64 (K : Int)
  | 2 => .slice (some ⟨go, 0, none⟩) N capo
  | 3 => .int .i64 (K : Int)
  | 4 => .pointer (some ⟨go, K, none⟩)
  | 5 => u
  | 6 => .pointer (some ⟨rb, 0, none⟩)
  | 7 => .int .i64 ln
  | 8 => .pointer (some ⟨rb, 1, none⟩)
  | 9 => .slice pu m cu
  | 10 => .slice γ.p m γ.c
  | 11 => .agg #[.int .i64 ln, .slice γ.p m γ.c]
  | 12 => .slice (some ⟨γ.b, 0, none⟩) 1 1
  | 13 => .slice (some ⟨γ.g, 0, none⟩) (n + 1) γ.cap
  | 14 => .pointer (some ⟨go, K, none⟩)
  | _ => undef
def BkP (go K capo N rb : Nat) (u : Value) (ln : Int) (pu : Option Addr) (m cu n : Nat) (γ : BkG) (i : Nat) (v : Value) : Prop := v = bkV go K capo N rb u ln pu m cu n γ i
theorem bkV_pc {go K capo N rb : Nat} {u : Value} {ln : Int} {pu : Option Addr} {m cu n : Nat} {γ : BkG} {p : Option Addr} {c : Nat} {j : Nat} (h1 : j ≠ 10) (h2 : j ≠ 11) : bkV go K capo N rb u ln pu m cu n γ j = bkV go K capo N rb u ln pu m cu n ⟨p, c, γ.b, γ.g, γ.cap⟩ j := by
  unfold bkV
  split <;> first | rfl | (exact absurd rfl h1) | (exact absurd rfl h2)
theorem bkV_b {go K capo N rb : Nat} {u : Value} {ln : Int} {pu : Option Addr} {m cu n : Nat} {γ : BkG} {b : Nat} {j : Nat} (h1 : j ≠ 12) : bkV go K capo N rb u ln pu m cu n γ j = bkV go K capo N rb u ln pu m cu n ⟨γ.p, γ.c, b, γ.g, γ.cap⟩ j := by
  unfold bkV
  split <;> first | rfl | (exact absurd rfl h1)
theorem bkV_g {go K capo N rb : Nat} {u : Value} {ln : Int} {pu : Option Addr} {m cu n : Nat} {γ : BkG} {g cap : Nat} {j : Nat} (h1 : j ≠ 13) : bkV go K capo N rb u ln pu m cu n γ j = bkV go K capo N rb u ln pu m cu n ⟨γ.p, γ.c, γ.b, g, cap⟩ j := by
  unfold bkV
  split <;> first | rfl | (exact absurd rfl h1)
/-- behind the append -/
structure BkA (w wq : World) (u : Value) (c : List Rn) (ln : Int) (m : Nat) (γ : BkG) (z3 : World) : Prop where
  z : ∃ z2, Below wq.heap.size wq z2 ∧ z2.grownBy z3 u.ownBlock ∧ (u.ownBlock = some γ.g ∨ z2.heap.size ≤ γ.g)
  own : z3.ownsRow w.heap.size 50 2 (.slice (some ⟨γ.g, 0, none⟩) (c.length + 1) γ.cap) (c.length + 1) (rnC c ++ [.int .i64 ln, .slice γ.p m γ.c])
structure BkW (w wq : World) (go K : Nat) (u : Value) (c : List Rn) (ln : Int) (m : Nat) (γ : BkG) (x : Array Bool) (z : World) : Prop where
  a : x.getD 13 false = false → Below wq.heap.size wq z
  bl : x.getD 12 false = true → x.getD 13 false = false → z.heap[γ.b]? = some (.cells #[.int .i64 ln, .slice γ.p m γ.c] 50 (0, 0))
  ap : x.getD 13 false = true → ∃ z3, BkA w wq u c ln m γ z3 ∧ (x.getD 15 false = false → z = z3) ∧ (x.getD 15 false = true → z = z3.setCell ⟨go, K, none⟩ (.slice (some ⟨γ.g, 0, none⟩) (c.length + 1) γ.cap))
theorem BkW.other {w wq : World} {go K : Nat} {u : Value} {c : List Rn} {ln : Int} {m : Nat} {γ : BkG} {x : Array Bool} {z : World} (h : BkW w wq go K u c ln m γ x z) {i : Nat} (h12 : i ≠ 12) (h13 : i ≠ 13) (h15 : i ≠ 15) : BkW w wq go K u c ln m γ (x.setIfInBounds i true) z := by
  refine ⟨?_, ?_, ?_⟩
  · rw [getD_set_ne false h13]; exact h.a
  · rw [getD_set_ne false h12, getD_set_ne false h13]; exact h.bl
  · rw [getD_set_ne false h13, getD_set_ne false h15]; exact h.ap
theorem no_bit {x : Array Bool} {i j : Nat} (hi : x.getD i false = false) (h : x.getD j false = true → x.getD i false = true) : x.getD j false = false := by
  cases e : x.getD j false with
  | false => rfl
  | true => rw [h e] at hi; cases hi
/-- behind the call -/
theorem BkW.call {w wq : World} {go K : Nat} {u : Value} {c : List Rn} {ln : Int} {m : Nat} {γ : BkG} {x : Array Bool} {z z' : World} (h : BkW w wq go K u c ln m γ x z) (h12 : x.getD 12 false = false) (h13 : x.getD 13 false = false) (hb : Below z.heap.size z z') (p : Option Addr) (cc : Nat) : BkW w wq go K u c ln m ⟨p, cc, γ.b, γ.g, γ.cap⟩ (x.setIfInBounds 10 true) z' := by
  refine ⟨fun _ => ?_, ?_, ?_⟩
  · have k := h.a h13; exact k.trans (hb.mono k.size)
  · rw [getD_set_ne false (by decide), h12]; intro e; cases e
  · rw [getD_set_ne false (by decide), h13]; intro e; cases e
/-- behind the one line's block -/
theorem BkW.block {w wq : World} {go K : Nat} {u : Value} {c : List Rn} {ln : Int} {m : Nat} {γ : BkG} {x : Array Bool} {z : World} (h : BkW w wq go K u c ln m γ x z) (h13 : x.getD 13 false = false) : BkW w wq go K u c ln m ⟨γ.p, γ.c, z.heap.size, γ.g, γ.cap⟩ (x.setIfInBounds 12 true) (z.alloc (.cells #[.int .i64 ln, .slice γ.p m γ.c] 50)) := by
  refine ⟨fun _ => ?_, fun _ _ => World.alloc_heap_new z _, ?_⟩
  · have k := h.a h13; exact k.alloc k.size _
  · rw [getD_set_ne false (by decide), h13]; intro e; cases e
/-- behind the append -/
theorem BkW.appd {w wq : World} {go K : Nat} {u : Value} {c : List Rn} {ln : Int} {m : Nat} {γ : BkG} {x : Array Bool} {z z' : World} (h : BkW w wq go K u c ln m γ x z) (h13 : x.getD 13 false = false) (h15 : x.getD 15 false = false) (hs : 13 < x.size) {g cap : Nat} (hg : z.grownBy z' u.ownBlock) (hat : u.ownBlock = some g ∨ g = z.heap.size)
    (ho : z'.ownsRow w.heap.size 50 2 (.slice (some ⟨g, 0, none⟩) (c.length + 1) cap) (c.length + 1) (rnC c ++ [.int .i64 ln, .slice γ.p m γ.c])) : BkW w wq go K u c ln m ⟨γ.p, γ.c, γ.b, g, cap⟩ (x.setIfInBounds 13 true) z' := by
  refine ⟨?_, ?_, fun _ => ⟨z', ⟨⟨z, h.a h13, hg, hat.imp id (fun e => by rw [e]; exact Nat.le_refl _)⟩, ho⟩, fun _ => rfl, ?_⟩⟩
  · rw [getD_set_at hs]; intro e; cases e
  · rw [getD_set_at hs]; intro _ e; cases e
  · rw [getD_set_ne false (by decide), h15]; intro e; cases e
/-- behind the store -/
theorem BkW.put {w wq : World} {go K : Nat} {u : Value} {c : List Rn} {ln : Int} {m : Nat} {γ : BkG} {x : Array Bool} {z : World} (h : BkW w wq go K u c ln m γ x z) (h13 : x.getD 13 false = true) (h15 : x.getD 15 false = false) (hs : 15 < x.size) : BkW w wq go K u c ln m γ (x.setIfInBounds 15 true) (z.setCell ⟨go, K, none⟩ (.slice (some ⟨γ.g, 0, none⟩) (c.length + 1) γ.cap)) := by
  obtain ⟨z3, h1, h2, _⟩ := h.ap h13
  refine ⟨?_, ?_, fun _ => ⟨z3, h1, ?_, fun _ => by rw [h2 h15]⟩⟩
  · rw [getD_set_ne false (by decide), h13]; intro e; cases e
  · rw [getD_set_ne false (by decide), getD_set_ne false (by decide), h13]; intro _ e; cases e
  · rw [getD_set_at hs]; intro e; cases e
/-- the state behind the region -/
theorem BkW.fin {w wq : World} {go K N capo : Nat} {us0 : List Value} {u : Value} {cs0 : List (List Rn)} {c : List Rn} {ln : Int} {ws : List Wd} {m : Nat} {γ : BkG} {x : Array Bool} {z : World} (h : BkW w wq go K u c ln m γ x z) (h13 : x.getD 13 false = true) (h15 : x.getD 15 false = true) (hK : us0.length = K)
    (st : BkSt w wq (.slice (some ⟨go, 0, none⟩) N capo) (us0 ++ [u]) (cs0 ++ [c])) : BkSt w z (.slice (some ⟨go, 0, none⟩) N capo) (us0 ++ [.slice (some ⟨γ.g, 0, none⟩) (c.length + 1) γ.cap]) (cs0 ++ [c ++ [((ln, ws), .slice γ.p m γ.c)]]) := by
  obtain ⟨z3, h1, _, h2⟩ := h.ap h13
  obtain ⟨z2, hb, hg, hat⟩ := h1.z
  rw [h2 h15]
  subst hK
  exact BkSt.grow (f := ((ln, ws), .slice γ.p m γ.c)) st hb h1.own hg (hat.imp (fun e => e.symm) (fun e => ⟨γ.g, rfl, e⟩))
end Go.Proofs.YtagkgneijdbkoaaDoor
/-
  What the program's own Blocks returns of any lines (layer 8). Conditions: the lines lie in memory that was there; at most 4500, of at most 4500 words each.
-/
namespace Go.Proofs.YtagkgneijdbkoaaDoor
open Go.RowKit
set_option linter.unusedVariables false

/-- what lay there lies there -/
theorem kpB {wq z : World} {a : Addr} {v : Value} (h : Below wq.heap.size wq z) (hc : wq.cell? a = some v) : z.cell? a = some v := (h.cell (p := a) (block_lt_of_cell hc)).trans hc
/-- the outer row behind the append -/
theorem BkA.ro {w wq : World} {u : Value} {c : List Rn} {ln : Int} {m : Nat} {γ : BkG} {z3 : World} (h : BkA w wq u c ln m γ z3) {go K N capo : Nat} {us0 : List Value} {cs0 : List (List Rn)} (st : BkSt w wq (.slice (some ⟨go, 0, none⟩) N capo) (us0 ++ [u]) (cs0 ++ [c])) (hK : us0.length = K) :
    z3.cell? ⟨go, K, none⟩ = some u ∧ z3.frozen? ⟨go, K, none⟩ = false := by
  obtain ⟨z2, hb, hg, _⟩ := h.z
  have s2 := st.below hb
  have hu := s2.inn us0.length (by simp) (by have := s2.len; simp at this; simp; omega)
  have e1 : (us0 ++ [u])[us0.length]'(by simp) = u := by simp
  rw [e1] at hu
  have nn : N = us0.length + 1 := by
    rcases st.ro.2 with ⟨e, _⟩ | ⟨g, cap, cur, e, _⟩
    · cases e
    · injection e with _ e _; simpa using e
  have ro3 := World.ownsRow.kept s2.ro hg (own_apart s2.ro hu (by decide))
  rw [show (us0 ++ [u]).length = us0.length + 1 by simp] at ro3
  subst nn
  subst hK
  refine ⟨?_, World.ownsRow.frozenAt ro3 _⟩
  rw [World.ownsRow.cellAt ro3 _ (by omega)]
  simp
def ClnC (wq : World) (v : Value) (m : Nat) : Prop := ∀ x, Below wq.heap.size wq x → Calls Tryd.prog 22 #[v] x fun e y => ∃ p c, e = .returned (.slice p m c) ∧ Below x.heap.size x y
theorem clnC {wq : World} {v : Value} {ws : List Wd} {L0 : Nat} (hv : WdsAt L0 wq v ws) (hl : (ws.length : Int) ≤ 4500) (h0 : L0 ≤ wq.heap.size) {m : Nat} (hm : ws.length = m) : ClnC wq v m := fun x hb => by
  subst hm
  exact clone_any v x ws (((hv.up h0).below hb).up hb.size) hl
def WdR (cs : List (List Rn)) : Prop := ∀ c ∈ cs, ∀ f ∈ c, ∃ p cc, f.2 = .slice p f.1.2.length cc
structure BkRW (rs : List Lr) (cs : List (List Rn)) : Prop where
  r : BkR rs (outR cs)
  w : WdR cs
def NxR (rs : List Lr) (k m : Nat) (cs0 : List (List Rn)) (c : List Rn) (r : Lr) : Prop := ∀ p cc, BkRW (rs.take (k + 1)) (cs0 ++ [c ++ [(r, .slice p m cc)]])
theorem wd_more {cs0 : List (List Rn)} {c : List Rn} {f : Rn} (h0 : WdR cs0) (hc : ∀ f ∈ c, ∃ p cc, f.2 = .slice p f.1.2.length cc) (hf : ∃ p cc, f.2 = .slice p f.1.2.length cc) : WdR (cs0 ++ [c ++ [f]]) := by
  intro d hd q hq
  rcases List.mem_append.1 hd with hd | hd
  · exact h0 d hd q hq
  · rw [List.mem_singleton.1 hd] at hq
    rcases List.mem_append.1 hq with hq | hq
    · exact hc q hq
    · rw [List.mem_singleton.1 hq]; exact hf
theorem nx_new {rs : List Lr} {k m : Nat} {cs : List (List Rn)} {r : Lr} (h : BkRW (rs.take k) cs) (hr : rs[k]? = some r) (hn : cs = [] ∨ isDev r = true) (hm : r.2.length = m) : NxR rs k m cs [] r := fun p cc => by
  refine ⟨?_, wd_more h.w (fun f hf => by cases hf) ⟨p, cc, by rw [hm]⟩⟩
  rw [List.take_add_one, hr]
  have e : outR (cs ++ [ [] ++ [(r, .slice p m cc)] ]) = outR cs ++ [ [r] ] := by unfold outR; simp
  rw [e]
  exact h.r.new (hn.imp (fun e => by rw [e]; rfl) id)
theorem nx_old {rs : List Lr} {k m : Nat} {cs0 : List (List Rn)} {c : List Rn} {r : Lr} (h : BkRW (rs.take k) (cs0 ++ [c])) (hr : rs[k]? = some r) (hn : isDev r = false) (hm : r.2.length = m) : NxR rs k m cs0 c r := fun p cc => by
  refine ⟨?_, wd_more (fun d hd => h.w d (by simp [hd])) (fun f hf => h.w c (by simp) f hf) ⟨p, cc, by rw [hm]⟩⟩
  have h := h.r
  rw [List.take_add_one, hr]
  have e : outR (cs0 ++ [c ++ [(r, .slice p m cc)] ]) = outR cs0 ++ [c.map (·.1) ++ [r] ] := by unfold outR; simp
  have e2 : outR (cs0 ++ [c]) = outR cs0 ++ [c.map (·.1)] := by unfold outR; simp
  rw [e2] at h
  rw [e]
  exact h.old hn
/-- how many there are -/
theorem BkR.cnt {rs : List Lr} {cs : List (List Rn)} (h : BkR rs (outR cs)) : cs.length ≤ rs.length ∧ ∀ c ∈ cs, c.length ≤ rs.length := by
  have e : (outR cs).flatten.length = rs.length := by rw [h.flat]
  have ne : ∀ c ∈ cs, c ≠ [] := fun c hc e => h.ne (c.map (·.1)) (List.mem_map.2 ⟨c, hc, rfl⟩) (by rw [e]; rfl)
  clear h
  induction cs generalizing rs with
  | nil => exact ⟨Nat.zero_le _, fun c hc => by cases hc⟩
  | cons d cs ih =>
    have e1 : (outR (d :: cs)).flatten = d.map (·.1) ++ (outR cs).flatten := rfl
    rw [e1, List.length_append, List.length_map] at e
    have k := ih (rs := (outR cs).flatten) rfl (fun c hc => ne c (by simp [hc]))
    have hd : 0 < d.length := List.length_pos_iff.2 (ne d (by simp))
    refine ⟨by rw [List.length_cons]; omega, fun c hc => ?_⟩
    rcases List.mem_cons.1 hc with rfl | hc
    · omega
    · have := k.2 c hc; omega

theorem gd_no {x : Array Bool} {j : Nat} (h : x.getD j false = false) (h' : x[j]?.getD false = true) : False := by
  rw [Array.getD_eq_getD_getElem?, h'] at h; cases h
theorem BkR.none' {cs : List (List Rn)} (h : BkR [] (outR cs)) : cs = [] := by
  cases cs with
  | nil => rfl
  | cons c cs =>
    exfalso
    have e := h.flat
    have e1 : (outR (c :: cs)).flatten = c.map (·.1) ++ (outR cs).flatten := rfl
    rw [e1] at e
    exact h.ne (c.map (·.1)) (by simp [outR]) (List.append_eq_nil_iff.1 e).1
theorem wds_on {w x y : World} {v : Value} {ws : List Wd} (h : WdsAt w.heap.size x v ws) (hx : Below w.heap.size w x) (hy : Below w.heap.size w y) : WdsAt w.heap.size y v ws := by
  rcases h with h | ⟨g, o, cap, h1, h2, h3, h4⟩
  · exact .inl h
  · exact .inr ⟨g, o, cap, h1, h2, fun j hj => (hy.cell (p := ⟨g, o + j, none⟩) h4).trans ((hx.cell (p := ⟨g, o + j, none⟩) h4).symm.trans (h3 j hj)), h4⟩
theorem WdsAt.cons2' {L0 : Nat} {x : World} {v : Value} {z : Wd} {ws : List Wd} (h : WdsAt L0 x v (z :: ws)) : ∃ g o cap, v = .slice (some ⟨g, o, none⟩) (ws.length + 1) cap ∧ StrsIn x g o (z :: ws) ∧ g < L0 := by
  obtain ⟨g, o, cap, h1, h2, h3, _⟩ := h.cons
  exact ⟨g, o, cap, h1, h2, h3⟩
/-- the last row's cell, and what lies in it -/
theorem BkSt.cell {w x : World} {go N capo K : Nat} {us0 : List Value} {u : Value} {cs0 : List (List Rn)} {c : List Rn} (st : BkSt w x (.slice (some ⟨go, 0, none⟩) N capo) (us0 ++ [u]) (cs0 ++ [c])) (hK : us0.length = K) : x.cell? ⟨go, K, none⟩ = some u := by
  have nn : N = us0.length + 1 := by
    rcases st.ro.2 with ⟨e, _⟩ | ⟨g, cap, cur, e, _⟩
    · cases e
    · injection e with _ e _; simpa using e
  have ro := st.ro
  rw [show (us0 ++ [u]).length = us0.length + 1 by simp] at ro
  subst nn
  subst hK
  rw [World.ownsRow.cellAt ro _ (by omega)]
  simp
theorem BkSt.last {w x : World} {vo : Value} {us0 : List Value} {u : Value} {cs0 : List (List Rn)} {c : List Rn} (st : BkSt w x vo (us0 ++ [u]) (cs0 ++ [c])) : x.ownsRow w.heap.size 50 2 u c.length (rnC c) := by
  have ln : us0.length = cs0.length := by have := st.len; simpa using this
  have h := st.inn us0.length (by simp) (by simp [ln])
  have e1 : (us0 ++ [u])[us0.length]'(by simp) = u := by simp
  have e2 : (cs0 ++ [c])[us0.length]'(by simp [ln]) = c := by simp [ln]
  rwa [e1, e2] at h
/-- with the line's own box -/
structure BkQ (w wq : World) (rb : Nat) (ln : Int) (pw vo : Value) (us : List Value) (cs : List (List Rn)) : Prop where
  st : BkSt w wq vo us cs
  cL : wq.cell? ⟨rb, 0, none⟩ = some (.int .i64 ln)
  cW : wq.cell? ⟨rb, 1, none⟩ = some pw
theorem BkQ.of {w wr : World} {vo : Value} {us : List Value} {cs : List (List Rn)} (h : BkSt w wr vo us cs) (ln : Int) (pw : Value) : BkQ w (wr.alloc (.cells #[.int .i64 ln, pw] 50)) wr.heap.size ln pw vo us cs :=
  ⟨h.below ((Below.refl _ _).alloc (Nat.le_refl _) _), by simp, by simp⟩
theorem BkQ.push {w wx y : World} {rb : Nat} {ln : Int} {pw vo vo' : Value} {us : List Value} {cs : List (List Rn)} {o : Obj} (h : BkQ w wx rb ln pw vo us cs) (hne : vo.ownBlock ≠ some rb) (hown : y.ownsRow w.heap.size 42 1 vo' (us.length + 1) (us ++ [.slice none 0 0])) (hg : (wx.alloc o).grownBy y vo.ownBlock) :
    BkQ w y rb ln pw vo' (us ++ [.slice none 0 0]) (cs ++ [ [] ]) := by
  have ba : Below wx.heap.size wx (wx.alloc o) := (Below.refl _ _).alloc (Nat.le_refl _) _
  refine ⟨(h.st.below ba).push hown hg, ?_, ?_⟩
  · exact hg.cell (kpB ba h.cL) (fun e => hne e.symm)
  · exact hg.cell (kpB ba h.cW) (fun e => hne e.symm)

set_option maxRecDepth 100000 in
set_option maxHeartbeats 16000000 in
theorem blocks_any (v : Value) (w : World) (rs : List Lr) (hv : RowsC w.heap.size w v rs) (hn : (rs.length : Int) ≤ 4500) (hwl : ∀ r ∈ rs, (r.2.length : Int) ≤ 4500) :
    Calls Tryd.prog 15 #[v] w fun e y => ∃ v' us cs, e = .returned v' ∧ BkSt w y v' us cs ∧ BkRW rs cs := by
  obtain ⟨i0, hi0, hz0, hz1, hz2⟩ := info_parts info_rws
  obtain ⟨r0, hri, hr0, hr1, hr2⟩ := info_parts info_row8p
  obtain ⟨p, cap, rfl⟩ := hv.form
  obtain ⟨len, hlen⟩ : ∃ len, rs.length = len := ⟨_, rfl⟩
  rw [hlen] at hn hv ⊢
  replace hlen : Hid (rs.length = len) := hlen
  replace hv : Hid (RowsC w.heap.size w (.slice p len cap) rs) := hv
  replace hwl : Hid (∀ r ∈ rs, (r.2.length : Int) ≤ 4500) := hwl
  go_enter Tryd.func15, Tryd.ntmps15
  go_wp2
  go_loopw [3, 4, 5, 6, 9] (fun vb vi vr vl vk wr => ∃ (k : Nat) (us : List Value) (cs : List (List Rn)), (k : Int) ≤ (len : Int) ∧ vk = .int .i64 (k : Int) ∧ Hid (BkSt w wr vb us cs) ∧ Hid (BkRW (rs.take k) cs)) (fun vb vi vr vl vk wr => len - (intOf vk).toNat)
  case atStart => exact ⟨0, [], [], by omega, rfl, BkSt.first _, ⟨BkR.nil, fun c h => (by cases h)⟩⟩
  case round =>
    obtain ⟨k, us, cs, hk, rfl, st, lf⟩ := hrel
    by_cases hlt : k < len
    · have hki : (k : Int) < (len : Int) := by omega
      have hkr : k < rs.length := by have := hlen.out; omega
      obtain ⟨g, o, pu, cu, rfl, hg, c0, c1, hw⟩ := hv.out.at hlen.out st.out.b hlt
      have hrk : rs[k]? = some (rs[k]'hkr) := List.getElem?_eq_getElem hkr
      have hl := hwl.out _ (List.getElem_mem hkr)
      generalize (rs[k]'hkr) = r at *
      obtain ⟨ln, ws⟩ := r
      simp only at c0 c1 hw hl
      replace hrk : Hid (rs[k]? = some (ln, ws)) := hrk
      obtain ⟨m, hm⟩ : ∃ m, ws.length = m := ⟨_, rfl⟩
      rw [hm] at c1 hw hl
      replace hm : Hid (ws.length = m) := hm
      have cnt := BkR.cnt lf.out.r
      have ctl : (rs.take k).length ≤ 4500 := by rw [List.length_take]; omega
      have cl1 : Hid (us.length ≤ 4500) := by have := st.out.len; have := cnt.1; unfold Hid; omega
      have cl2 : Hid (∀ c ∈ cs, c.length ≤ 4500) := fun c hc => by have := cnt.2 c hc; omega
      have q : Hid (BkQ w (wr.alloc (.cells #[.int .i64 ln, .slice pu m cu] 50)) wr.heap.size ln (.slice pu m cu) u3 us cs) := BkQ.of st.out ln _
      have hne : Hid (u3.ownBlock ≠ some wr.heap.size) := fun e => by have := (World.ownsRow.lt st.out.ro _ e).2; omega
      have bx : Below wr.heap.size wr (wr.alloc (.cells #[.int .i64 ln, .slice pu m cu] 50)) := (Below.refl _ _).alloc (Nat.le_refl _) _
      have hwx : Hid (WdsAt w.heap.size (wr.alloc (.cells #[.int .i64 ln, .slice pu m cu] 50)) (.slice pu m cu) ws) := hw.below (bx.mono st.out.b.size)
      have wk : IntKind.i64.wrap ((k : Int) + 1) = (k : Int) + 1 := by simp only [IntKind.wrap_i64]; omega
      clear cnt ctl hw bx st hkr
      go_upto_region 5 with fail
      change Code.wp Tryd.prog _ _ _ (wr.alloc (.cells #[.int .i64 ln, .slice pu m cu] 50))
      generalize wr.alloc (.cells #[.int .i64 ln, .slice pu m cu] 50) = wx at *
      generalize wr.heap.size = rb at *
      clear c0 c1
      have bL := q.out.cL
      have bW := q.out.cW
      by_cases hk0 : k = 0
      · have hk0i : ((k : Int) == 0) = true := beq_iff_eq.2 (by omega)
        have hcs : Hid (cs = [] ∨ isDev (ln, ws) = true) := .inl (BkR.none' (by have h := lf.out.r; rwa [hk0, List.take_zero] at h))
        clear hk0
        have nx : Hid (NxR rs k m cs [] (ln, ws)) := nx_new lf.out hrk.out hcs.out hm.out
        have us63 : us.length + 1 ≤ maxLen := by have := cl1.out; unfold maxLen; omega
        have usby : (us.length + 1) * 24 ≤ 140737488355328 := by have := cl1.out; omega
        have wxs : Hid (w.heap.size ≤ wx.heap.size) := q.out.st.b.size
        have own1 : Hid ((wx.alloc (.cells #[.slice none 0 0] 42)).ownsRow w.heap.size 42 1 u3 us.length us) := World.ownsRow.alloc q.out.st.ro _
        clear lf hrk hcs cl2
        go_upto_region 7 with (at_builtin; refine wpList_append_lies _ rfl _ _ 48 rfl w.heap.size 42 i0 (.slice none 0 0) 1 24 Tryd.underlying48 hi0 hz0 hz1 hz2 rfl (by decide) _ us.length us rfl own1.out ⟨wx.heap.size, 0, none⟩ 1 1 [.slice none 0 0] rfl rfl (cell_one_new _ _ _) (by simp [Value.oneCell']) (by decide) us63 usby (by have := wxs.out; simp; omega) (wx.heap.size + 1) (by simp) ?_; intro go capo wq hO gO hat hlt2; have qq : Hid (BkQ w wq rb ln (.slice pu m cu) (.slice (some ⟨go, 0, none⟩) (us.length + 1) capo) (us ++ [.slice none 0 0]) (cs ++ [ [] ])) := BkQ.push q.out hne.out hO gO; clear hO gO hat hlt2)
        clear own1 us63 usby wxs bL bW
        have hwq : Hid (WdsAt w.heap.size wq (.slice pu m cu) ws) := wds_on hwx.out q.out.st.b qq.out.st.b
        clear q hwx
        obtain ⟨us0, hus0⟩ : ∃ us0, us = us0 := ⟨_, rfl⟩
        obtain ⟨cs0, hcs0⟩ : ∃ cs0, cs = cs0 := ⟨_, rfl⟩
        rw [hus0] at qq cl1 ⊢
        rw [hcs0] at qq nx
        clear hus0 hcs0 us cs
        obtain ⟨u, hu⟩ : ∃ u : Value, u = .slice none 0 0 := ⟨_, rfl⟩
        obtain ⟨c, hc⟩ : ∃ c : List Rn, c = [] := ⟨_, rfl⟩
        rw [← hu, ← hc] at qq
        rw [← hc] at nx
        have kL : (c.length : Int) ≤ 4500 := by rw [hc]; simp
        clear hu hc
        obtain ⟨K, hK⟩ : ∃ K, us0.length = K := ⟨_, rfl⟩
        obtain ⟨N, hN⟩ : ∃ N, K + 1 = N := ⟨_, rfl⟩
        rw [hK] at cl1
        rw [hK, hN] at qq ⊢
        obtain ⟨stq, cL, cW⟩ := qq.out
        have cO : Hid (wq.cell? ⟨go, K, none⟩ = some u) := stq.cell hK
        have uo : Hid (wq.ownsRow w.heap.size 50 2 u c.length (rnC c)) := stq.last
        have cln : Hid (ClnC wq (.slice pu m cu) m) := clnC hwq.out (by rw [hm.out]; exact hl) stq.b.size hm.out
        have wqs : Hid (w.heap.size ≤ wq.heap.size) := stq.b.size
        replace stq : Hid (BkSt w wq (.slice (some ⟨go, 0, none⟩) N capo) (us0 ++ [u]) (cs0 ++ [c])) := stq
        replace cL : Hid (wq.cell? ⟨rb, 0, none⟩ = some (.int .i64 ln)) := cL
        replace cW : Hid (wq.cell? ⟨rb, 1, none⟩ = some (.slice pu m cu)) := cW
        have Kl : (K : Int) < (N : Int) := by omega
        have wN : IntKind.i64.wrap ((N : Int) - 1) = (K : Int) := by have := cl1.out; simp only [IntKind.wrap_i64]; omega
        replace hK : Hid (us0.length = K) := hK
        clear hN qq hwq cl1 hne hl hm
        go_upto_region 8 with fail
        refine region_props4 (fun γ i v => BkP go K capo N rb u ln pu m cu c.length γ i v) (BkW w wq go K u c ln m) ⟨none, 0, 0, 0, 0⟩ (by kernel_rfl) (by kernel_rfl) ?_ ?_ ⟨fun _ => Below.drew (Below.refl _ _), fun h => (by cases h), fun h => (by cases h)⟩
        · intro γ x a z i op ho hI haf hcl hx hxi hW
          have hi : i < 16 := (List.getElem?_eq_some_iff.1 ho).1
          have xi := getD_false hxi
          match i, hi with
          | 0, _ =>
            obtain rfl := Option.some.inj (show some _ = some op from ho)
            have e1 : a.tmps.getD 3 undef = .slice (some ⟨go, 0, none⟩) N capo := (hI.was (by kernel_rfl)).trans rfl
            go_simp
            exact ⟨_, rfl, γ, rfl, fun j v _ h => h, hW.other (by decide) (by decide) (by decide)⟩
          | 1, _ =>
            obtain rfl := Option.some.inj (show some _ = some op from ho)
            have e1 : a.tmps.getD 6 undef = .int .i64 (K : Int) := (hI.was (by kernel_rfl)).trans rfl
            go_simp
            exact ⟨_, rfl, γ, rfl, fun j v _ h => h, hW.other (by decide) (by decide) (by decide)⟩
          | 2, _ =>
            obtain rfl := Option.some.inj (show some _ = some op from ho)
            have e1 : a.tmps.getD 3 undef = .slice (some ⟨go, 0, none⟩) N capo := (hI.was (by kernel_rfl)).trans rfl
            go_simp
            exact ⟨_, rfl, γ, rfl, fun j v _ h => h, hW.other (by decide) (by decide) (by decide)⟩
          | 3, _ =>
            obtain rfl := Option.some.inj (show some _ = some op from ho)
            have e1 : a.tmps.getD 6 undef = .int .i64 (K : Int) := (hI.was (by kernel_rfl)).trans rfl
            go_simp
            exact ⟨_, rfl, γ, rfl, fun j v _ h => h, hW.other (by decide) (by decide) (by decide)⟩
          | 4, _ =>
            obtain rfl := Option.some.inj (show some _ = some op from ho)
            have e1 : a.tmps.getD 37 undef = .slice (some ⟨go, 0, none⟩) N capo := Eq.trans (hI.val 2 _ 37 rfl rfl (dep_at haf (by kernel_rfl))) rfl
            have e2 : a.tmps.getD 38 undef = .int .i64 (K : Int) := Eq.trans (hI.val 3 _ 38 rfl rfl (dep_at haf (by kernel_rfl))) rfl
            go_simp
            exact ⟨_, rfl, γ, rfl, fun j v _ h => h, hW.other (by decide) (by decide) (by decide)⟩
          | 5, _ =>
            obtain rfl := Option.some.inj (show some _ = some op from ho)
            have e1 : a.tmps.getD 39 undef = .pointer (some ⟨go, K, none⟩) := Eq.trans (hI.val 4 _ 39 rfl rfl (dep_at haf (by kernel_rfl))) rfl
            have x13 : x.getD 13 false = false := no_bit xi fun h => hcl.at (j := 13) rfl (k := 5) (by kernel_rfl) h
            have m0 := kpB (hW.a x13) cO.out
            go_simp
            exact ⟨_, rfl, γ, rfl, fun j v _ h => h, hW.other (by decide) (by decide) (by decide)⟩
          | 6, _ =>
            obtain rfl := Option.some.inj (show some _ = some op from ho)
            have e1 : a.tmps.getD 5 undef = .pointer (some ⟨rb, 0, none⟩) := (hI.was (by kernel_rfl)).trans rfl
            go_simp
            exact ⟨_, rfl, γ, rfl, fun j v _ h => h, hW.other (by decide) (by decide) (by decide)⟩
          | 7, _ =>
            obtain rfl := Option.some.inj (show some _ = some op from ho)
            have e1 : a.tmps.getD 41 undef = .pointer (some ⟨rb, 0, none⟩) := Eq.trans (hI.val 6 _ 41 rfl rfl (dep_at haf (by kernel_rfl))) rfl
            have x13 : x.getD 13 false = false := no_bit xi fun h => hcl.at (j := 11) rfl (k := 7) (by kernel_rfl) (hcl.at (j := 12) rfl (k := 11) (by kernel_rfl) (hcl.at (j := 13) rfl (k := 12) (by kernel_rfl) h))
            have m0 := kpB (hW.a x13) cL.out
            go_simp
            exact ⟨_, rfl, γ, rfl, fun j v _ h => h, hW.other (by decide) (by decide) (by decide)⟩
          | 8, _ =>
            obtain rfl := Option.some.inj (show some _ = some op from ho)
            have e1 : a.tmps.getD 5 undef = .pointer (some ⟨rb, 0, none⟩) := (hI.was (by kernel_rfl)).trans rfl
            go_simp
            exact ⟨_, rfl, γ, rfl, fun j v _ h => h, hW.other (by decide) (by decide) (by decide)⟩
          | 9, _ =>
            obtain rfl := Option.some.inj (show some _ = some op from ho)
            have e1 : a.tmps.getD 43 undef = .pointer (some ⟨rb, 1, none⟩) := Eq.trans (hI.val 8 _ 43 rfl rfl (dep_at haf (by kernel_rfl))) rfl
            have x13 : x.getD 13 false = false := no_bit xi fun h => hcl.at (j := 10) rfl (k := 9) (by kernel_rfl) (hcl.at (j := 13) rfl (k := 10) (by kernel_rfl) h)
            have m0 := kpB (hW.a x13) cW.out
            go_simp
            exact ⟨_, rfl, γ, rfl, fun j v _ h => h, hW.other (by decide) (by decide) (by decide)⟩
          | 10, _ =>
            obtain rfl := Option.some.inj (show some _ = some op from ho)
            have e1 : a.tmps.getD 44 undef = .slice pu m cu := Eq.trans (hI.val 9 _ 44 rfl rfl (dep_at haf (by kernel_rfl))) rfl
            have x13 : x.getD 13 false = false := no_bit xi fun h => hcl.at (j := 13) rfl (k := 10) (by kernel_rfl) h
            have x12 : x.getD 12 false = false := no_bit xi fun h => hcl.at (j := 11) rfl (k := 10) (by kernel_rfl) (hcl.at (j := 12) rfl (k := 11) (by kernel_rfl) h)
            have x11 : x.getD 11 false = false := no_bit xi fun h => hcl.at (j := 11) rfl (k := 10) (by kernel_rfl) h
            go_simp
            refine (cln.out z (hW.a x13)).mono ?_
            rintro e z' ⟨p, cc, rfl, hb⟩
            refine ⟨_, rfl, ⟨p, cc, γ.b, γ.g, γ.cap⟩, rfl, fun j v hj h => Eq.trans h (bkV_pc (fun e => ?_) (fun e => ?_)), hW.call x12 x13 hb p cc⟩
            · subst e; exact gd_no xi hj
            · subst e; exact gd_no x11 hj
          | 11, _ =>
            obtain rfl := Option.some.inj (show some _ = some op from ho)
            have e1 : a.tmps.getD 42 undef = .int .i64 ln := Eq.trans (hI.val 7 _ 42 rfl rfl (dep_at haf (by kernel_rfl))) rfl
            have e2 : a.tmps.getD 45 undef = .slice γ.p m γ.c := Eq.trans (hI.val 10 _ 45 rfl rfl (dep_at haf (by kernel_rfl))) rfl
            go_simp
            simp only [← Array.getD_eq_getD_getElem?, e1, e2]
            go_simp
            exact ⟨_, rfl, γ, rfl, fun j v _ h => h, hW.other (by decide) (by decide) (by decide)⟩
          | 12, _ =>
            obtain rfl := Option.some.inj (show some _ = some op from ho)
            have e1 : a.tmps.getD 46 undef = .agg #[.int .i64 ln, .slice γ.p m γ.c] := Eq.trans (hI.val 11 _ 46 rfl rfl (dep_at haf (by kernel_rfl))) rfl
            have x13 : x.getD 13 false = false := no_bit xi fun h => hcl.at (j := 13) rfl (k := 12) (by kernel_rfl) h
            go_simp
            simp only [← Array.getD_eq_getD_getElem?, e1]
            go_simp
            refine ⟨_, rfl, ⟨γ.p, γ.c, z.heap.size, γ.g, γ.cap⟩, rfl, fun j v hj h => Eq.trans h (bkV_b (fun e => ?_)), hW.block x13⟩
            subst e; exact gd_no xi hj
          | 13, _ =>
            obtain rfl := Option.some.inj (show some _ = some op from ho)
            have e1 : a.tmps.getD 40 undef = u := Eq.trans (hI.val 5 _ 40 rfl rfl (dep_at haf (by kernel_rfl))) rfl
            have e2 : a.tmps.getD 47 undef = .slice (some ⟨γ.b, 0, none⟩) 1 1 := Eq.trans (hI.val 12 _ 47 rfl rfl (dep_at haf (by kernel_rfl))) rfl
            have x12 : x.getD 12 false = true := dep_at haf (by kernel_rfl)
            have x15 : x.getD 15 false = false := no_bit xi fun h => hcl.at (j := 15) rfl (k := 13) (by kernel_rfl) h
            have hbl := hW.bl x12 xi
            have low := hW.a xi
            refine wp_append_lies _ (.tmp 40) (.tmp 47) 42 rfl w.heap.size 50 r0 (.agg #[.int .i64 0, .slice none 0 0]) 2 32 Tryd.underlying42 hri hr0 hr1 hr2 rfl (by omega) u c.length (rnC c) e1 (own_below uo.out low)
              ⟨γ.b, 0, none⟩ 1 1 [.int .i64 ln, .slice γ.p m γ.c] e2 rfl (World.news_of_block (cs := #[.int .i64 ln, .slice γ.p m γ.c]) hbl) (by simp [Value.oneCell'])
              (by omega) (by unfold maxLen; omega) (by omega) (Nat.le_trans wqs.out low.size) z.heap.size rfl ?_
            intro gg cap' z' hO gO hat hlt2
            refine ⟨_, ⟨γ.p, γ.c, γ.b, gg, cap'⟩, rfl, fun d hd => rfl, fun j v hj h => Eq.trans h (bkV_g (fun e => ?_)), hW.appd xi x15 (by rw [hx]; decide) gO hat hO⟩
            subst e; rw [xi] at hj; cases hj
          | 14, _ =>
            obtain rfl := Option.some.inj (show some _ = some op from ho)
            have e1 : a.tmps.getD 35 undef = .slice (some ⟨go, 0, none⟩) N capo := Eq.trans (hI.val 0 _ 35 rfl rfl (dep_at haf (by kernel_rfl))) rfl
            have e2 : a.tmps.getD 36 undef = .int .i64 (K : Int) := Eq.trans (hI.val 1 _ 36 rfl rfl (dep_at haf (by kernel_rfl))) rfl
            go_simp
            exact ⟨_, rfl, γ, rfl, fun j v _ h => h, hW.other (by decide) (by decide) (by decide)⟩
          | 15, _ =>
            obtain rfl := Option.some.inj (show some _ = some op from ho)
            have e1 : a.tmps.getD 49 undef = .pointer (some ⟨go, K, none⟩) := Eq.trans (hI.val 14 _ 49 rfl rfl (dep_at haf (by kernel_rfl))) rfl
            have e2 : a.tmps.getD 48 undef = .slice (some ⟨γ.g, 0, none⟩) (c.length + 1) γ.cap := Eq.trans (hI.val 13 _ 48 rfl rfl (dep_at haf (by kernel_rfl))) rfl
            have x13 : x.getD 13 false = true := dep_at haf (by kernel_rfl)
            have hput := hW.put x13 xi (by rw [hx]; decide)
            obtain ⟨z3, h1, h2, h3⟩ := hW.ap x13
            obtain rfl := h2 xi
            have k := h1.ro (K := K) (N := N) (capo := capo) stq.out hK.out
            have m0 := k.1
            have m1 := k.2
            clear h1 h2 h3 k
            replace hput : Hid (BkW w wq go K u c ln m γ (x.setIfInBounds 15 true) (z.setCell ⟨go, K, none⟩ (.slice (some ⟨γ.g, 0, none⟩) (c.length + 1) γ.cap))) := hput
            go_simp
            exact ⟨γ, fun j v _ h => h, hput⟩
        · intro γ x a z hx hall hI hW
          have fin := hW.fin (ws := ws) (hall 13 (by decide)) (hall 15 (by decide)) hK.out stq.out
          have ha := RegI.tmps (V := bkV go K capo N rb u ln pu m cu c.length γ) hI (by kernel_rfl) hall
          simp only [putsL, bkV, List.setIfInBounds_toArray, List.set_cons_zero, List.set_cons_succ] at ha
          subst ha
          replace fin : Hid (BkSt w z (.slice (some ⟨go, 0, none⟩) N capo) (us0 ++ [.slice (some ⟨γ.g, 0, none⟩) (c.length + 1) γ.cap]) (cs0 ++ [c ++ [((ln, ws), .slice γ.p m γ.c)]])) := fin
          have nx' : Hid (BkRW (rs.take (k + 1)) (cs0 ++ [c ++ [((ln, ws), .slice γ.p m γ.c)]])) := nx.out γ.p γ.c
          clear hI hW hall hx stq cO cL cW cln uo nx kL hK wqs
          go_wp2
          exact ⟨⟨k + 1, _, _, by omega, by simp, fin, nx'⟩, by simp [intOf]; omega⟩
      · have hk0i : ((k : Int) == 0) = false := beq_eq_false_iff_ne.2 (by omega)
        by_cases hm0 : m = 0
        · have hm0i : ¬ (0 : Int) < (m : Int) := by omega
          have hd : Hid (isDev (ln, ws) = false) := by
            have : ws = [] := List.length_eq_zero_iff.1 (hm.out.trans hm0)
            subst this; rfl
          clear hm0
          obtain ⟨cs0, c, rfl⟩ : ∃ cs0 c, cs = cs0 ++ [c] := by
            rcases List.eq_nil_or_concat cs with h | ⟨a, b, h⟩
            · exact absurd h (BkR.some lf.out.r (by intro e; have := List.take_eq_nil_iff.1 e; rcases this with h | h; exact hk0 h; have := hlen.out; rw [h] at this; simp at this; omega))
            · exact ⟨a, b, by rw [h, List.concat_eq_append]⟩
          obtain ⟨us0, u, rfl⟩ : ∃ us0 u, us = us0 ++ [u] := by
            rcases List.eq_nil_or_concat us with h | ⟨a, b, h⟩
            · have := q.out.st.len; rw [h] at this; simp at this
            · exact ⟨a, b, by rw [h, List.concat_eq_append]⟩
          have nx : Hid (NxR rs k m cs0 c (ln, ws)) := nx_old lf.out hrk.out hd.out hm.out
          have kL : (c.length : Int) ≤ 4500 := by have := cl2.out c (by simp); omega
          replace cl1 : Hid (us0.length ≤ 4500) := by have := cl1.out; simp at this; unfold Hid; omega
          obtain ⟨go, capo, e3, x1, x2⟩ := World.ownsRow.form q.out.st.ro (by simp)
          clear x1 x2 lf hrk hd cl2
          rw [show (us0 ++ [u]).length = us0.length + 1 by simp] at e3
          subst e3
          go_upto_region 7 with fail
          clear bL bW hm0i
          have qq : Hid (BkQ w wx rb ln (.slice pu m cu) (.slice (some ⟨go, 0, none⟩) (us0.length + 1) capo) (us0 ++ [u]) (cs0 ++ [c])) := q.out
          have hwq := hwx
          clear q hwx
          generalize wx = wq at *
          obtain ⟨K, hK⟩ : ∃ K, us0.length = K := ⟨_, rfl⟩
          obtain ⟨N, hN⟩ : ∃ N, K + 1 = N := ⟨_, rfl⟩
          rw [hK] at cl1
          rw [hK, hN] at qq ⊢
          obtain ⟨stq, cL, cW⟩ := qq.out
          have cO : Hid (wq.cell? ⟨go, K, none⟩ = some u) := stq.cell hK
          have uo : Hid (wq.ownsRow w.heap.size 50 2 u c.length (rnC c)) := stq.last
          have cln : Hid (ClnC wq (.slice pu m cu) m) := clnC hwq.out (by rw [hm.out]; exact hl) stq.b.size hm.out
          have wqs : Hid (w.heap.size ≤ wq.heap.size) := stq.b.size
          replace stq : Hid (BkSt w wq (.slice (some ⟨go, 0, none⟩) N capo) (us0 ++ [u]) (cs0 ++ [c])) := stq
          replace cL : Hid (wq.cell? ⟨rb, 0, none⟩ = some (.int .i64 ln)) := cL
          replace cW : Hid (wq.cell? ⟨rb, 1, none⟩ = some (.slice pu m cu)) := cW
          have Kl : (K : Int) < (N : Int) := by omega
          have wN : IntKind.i64.wrap ((N : Int) - 1) = (K : Int) := by have := cl1.out; simp only [IntKind.wrap_i64]; omega
          replace hK : Hid (us0.length = K) := hK
          clear hN qq hwq cl1 hne hl hm
          go_upto_region 8 with fail
          refine region_props4 (fun γ i v => BkP go K capo N rb u ln pu m cu c.length γ i v) (BkW w wq go K u c ln m) ⟨none, 0, 0, 0, 0⟩ (by kernel_rfl) (by kernel_rfl) ?_ ?_ ⟨fun _ => Below.drew (Below.refl _ _), fun h => (by cases h), fun h => (by cases h)⟩
          · intro γ x a z i op ho hI haf hcl hx hxi hW
            have hi : i < 16 := (List.getElem?_eq_some_iff.1 ho).1
            have xi := getD_false hxi
            match i, hi with
            | 0, _ =>
              obtain rfl := Option.some.inj (show some _ = some op from ho)
              have e1 : a.tmps.getD 3 undef = .slice (some ⟨go, 0, none⟩) N capo := (hI.was (by kernel_rfl)).trans rfl
              go_simp
              exact ⟨_, rfl, γ, rfl, fun j v _ h => h, hW.other (by decide) (by decide) (by decide)⟩
            | 1, _ =>
              obtain rfl := Option.some.inj (show some _ = some op from ho)
              have e1 : a.tmps.getD 6 undef = .int .i64 (K : Int) := (hI.was (by kernel_rfl)).trans rfl
              go_simp
              exact ⟨_, rfl, γ, rfl, fun j v _ h => h, hW.other (by decide) (by decide) (by decide)⟩
            | 2, _ =>
              obtain rfl := Option.some.inj (show some _ = some op from ho)
              have e1 : a.tmps.getD 3 undef = .slice (some ⟨go, 0, none⟩) N capo := (hI.was (by kernel_rfl)).trans rfl
              go_simp
              exact ⟨_, rfl, γ, rfl, fun j v _ h => h, hW.other (by decide) (by decide) (by decide)⟩
            | 3, _ =>
              obtain rfl := Option.some.inj (show some _ = some op from ho)
              have e1 : a.tmps.getD 6 undef = .int .i64 (K : Int) := (hI.was (by kernel_rfl)).trans rfl
              go_simp
              exact ⟨_, rfl, γ, rfl, fun j v _ h => h, hW.other (by decide) (by decide) (by decide)⟩
            | 4, _ =>
              obtain rfl := Option.some.inj (show some _ = some op from ho)
              have e1 : a.tmps.getD 37 undef = .slice (some ⟨go, 0, none⟩) N capo := Eq.trans (hI.val 2 _ 37 rfl rfl (dep_at haf (by kernel_rfl))) rfl
              have e2 : a.tmps.getD 38 undef = .int .i64 (K : Int) := Eq.trans (hI.val 3 _ 38 rfl rfl (dep_at haf (by kernel_rfl))) rfl
              go_simp
              exact ⟨_, rfl, γ, rfl, fun j v _ h => h, hW.other (by decide) (by decide) (by decide)⟩
            | 5, _ =>
              obtain rfl := Option.some.inj (show some _ = some op from ho)
              have e1 : a.tmps.getD 39 undef = .pointer (some ⟨go, K, none⟩) := Eq.trans (hI.val 4 _ 39 rfl rfl (dep_at haf (by kernel_rfl))) rfl
              have x13 : x.getD 13 false = false := no_bit xi fun h => hcl.at (j := 13) rfl (k := 5) (by kernel_rfl) h
              have m0 := kpB (hW.a x13) cO.out
              go_simp
              exact ⟨_, rfl, γ, rfl, fun j v _ h => h, hW.other (by decide) (by decide) (by decide)⟩
            | 6, _ =>
              obtain rfl := Option.some.inj (show some _ = some op from ho)
              have e1 : a.tmps.getD 5 undef = .pointer (some ⟨rb, 0, none⟩) := (hI.was (by kernel_rfl)).trans rfl
              go_simp
              exact ⟨_, rfl, γ, rfl, fun j v _ h => h, hW.other (by decide) (by decide) (by decide)⟩
            | 7, _ =>
              obtain rfl := Option.some.inj (show some _ = some op from ho)
              have e1 : a.tmps.getD 41 undef = .pointer (some ⟨rb, 0, none⟩) := Eq.trans (hI.val 6 _ 41 rfl rfl (dep_at haf (by kernel_rfl))) rfl
              have x13 : x.getD 13 false = false := no_bit xi fun h => hcl.at (j := 11) rfl (k := 7) (by kernel_rfl) (hcl.at (j := 12) rfl (k := 11) (by kernel_rfl) (hcl.at (j := 13) rfl (k := 12) (by kernel_rfl) h))
              have m0 := kpB (hW.a x13) cL.out
              go_simp
              exact ⟨_, rfl, γ, rfl, fun j v _ h => h, hW.other (by decide) (by decide) (by decide)⟩
            | 8, _ =>
              obtain rfl := Option.some.inj (show some _ = some op from ho)
              have e1 : a.tmps.getD 5 undef = .pointer (some ⟨rb, 0, none⟩) := (hI.was (by kernel_rfl)).trans rfl
              go_simp
              exact ⟨_, rfl, γ, rfl, fun j v _ h => h, hW.other (by decide) (by decide) (by decide)⟩
            | 9, _ =>
              obtain rfl := Option.some.inj (show some _ = some op from ho)
              have e1 : a.tmps.getD 43 undef = .pointer (some ⟨rb, 1, none⟩) := Eq.trans (hI.val 8 _ 43 rfl rfl (dep_at haf (by kernel_rfl))) rfl
              have x13 : x.getD 13 false = false := no_bit xi fun h => hcl.at (j := 10) rfl (k := 9) (by kernel_rfl) (hcl.at (j := 13) rfl (k := 10) (by kernel_rfl) h)
              have m0 := kpB (hW.a x13) cW.out
              go_simp
              exact ⟨_, rfl, γ, rfl, fun j v _ h => h, hW.other (by decide) (by decide) (by decide)⟩
            | 10, _ =>
              obtain rfl := Option.some.inj (show some _ = some op from ho)
              have e1 : a.tmps.getD 44 undef = .slice pu m cu := Eq.trans (hI.val 9 _ 44 rfl rfl (dep_at haf (by kernel_rfl))) rfl
              have x13 : x.getD 13 false = false := no_bit xi fun h => hcl.at (j := 13) rfl (k := 10) (by kernel_rfl) h
              have x12 : x.getD 12 false = false := no_bit xi fun h => hcl.at (j := 11) rfl (k := 10) (by kernel_rfl) (hcl.at (j := 12) rfl (k := 11) (by kernel_rfl) h)
              have x11 : x.getD 11 false = false := no_bit xi fun h => hcl.at (j := 11) rfl (k := 10) (by kernel_rfl) h
              go_simp
              refine (cln.out z (hW.a x13)).mono ?_
              rintro e z' ⟨p, cc, rfl, hb⟩
              refine ⟨_, rfl, ⟨p, cc, γ.b, γ.g, γ.cap⟩, rfl, fun j v hj h => Eq.trans h (bkV_pc (fun e => ?_) (fun e => ?_)), hW.call x12 x13 hb p cc⟩
              · subst e; exact gd_no xi hj
              · subst e; exact gd_no x11 hj
            | 11, _ =>
              obtain rfl := Option.some.inj (show some _ = some op from ho)
              have e1 : a.tmps.getD 42 undef = .int .i64 ln := Eq.trans (hI.val 7 _ 42 rfl rfl (dep_at haf (by kernel_rfl))) rfl
              have e2 : a.tmps.getD 45 undef = .slice γ.p m γ.c := Eq.trans (hI.val 10 _ 45 rfl rfl (dep_at haf (by kernel_rfl))) rfl
              go_simp
              simp only [← Array.getD_eq_getD_getElem?, e1, e2]
              go_simp
              exact ⟨_, rfl, γ, rfl, fun j v _ h => h, hW.other (by decide) (by decide) (by decide)⟩
            | 12, _ =>
              obtain rfl := Option.some.inj (show some _ = some op from ho)
              have e1 : a.tmps.getD 46 undef = .agg #[.int .i64 ln, .slice γ.p m γ.c] := Eq.trans (hI.val 11 _ 46 rfl rfl (dep_at haf (by kernel_rfl))) rfl
              have x13 : x.getD 13 false = false := no_bit xi fun h => hcl.at (j := 13) rfl (k := 12) (by kernel_rfl) h
              go_simp
              simp only [← Array.getD_eq_getD_getElem?, e1]
              go_simp
              refine ⟨_, rfl, ⟨γ.p, γ.c, z.heap.size, γ.g, γ.cap⟩, rfl, fun j v hj h => Eq.trans h (bkV_b (fun e => ?_)), hW.block x13⟩
              subst e; exact gd_no xi hj
            | 13, _ =>
              obtain rfl := Option.some.inj (show some _ = some op from ho)
              have e1 : a.tmps.getD 40 undef = u := Eq.trans (hI.val 5 _ 40 rfl rfl (dep_at haf (by kernel_rfl))) rfl
              have e2 : a.tmps.getD 47 undef = .slice (some ⟨γ.b, 0, none⟩) 1 1 := Eq.trans (hI.val 12 _ 47 rfl rfl (dep_at haf (by kernel_rfl))) rfl
              have x12 : x.getD 12 false = true := dep_at haf (by kernel_rfl)
              have x15 : x.getD 15 false = false := no_bit xi fun h => hcl.at (j := 15) rfl (k := 13) (by kernel_rfl) h
              have hbl := hW.bl x12 xi
              have low := hW.a xi
              refine wp_append_lies _ (.tmp 40) (.tmp 47) 42 rfl w.heap.size 50 r0 (.agg #[.int .i64 0, .slice none 0 0]) 2 32 Tryd.underlying42 hri hr0 hr1 hr2 rfl (by omega) u c.length (rnC c) e1 (own_below uo.out low)
                ⟨γ.b, 0, none⟩ 1 1 [.int .i64 ln, .slice γ.p m γ.c] e2 rfl (World.news_of_block (cs := #[.int .i64 ln, .slice γ.p m γ.c]) hbl) (by simp [Value.oneCell'])
                (by omega) (by unfold maxLen; omega) (by omega) (Nat.le_trans wqs.out low.size) z.heap.size rfl ?_
              intro gg cap' z' hO gO hat hlt2
              refine ⟨_, ⟨γ.p, γ.c, γ.b, gg, cap'⟩, rfl, fun d hd => rfl, fun j v hj h => Eq.trans h (bkV_g (fun e => ?_)), hW.appd xi x15 (by rw [hx]; decide) gO hat hO⟩
              subst e; rw [xi] at hj; cases hj
            | 14, _ =>
              obtain rfl := Option.some.inj (show some _ = some op from ho)
              have e1 : a.tmps.getD 35 undef = .slice (some ⟨go, 0, none⟩) N capo := Eq.trans (hI.val 0 _ 35 rfl rfl (dep_at haf (by kernel_rfl))) rfl
              have e2 : a.tmps.getD 36 undef = .int .i64 (K : Int) := Eq.trans (hI.val 1 _ 36 rfl rfl (dep_at haf (by kernel_rfl))) rfl
              go_simp
              exact ⟨_, rfl, γ, rfl, fun j v _ h => h, hW.other (by decide) (by decide) (by decide)⟩
            | 15, _ =>
              obtain rfl := Option.some.inj (show some _ = some op from ho)
              have e1 : a.tmps.getD 49 undef = .pointer (some ⟨go, K, none⟩) := Eq.trans (hI.val 14 _ 49 rfl rfl (dep_at haf (by kernel_rfl))) rfl
              have e2 : a.tmps.getD 48 undef = .slice (some ⟨γ.g, 0, none⟩) (c.length + 1) γ.cap := Eq.trans (hI.val 13 _ 48 rfl rfl (dep_at haf (by kernel_rfl))) rfl
              have x13 : x.getD 13 false = true := dep_at haf (by kernel_rfl)
              have hput := hW.put x13 xi (by rw [hx]; decide)
              obtain ⟨z3, h1, h2, h3⟩ := hW.ap x13
              obtain rfl := h2 xi
              have k := h1.ro (K := K) (N := N) (capo := capo) stq.out hK.out
              have m0 := k.1
              have m1 := k.2
              clear h1 h2 h3 k
              replace hput : Hid (BkW w wq go K u c ln m γ (x.setIfInBounds 15 true) (z.setCell ⟨go, K, none⟩ (.slice (some ⟨γ.g, 0, none⟩) (c.length + 1) γ.cap))) := hput
              go_simp
              exact ⟨γ, fun j v _ h => h, hput⟩
          · intro γ x a z hx hall hI hW
            have fin := hW.fin (ws := ws) (hall 13 (by decide)) (hall 15 (by decide)) hK.out stq.out
            have ha := RegI.tmps (V := bkV go K capo N rb u ln pu m cu c.length γ) hI (by kernel_rfl) hall
            simp only [putsL, bkV, List.setIfInBounds_toArray, List.set_cons_zero, List.set_cons_succ] at ha
            subst ha
            replace fin : Hid (BkSt w z (.slice (some ⟨go, 0, none⟩) N capo) (us0 ++ [.slice (some ⟨γ.g, 0, none⟩) (c.length + 1) γ.cap]) (cs0 ++ [c ++ [((ln, ws), .slice γ.p m γ.c)]])) := fin
            have nx' : Hid (BkRW (rs.take (k + 1)) (cs0 ++ [c ++ [((ln, ws), .slice γ.p m γ.c)]])) := nx.out γ.p γ.c
            clear hI hW hall hx stq cO cL cW cln uo nx kL hK wqs
            go_wp2
            exact ⟨⟨k + 1, _, _, by omega, by simp, fin, nx'⟩, by simp [intOf]; omega⟩
        · obtain ⟨f, a, hfa⟩ := List.exists_cons_of_ne_nil (fun e : ws = [] => hm0 (by rw [← hm.out, e]; rfl))
          obtain ⟨gp, op, cp1, ep, hip, x1⟩ := (hfa ▸ hwx.out : WdsAt w.heap.size wx (.slice pu m cu) (f :: a)).cons2'
          clear x1
          injection ep with ep1 ep2 ep3
          subst ep1
          clear ep2 ep3
          have k2 : wx.cell? ⟨gp, op, none⟩ = some (.string (txt f)) := hip 0 (by simp)
          have t1 : (txt f == ⟨#[100, 101, 118, 105, 99, 101]⟩) = decide (f = kDev) := txt_beq f kDev
          have w1 : ((txt f).toList == [100, 101, 118, 105, 99, 101]) = decide (f = kDev) := by
            rw [Bool.eq_iff_iff, decide_eq_true_iff, beq_iff_eq, ByteArray.toList_eq]
            exact ⟨fun h => h, fun h => by rw [h]; rfl⟩
          have u1 : 0 < (m : Int) := by omega
          have hdv : isDev (ln, ws) = decide (f = kDev) := by rw [hfa]; rfl
          clear hip hfa
          generalize decide (f = kDev) = D at *
          generalize txt f = S at *
          cases D with
          | true =>
            have hcs : Hid (cs = [] ∨ isDev (ln, ws) = true) := .inr hdv
            clear hdv
            have nx : Hid (NxR rs k m cs [] (ln, ws)) := nx_new lf.out hrk.out hcs.out hm.out
            have us63 : us.length + 1 ≤ maxLen := by have := cl1.out; unfold maxLen; omega
            have usby : (us.length + 1) * 24 ≤ 140737488355328 := by have := cl1.out; omega
            have wxs : Hid (w.heap.size ≤ wx.heap.size) := q.out.st.b.size
            have own1 : Hid ((wx.alloc (.cells #[.slice none 0 0] 42)).ownsRow w.heap.size 42 1 u3 us.length us) := World.ownsRow.alloc q.out.st.ro _
            clear lf hrk hcs cl2
            go_upto_region 7 with (at_builtin; refine wpList_append_lies _ rfl _ _ 48 rfl w.heap.size 42 i0 (.slice none 0 0) 1 24 Tryd.underlying48 hi0 hz0 hz1 hz2 rfl (by decide) _ us.length us rfl own1.out ⟨wx.heap.size, 0, none⟩ 1 1 [.slice none 0 0] rfl rfl (cell_one_new _ _ _) (by simp [Value.oneCell']) (by decide) us63 usby (by have := wxs.out; simp; omega) (wx.heap.size + 1) (by simp) ?_; intro go capo wq hO gO hat hlt2; have qq : Hid (BkQ w wq rb ln (.slice (some ⟨gp, op, none⟩) m cu) (.slice (some ⟨go, 0, none⟩) (us.length + 1) capo) (us ++ [.slice none 0 0]) (cs ++ [ [] ])) := BkQ.push q.out hne.out hO gO; clear hO gO hat hlt2)
            clear own1 us63 usby wxs bL bW k2 t1 w1 u1
            have hwq : Hid (WdsAt w.heap.size wq (.slice (some ⟨gp, op, none⟩) m cu) ws) := wds_on hwx.out q.out.st.b qq.out.st.b
            clear q hwx
            obtain ⟨us0, hus0⟩ : ∃ us0, us = us0 := ⟨_, rfl⟩
            obtain ⟨cs0, hcs0⟩ : ∃ cs0, cs = cs0 := ⟨_, rfl⟩
            rw [hus0] at qq cl1 ⊢
            rw [hcs0] at qq nx
            clear hus0 hcs0 us cs
            obtain ⟨u, hu⟩ : ∃ u : Value, u = .slice none 0 0 := ⟨_, rfl⟩
            obtain ⟨c, hc⟩ : ∃ c : List Rn, c = [] := ⟨_, rfl⟩
            rw [← hu, ← hc] at qq
            rw [← hc] at nx
            have kL : (c.length : Int) ≤ 4500 := by rw [hc]; simp
            clear hu hc
            obtain ⟨K, hK⟩ : ∃ K, us0.length = K := ⟨_, rfl⟩
            obtain ⟨N, hN⟩ : ∃ N, K + 1 = N := ⟨_, rfl⟩
            rw [hK] at cl1
            rw [hK, hN] at qq ⊢
            obtain ⟨stq, cL, cW⟩ := qq.out
            have cO : Hid (wq.cell? ⟨go, K, none⟩ = some u) := stq.cell hK
            have uo : Hid (wq.ownsRow w.heap.size 50 2 u c.length (rnC c)) := stq.last
            have cln : Hid (ClnC wq (.slice (some ⟨gp, op, none⟩) m cu) m) := clnC hwq.out (by rw [hm.out]; exact hl) stq.b.size hm.out
            have wqs : Hid (w.heap.size ≤ wq.heap.size) := stq.b.size
            replace stq : Hid (BkSt w wq (.slice (some ⟨go, 0, none⟩) N capo) (us0 ++ [u]) (cs0 ++ [c])) := stq
            replace cL : Hid (wq.cell? ⟨rb, 0, none⟩ = some (.int .i64 ln)) := cL
            replace cW : Hid (wq.cell? ⟨rb, 1, none⟩ = some (.slice (some ⟨gp, op, none⟩) m cu)) := cW
            have Kl : (K : Int) < (N : Int) := by omega
            have wN : IntKind.i64.wrap ((N : Int) - 1) = (K : Int) := by have := cl1.out; simp only [IntKind.wrap_i64]; omega
            replace hK : Hid (us0.length = K) := hK
            clear hN qq hwq cl1 hne hl hm
            go_upto_region 8 with fail
            refine region_props4 (fun γ i v => BkP go K capo N rb u ln (some ⟨gp, op, none⟩) m cu c.length γ i v) (BkW w wq go K u c ln m) ⟨none, 0, 0, 0, 0⟩ (by kernel_rfl) (by kernel_rfl) ?_ ?_ ⟨fun _ => Below.drew (Below.refl _ _), fun h => (by cases h), fun h => (by cases h)⟩
            · intro γ x a z i op ho hI haf hcl hx hxi hW
              have hi : i < 16 := (List.getElem?_eq_some_iff.1 ho).1
              have xi := getD_false hxi
              match i, hi with
              | 0, _ =>
                obtain rfl := Option.some.inj (show some _ = some op from ho)
                have e1 : a.tmps.getD 3 undef = .slice (some ⟨go, 0, none⟩) N capo := (hI.was (by kernel_rfl)).trans rfl
                go_simp
                exact ⟨_, rfl, γ, rfl, fun j v _ h => h, hW.other (by decide) (by decide) (by decide)⟩
              | 1, _ =>
                obtain rfl := Option.some.inj (show some _ = some op from ho)
                have e1 : a.tmps.getD 6 undef = .int .i64 (K : Int) := (hI.was (by kernel_rfl)).trans rfl
                go_simp
                exact ⟨_, rfl, γ, rfl, fun j v _ h => h, hW.other (by decide) (by decide) (by decide)⟩
              | 2, _ =>
                obtain rfl := Option.some.inj (show some _ = some op from ho)
                have e1 : a.tmps.getD 3 undef = .slice (some ⟨go, 0, none⟩) N capo := (hI.was (by kernel_rfl)).trans rfl
                go_simp
                exact ⟨_, rfl, γ, rfl, fun j v _ h => h, hW.other (by decide) (by decide) (by decide)⟩
              | 3, _ =>
                obtain rfl := Option.some.inj (show some _ = some op from ho)
                have e1 : a.tmps.getD 6 undef = .int .i64 (K : Int) := (hI.was (by kernel_rfl)).trans rfl
                go_simp
                exact ⟨_, rfl, γ, rfl, fun j v _ h => h, hW.other (by decide) (by decide) (by decide)⟩
              | 4, _ =>
                obtain rfl := Option.some.inj (show some _ = some op from ho)
                have e1 : a.tmps.getD 37 undef = .slice (some ⟨go, 0, none⟩) N capo := Eq.trans (hI.val 2 _ 37 rfl rfl (dep_at haf (by kernel_rfl))) rfl
                have e2 : a.tmps.getD 38 undef = .int .i64 (K : Int) := Eq.trans (hI.val 3 _ 38 rfl rfl (dep_at haf (by kernel_rfl))) rfl
                go_simp
                exact ⟨_, rfl, γ, rfl, fun j v _ h => h, hW.other (by decide) (by decide) (by decide)⟩
              | 5, _ =>
                obtain rfl := Option.some.inj (show some _ = some op from ho)
                have e1 : a.tmps.getD 39 undef = .pointer (some ⟨go, K, none⟩) := Eq.trans (hI.val 4 _ 39 rfl rfl (dep_at haf (by kernel_rfl))) rfl
                have x13 : x.getD 13 false = false := no_bit xi fun h => hcl.at (j := 13) rfl (k := 5) (by kernel_rfl) h
                have m0 := kpB (hW.a x13) cO.out
                go_simp
                exact ⟨_, rfl, γ, rfl, fun j v _ h => h, hW.other (by decide) (by decide) (by decide)⟩
              | 6, _ =>
                obtain rfl := Option.some.inj (show some _ = some op from ho)
                have e1 : a.tmps.getD 5 undef = .pointer (some ⟨rb, 0, none⟩) := (hI.was (by kernel_rfl)).trans rfl
                go_simp
                exact ⟨_, rfl, γ, rfl, fun j v _ h => h, hW.other (by decide) (by decide) (by decide)⟩
              | 7, _ =>
                obtain rfl := Option.some.inj (show some _ = some op from ho)
                have e1 : a.tmps.getD 41 undef = .pointer (some ⟨rb, 0, none⟩) := Eq.trans (hI.val 6 _ 41 rfl rfl (dep_at haf (by kernel_rfl))) rfl
                have x13 : x.getD 13 false = false := no_bit xi fun h => hcl.at (j := 11) rfl (k := 7) (by kernel_rfl) (hcl.at (j := 12) rfl (k := 11) (by kernel_rfl) (hcl.at (j := 13) rfl (k := 12) (by kernel_rfl) h))
                have m0 := kpB (hW.a x13) cL.out
                go_simp
                exact ⟨_, rfl, γ, rfl, fun j v _ h => h, hW.other (by decide) (by decide) (by decide)⟩
              | 8, _ =>
                obtain rfl := Option.some.inj (show some _ = some op from ho)
                have e1 : a.tmps.getD 5 undef = .pointer (some ⟨rb, 0, none⟩) := (hI.was (by kernel_rfl)).trans rfl
                go_simp
                exact ⟨_, rfl, γ, rfl, fun j v _ h => h, hW.other (by decide) (by decide) (by decide)⟩
              | 9, _ =>
                obtain rfl := Option.some.inj (show some _ = some op from ho)
                have e1 : a.tmps.getD 43 undef = .pointer (some ⟨rb, 1, none⟩) := Eq.trans (hI.val 8 _ 43 rfl rfl (dep_at haf (by kernel_rfl))) rfl
                have x13 : x.getD 13 false = false := no_bit xi fun h => hcl.at (j := 10) rfl (k := 9) (by kernel_rfl) (hcl.at (j := 13) rfl (k := 10) (by kernel_rfl) h)
                have m0 := kpB (hW.a x13) cW.out
                go_simp
                exact ⟨_, rfl, γ, rfl, fun j v _ h => h, hW.other (by decide) (by decide) (by decide)⟩
              | 10, _ =>
                obtain rfl := Option.some.inj (show some _ = some op from ho)
                have e1 : a.tmps.getD 44 undef = .slice (some ⟨gp, op, none⟩) m cu := Eq.trans (hI.val 9 _ 44 rfl rfl (dep_at haf (by kernel_rfl))) rfl
                have x13 : x.getD 13 false = false := no_bit xi fun h => hcl.at (j := 13) rfl (k := 10) (by kernel_rfl) h
                have x12 : x.getD 12 false = false := no_bit xi fun h => hcl.at (j := 11) rfl (k := 10) (by kernel_rfl) (hcl.at (j := 12) rfl (k := 11) (by kernel_rfl) h)
                have x11 : x.getD 11 false = false := no_bit xi fun h => hcl.at (j := 11) rfl (k := 10) (by kernel_rfl) h
                go_simp
                refine (cln.out z (hW.a x13)).mono ?_
                rintro e z' ⟨p, cc, rfl, hb⟩
                refine ⟨_, rfl, ⟨p, cc, γ.b, γ.g, γ.cap⟩, rfl, fun j v hj h => Eq.trans h (bkV_pc (fun e => ?_) (fun e => ?_)), hW.call x12 x13 hb p cc⟩
                · subst e; exact gd_no xi hj
                · subst e; exact gd_no x11 hj
              | 11, _ =>
                obtain rfl := Option.some.inj (show some _ = some op from ho)
                have e1 : a.tmps.getD 42 undef = .int .i64 ln := Eq.trans (hI.val 7 _ 42 rfl rfl (dep_at haf (by kernel_rfl))) rfl
                have e2 : a.tmps.getD 45 undef = .slice γ.p m γ.c := Eq.trans (hI.val 10 _ 45 rfl rfl (dep_at haf (by kernel_rfl))) rfl
                go_simp
                simp only [← Array.getD_eq_getD_getElem?, e1, e2]
                go_simp
                exact ⟨_, rfl, γ, rfl, fun j v _ h => h, hW.other (by decide) (by decide) (by decide)⟩
              | 12, _ =>
                obtain rfl := Option.some.inj (show some _ = some op from ho)
                have e1 : a.tmps.getD 46 undef = .agg #[.int .i64 ln, .slice γ.p m γ.c] := Eq.trans (hI.val 11 _ 46 rfl rfl (dep_at haf (by kernel_rfl))) rfl
                have x13 : x.getD 13 false = false := no_bit xi fun h => hcl.at (j := 13) rfl (k := 12) (by kernel_rfl) h
                go_simp
                simp only [← Array.getD_eq_getD_getElem?, e1]
                go_simp
                refine ⟨_, rfl, ⟨γ.p, γ.c, z.heap.size, γ.g, γ.cap⟩, rfl, fun j v hj h => Eq.trans h (bkV_b (fun e => ?_)), hW.block x13⟩
                subst e; exact gd_no xi hj
              | 13, _ =>
                obtain rfl := Option.some.inj (show some _ = some op from ho)
                have e1 : a.tmps.getD 40 undef = u := Eq.trans (hI.val 5 _ 40 rfl rfl (dep_at haf (by kernel_rfl))) rfl
                have e2 : a.tmps.getD 47 undef = .slice (some ⟨γ.b, 0, none⟩) 1 1 := Eq.trans (hI.val 12 _ 47 rfl rfl (dep_at haf (by kernel_rfl))) rfl
                have x12 : x.getD 12 false = true := dep_at haf (by kernel_rfl)
                have x15 : x.getD 15 false = false := no_bit xi fun h => hcl.at (j := 15) rfl (k := 13) (by kernel_rfl) h
                have hbl := hW.bl x12 xi
                have low := hW.a xi
                refine wp_append_lies _ (.tmp 40) (.tmp 47) 42 rfl w.heap.size 50 r0 (.agg #[.int .i64 0, .slice none 0 0]) 2 32 Tryd.underlying42 hri hr0 hr1 hr2 rfl (by omega) u c.length (rnC c) e1 (own_below uo.out low)
                  ⟨γ.b, 0, none⟩ 1 1 [.int .i64 ln, .slice γ.p m γ.c] e2 rfl (World.news_of_block (cs := #[.int .i64 ln, .slice γ.p m γ.c]) hbl) (by simp [Value.oneCell'])
                  (by omega) (by unfold maxLen; omega) (by omega) (Nat.le_trans wqs.out low.size) z.heap.size rfl ?_
                intro gg cap' z' hO gO hat hlt2
                refine ⟨_, ⟨γ.p, γ.c, γ.b, gg, cap'⟩, rfl, fun d hd => rfl, fun j v hj h => Eq.trans h (bkV_g (fun e => ?_)), hW.appd xi x15 (by rw [hx]; decide) gO hat hO⟩
                subst e; rw [xi] at hj; cases hj
              | 14, _ =>
                obtain rfl := Option.some.inj (show some _ = some op from ho)
                have e1 : a.tmps.getD 35 undef = .slice (some ⟨go, 0, none⟩) N capo := Eq.trans (hI.val 0 _ 35 rfl rfl (dep_at haf (by kernel_rfl))) rfl
                have e2 : a.tmps.getD 36 undef = .int .i64 (K : Int) := Eq.trans (hI.val 1 _ 36 rfl rfl (dep_at haf (by kernel_rfl))) rfl
                go_simp
                exact ⟨_, rfl, γ, rfl, fun j v _ h => h, hW.other (by decide) (by decide) (by decide)⟩
              | 15, _ =>
                obtain rfl := Option.some.inj (show some _ = some op from ho)
                have e1 : a.tmps.getD 49 undef = .pointer (some ⟨go, K, none⟩) := Eq.trans (hI.val 14 _ 49 rfl rfl (dep_at haf (by kernel_rfl))) rfl
                have e2 : a.tmps.getD 48 undef = .slice (some ⟨γ.g, 0, none⟩) (c.length + 1) γ.cap := Eq.trans (hI.val 13 _ 48 rfl rfl (dep_at haf (by kernel_rfl))) rfl
                have x13 : x.getD 13 false = true := dep_at haf (by kernel_rfl)
                have hput := hW.put x13 xi (by rw [hx]; decide)
                obtain ⟨z3, h1, h2, h3⟩ := hW.ap x13
                obtain rfl := h2 xi
                have k := h1.ro (K := K) (N := N) (capo := capo) stq.out hK.out
                have m0 := k.1
                have m1 := k.2
                clear h1 h2 h3 k
                replace hput : Hid (BkW w wq go K u c ln m γ (x.setIfInBounds 15 true) (z.setCell ⟨go, K, none⟩ (.slice (some ⟨γ.g, 0, none⟩) (c.length + 1) γ.cap))) := hput
                go_simp
                exact ⟨γ, fun j v _ h => h, hput⟩
            · intro γ x a z hx hall hI hW
              have fin := hW.fin (ws := ws) (hall 13 (by decide)) (hall 15 (by decide)) hK.out stq.out
              have ha := RegI.tmps (V := bkV go K capo N rb u ln (some ⟨gp, op, none⟩) m cu c.length γ) hI (by kernel_rfl) hall
              simp only [putsL, bkV, List.setIfInBounds_toArray, List.set_cons_zero, List.set_cons_succ] at ha
              subst ha
              replace fin : Hid (BkSt w z (.slice (some ⟨go, 0, none⟩) N capo) (us0 ++ [.slice (some ⟨γ.g, 0, none⟩) (c.length + 1) γ.cap]) (cs0 ++ [c ++ [((ln, ws), .slice γ.p m γ.c)]])) := fin
              have nx' : Hid (BkRW (rs.take (k + 1)) (cs0 ++ [c ++ [((ln, ws), .slice γ.p m γ.c)]])) := nx.out γ.p γ.c
              clear hI hW hall hx stq cO cL cW cln uo nx kL hK wqs
              go_wp2
              exact ⟨⟨k + 1, _, _, by omega, by simp, fin, nx'⟩, by simp [intOf]; omega⟩
          | false =>
            have hd : Hid (isDev (ln, ws) = false) := hdv
            clear hdv
            obtain ⟨cs0, c, rfl⟩ : ∃ cs0 c, cs = cs0 ++ [c] := by
              rcases List.eq_nil_or_concat cs with h | ⟨a, b, h⟩
              · exact absurd h (BkR.some lf.out.r (by intro e; have := List.take_eq_nil_iff.1 e; rcases this with h | h; exact hk0 h; have := hlen.out; rw [h] at this; simp at this; omega))
              · exact ⟨a, b, by rw [h, List.concat_eq_append]⟩
            obtain ⟨us0, u, rfl⟩ : ∃ us0 u, us = us0 ++ [u] := by
              rcases List.eq_nil_or_concat us with h | ⟨a, b, h⟩
              · have := q.out.st.len; rw [h] at this; simp at this
              · exact ⟨a, b, by rw [h, List.concat_eq_append]⟩
            have nx : Hid (NxR rs k m cs0 c (ln, ws)) := nx_old lf.out hrk.out hd.out hm.out
            have kL : (c.length : Int) ≤ 4500 := by have := cl2.out c (by simp); omega
            replace cl1 : Hid (us0.length ≤ 4500) := by have := cl1.out; simp at this; unfold Hid; omega
            obtain ⟨go, capo, e3, x1, x2⟩ := World.ownsRow.form q.out.st.ro (by simp)
            clear x1 x2 lf hrk hd cl2
            rw [show (us0 ++ [u]).length = us0.length + 1 by simp] at e3
            subst e3
            go_upto_region 7 with fail
            clear bL bW k2 t1 w1 u1
            have qq : Hid (BkQ w wx rb ln (.slice (some ⟨gp, op, none⟩) m cu) (.slice (some ⟨go, 0, none⟩) (us0.length + 1) capo) (us0 ++ [u]) (cs0 ++ [c])) := q.out
            have hwq := hwx
            clear q hwx
            generalize wx = wq at *
            obtain ⟨K, hK⟩ : ∃ K, us0.length = K := ⟨_, rfl⟩
            obtain ⟨N, hN⟩ : ∃ N, K + 1 = N := ⟨_, rfl⟩
            rw [hK] at cl1
            rw [hK, hN] at qq ⊢
            obtain ⟨stq, cL, cW⟩ := qq.out
            have cO : Hid (wq.cell? ⟨go, K, none⟩ = some u) := stq.cell hK
            have uo : Hid (wq.ownsRow w.heap.size 50 2 u c.length (rnC c)) := stq.last
            have cln : Hid (ClnC wq (.slice (some ⟨gp, op, none⟩) m cu) m) := clnC hwq.out (by rw [hm.out]; exact hl) stq.b.size hm.out
            have wqs : Hid (w.heap.size ≤ wq.heap.size) := stq.b.size
            replace stq : Hid (BkSt w wq (.slice (some ⟨go, 0, none⟩) N capo) (us0 ++ [u]) (cs0 ++ [c])) := stq
            replace cL : Hid (wq.cell? ⟨rb, 0, none⟩ = some (.int .i64 ln)) := cL
            replace cW : Hid (wq.cell? ⟨rb, 1, none⟩ = some (.slice (some ⟨gp, op, none⟩) m cu)) := cW
            have Kl : (K : Int) < (N : Int) := by omega
            have wN : IntKind.i64.wrap ((N : Int) - 1) = (K : Int) := by have := cl1.out; simp only [IntKind.wrap_i64]; omega
            replace hK : Hid (us0.length = K) := hK
            clear hN qq hwq cl1 hne hl hm
            go_upto_region 8 with fail
            refine region_props4 (fun γ i v => BkP go K capo N rb u ln (some ⟨gp, op, none⟩) m cu c.length γ i v) (BkW w wq go K u c ln m) ⟨none, 0, 0, 0, 0⟩ (by kernel_rfl) (by kernel_rfl) ?_ ?_ ⟨fun _ => Below.drew (Below.refl _ _), fun h => (by cases h), fun h => (by cases h)⟩
            · intro γ x a z i op ho hI haf hcl hx hxi hW
              have hi : i < 16 := (List.getElem?_eq_some_iff.1 ho).1
              have xi := getD_false hxi
              match i, hi with
              | 0, _ =>
                obtain rfl := Option.some.inj (show some _ = some op from ho)
                have e1 : a.tmps.getD 3 undef = .slice (some ⟨go, 0, none⟩) N capo := (hI.was (by kernel_rfl)).trans rfl
                go_simp
                exact ⟨_, rfl, γ, rfl, fun j v _ h => h, hW.other (by decide) (by decide) (by decide)⟩
              | 1, _ =>
                obtain rfl := Option.some.inj (show some _ = some op from ho)
                have e1 : a.tmps.getD 6 undef = .int .i64 (K : Int) := (hI.was (by kernel_rfl)).trans rfl
                go_simp
                exact ⟨_, rfl, γ, rfl, fun j v _ h => h, hW.other (by decide) (by decide) (by decide)⟩
              | 2, _ =>
                obtain rfl := Option.some.inj (show some _ = some op from ho)
                have e1 : a.tmps.getD 3 undef = .slice (some ⟨go, 0, none⟩) N capo := (hI.was (by kernel_rfl)).trans rfl
                go_simp
                exact ⟨_, rfl, γ, rfl, fun j v _ h => h, hW.other (by decide) (by decide) (by decide)⟩
              | 3, _ =>
                obtain rfl := Option.some.inj (show some _ = some op from ho)
                have e1 : a.tmps.getD 6 undef = .int .i64 (K : Int) := (hI.was (by kernel_rfl)).trans rfl
                go_simp
                exact ⟨_, rfl, γ, rfl, fun j v _ h => h, hW.other (by decide) (by decide) (by decide)⟩
              | 4, _ =>
                obtain rfl := Option.some.inj (show some _ = some op from ho)
                have e1 : a.tmps.getD 37 undef = .slice (some ⟨go, 0, none⟩) N capo := Eq.trans (hI.val 2 _ 37 rfl rfl (dep_at haf (by kernel_rfl))) rfl
                have e2 : a.tmps.getD 38 undef = .int .i64 (K : Int) := Eq.trans (hI.val 3 _ 38 rfl rfl (dep_at haf (by kernel_rfl))) rfl
                go_simp
                exact ⟨_, rfl, γ, rfl, fun j v _ h => h, hW.other (by decide) (by decide) (by decide)⟩
              | 5, _ =>
                obtain rfl := Option.some.inj (show some _ = some op from ho)
                have e1 : a.tmps.getD 39 undef = .pointer (some ⟨go, K, none⟩) := Eq.trans (hI.val 4 _ 39 rfl rfl (dep_at haf (by kernel_rfl))) rfl
                have x13 : x.getD 13 false = false := no_bit xi fun h => hcl.at (j := 13) rfl (k := 5) (by kernel_rfl) h
                have m0 := kpB (hW.a x13) cO.out
                go_simp
                exact ⟨_, rfl, γ, rfl, fun j v _ h => h, hW.other (by decide) (by decide) (by decide)⟩
              | 6, _ =>
                obtain rfl := Option.some.inj (show some _ = some op from ho)
                have e1 : a.tmps.getD 5 undef = .pointer (some ⟨rb, 0, none⟩) := (hI.was (by kernel_rfl)).trans rfl
                go_simp
                exact ⟨_, rfl, γ, rfl, fun j v _ h => h, hW.other (by decide) (by decide) (by decide)⟩
              | 7, _ =>
                obtain rfl := Option.some.inj (show some _ = some op from ho)
                have e1 : a.tmps.getD 41 undef = .pointer (some ⟨rb, 0, none⟩) := Eq.trans (hI.val 6 _ 41 rfl rfl (dep_at haf (by kernel_rfl))) rfl
                have x13 : x.getD 13 false = false := no_bit xi fun h => hcl.at (j := 11) rfl (k := 7) (by kernel_rfl) (hcl.at (j := 12) rfl (k := 11) (by kernel_rfl) (hcl.at (j := 13) rfl (k := 12) (by kernel_rfl) h))
                have m0 := kpB (hW.a x13) cL.out
                go_simp
                exact ⟨_, rfl, γ, rfl, fun j v _ h => h, hW.other (by decide) (by decide) (by decide)⟩
              | 8, _ =>
                obtain rfl := Option.some.inj (show some _ = some op from ho)
                have e1 : a.tmps.getD 5 undef = .pointer (some ⟨rb, 0, none⟩) := (hI.was (by kernel_rfl)).trans rfl
                go_simp
                exact ⟨_, rfl, γ, rfl, fun j v _ h => h, hW.other (by decide) (by decide) (by decide)⟩
              | 9, _ =>
                obtain rfl := Option.some.inj (show some _ = some op from ho)
                have e1 : a.tmps.getD 43 undef = .pointer (some ⟨rb, 1, none⟩) := Eq.trans (hI.val 8 _ 43 rfl rfl (dep_at haf (by kernel_rfl))) rfl
                have x13 : x.getD 13 false = false := no_bit xi fun h => hcl.at (j := 10) rfl (k := 9) (by kernel_rfl) (hcl.at (j := 13) rfl (k := 10) (by kernel_rfl) h)
                have m0 := kpB (hW.a x13) cW.out
                go_simp
                exact ⟨_, rfl, γ, rfl, fun j v _ h => h, hW.other (by decide) (by decide) (by decide)⟩
              | 10, _ =>
                obtain rfl := Option.some.inj (show some _ = some op from ho)
                have e1 : a.tmps.getD 44 undef = .slice (some ⟨gp, op, none⟩) m cu := Eq.trans (hI.val 9 _ 44 rfl rfl (dep_at haf (by kernel_rfl))) rfl
                have x13 : x.getD 13 false = false := no_bit xi fun h => hcl.at (j := 13) rfl (k := 10) (by kernel_rfl) h
                have x12 : x.getD 12 false = false := no_bit xi fun h => hcl.at (j := 11) rfl (k := 10) (by kernel_rfl) (hcl.at (j := 12) rfl (k := 11) (by kernel_rfl) h)
                have x11 : x.getD 11 false = false := no_bit xi fun h => hcl.at (j := 11) rfl (k := 10) (by kernel_rfl) h
                go_simp
                refine (cln.out z (hW.a x13)).mono ?_
                rintro e z' ⟨p, cc, rfl, hb⟩
                refine ⟨_, rfl, ⟨p, cc, γ.b, γ.g, γ.cap⟩, rfl, fun j v hj h => Eq.trans h (bkV_pc (fun e => ?_) (fun e => ?_)), hW.call x12 x13 hb p cc⟩
                · subst e; exact gd_no xi hj
                · subst e; exact gd_no x11 hj
              | 11, _ =>
                obtain rfl := Option.some.inj (show some _ = some op from ho)
                have e1 : a.tmps.getD 42 undef = .int .i64 ln := Eq.trans (hI.val 7 _ 42 rfl rfl (dep_at haf (by kernel_rfl))) rfl
                have e2 : a.tmps.getD 45 undef = .slice γ.p m γ.c := Eq.trans (hI.val 10 _ 45 rfl rfl (dep_at haf (by kernel_rfl))) rfl
                go_simp
                simp only [← Array.getD_eq_getD_getElem?, e1, e2]
                go_simp
                exact ⟨_, rfl, γ, rfl, fun j v _ h => h, hW.other (by decide) (by decide) (by decide)⟩
              | 12, _ =>
                obtain rfl := Option.some.inj (show some _ = some op from ho)
                have e1 : a.tmps.getD 46 undef = .agg #[.int .i64 ln, .slice γ.p m γ.c] := Eq.trans (hI.val 11 _ 46 rfl rfl (dep_at haf (by kernel_rfl))) rfl
                have x13 : x.getD 13 false = false := no_bit xi fun h => hcl.at (j := 13) rfl (k := 12) (by kernel_rfl) h
                go_simp
                simp only [← Array.getD_eq_getD_getElem?, e1]
                go_simp
                refine ⟨_, rfl, ⟨γ.p, γ.c, z.heap.size, γ.g, γ.cap⟩, rfl, fun j v hj h => Eq.trans h (bkV_b (fun e => ?_)), hW.block x13⟩
                subst e; exact gd_no xi hj
              | 13, _ =>
                obtain rfl := Option.some.inj (show some _ = some op from ho)
                have e1 : a.tmps.getD 40 undef = u := Eq.trans (hI.val 5 _ 40 rfl rfl (dep_at haf (by kernel_rfl))) rfl
                have e2 : a.tmps.getD 47 undef = .slice (some ⟨γ.b, 0, none⟩) 1 1 := Eq.trans (hI.val 12 _ 47 rfl rfl (dep_at haf (by kernel_rfl))) rfl
                have x12 : x.getD 12 false = true := dep_at haf (by kernel_rfl)
                have x15 : x.getD 15 false = false := no_bit xi fun h => hcl.at (j := 15) rfl (k := 13) (by kernel_rfl) h
                have hbl := hW.bl x12 xi
                have low := hW.a xi
                refine wp_append_lies _ (.tmp 40) (.tmp 47) 42 rfl w.heap.size 50 r0 (.agg #[.int .i64 0, .slice none 0 0]) 2 32 Tryd.underlying42 hri hr0 hr1 hr2 rfl (by omega) u c.length (rnC c) e1 (own_below uo.out low)
                  ⟨γ.b, 0, none⟩ 1 1 [.int .i64 ln, .slice γ.p m γ.c] e2 rfl (World.news_of_block (cs := #[.int .i64 ln, .slice γ.p m γ.c]) hbl) (by simp [Value.oneCell'])
                  (by omega) (by unfold maxLen; omega) (by omega) (Nat.le_trans wqs.out low.size) z.heap.size rfl ?_
                intro gg cap' z' hO gO hat hlt2
                refine ⟨_, ⟨γ.p, γ.c, γ.b, gg, cap'⟩, rfl, fun d hd => rfl, fun j v hj h => Eq.trans h (bkV_g (fun e => ?_)), hW.appd xi x15 (by rw [hx]; decide) gO hat hO⟩
                subst e; rw [xi] at hj; cases hj
              | 14, _ =>
                obtain rfl := Option.some.inj (show some _ = some op from ho)
                have e1 : a.tmps.getD 35 undef = .slice (some ⟨go, 0, none⟩) N capo := Eq.trans (hI.val 0 _ 35 rfl rfl (dep_at haf (by kernel_rfl))) rfl
                have e2 : a.tmps.getD 36 undef = .int .i64 (K : Int) := Eq.trans (hI.val 1 _ 36 rfl rfl (dep_at haf (by kernel_rfl))) rfl
                go_simp
                exact ⟨_, rfl, γ, rfl, fun j v _ h => h, hW.other (by decide) (by decide) (by decide)⟩
              | 15, _ =>
                obtain rfl := Option.some.inj (show some _ = some op from ho)
                have e1 : a.tmps.getD 49 undef = .pointer (some ⟨go, K, none⟩) := Eq.trans (hI.val 14 _ 49 rfl rfl (dep_at haf (by kernel_rfl))) rfl
                have e2 : a.tmps.getD 48 undef = .slice (some ⟨γ.g, 0, none⟩) (c.length + 1) γ.cap := Eq.trans (hI.val 13 _ 48 rfl rfl (dep_at haf (by kernel_rfl))) rfl
                have x13 : x.getD 13 false = true := dep_at haf (by kernel_rfl)
                have hput := hW.put x13 xi (by rw [hx]; decide)
                obtain ⟨z3, h1, h2, h3⟩ := hW.ap x13
                obtain rfl := h2 xi
                have k := h1.ro (K := K) (N := N) (capo := capo) stq.out hK.out
                have m0 := k.1
                have m1 := k.2
                clear h1 h2 h3 k
                replace hput : Hid (BkW w wq go K u c ln m γ (x.setIfInBounds 15 true) (z.setCell ⟨go, K, none⟩ (.slice (some ⟨γ.g, 0, none⟩) (c.length + 1) γ.cap))) := hput
                go_simp
                exact ⟨γ, fun j v _ h => h, hput⟩
            · intro γ x a z hx hall hI hW
              have fin := hW.fin (ws := ws) (hall 13 (by decide)) (hall 15 (by decide)) hK.out stq.out
              have ha := RegI.tmps (V := bkV go K capo N rb u ln (some ⟨gp, op, none⟩) m cu c.length γ) hI (by kernel_rfl) hall
              simp only [putsL, bkV, List.setIfInBounds_toArray, List.set_cons_zero, List.set_cons_succ] at ha
              subst ha
              replace fin : Hid (BkSt w z (.slice (some ⟨go, 0, none⟩) N capo) (us0 ++ [.slice (some ⟨γ.g, 0, none⟩) (c.length + 1) γ.cap]) (cs0 ++ [c ++ [((ln, ws), .slice γ.p m γ.c)]])) := fin
              have nx' : Hid (BkRW (rs.take (k + 1)) (cs0 ++ [c ++ [((ln, ws), .slice γ.p m γ.c)]])) := nx.out γ.p γ.c
              clear hI hW hall hx stq cO cL cW cln uo nx kL hK wqs
              go_wp2
              exact ⟨⟨k + 1, _, _, by omega, by simp, fin, nx'⟩, by simp [intOf]; omega⟩
    · obtain rfl : k = len := by omega
      have fin : Hid (BkRW rs cs) := by
        have h := lf.out
        rwa [List.take_of_length_le (by have := hlen.out; omega)] at h
      clear lf hv
      go_wp2
      go_ret
      exact ⟨_, us, cs, rfl, st.out, fin.out⟩
end Go.Proofs.YtagkgneijdbkoaaDoor
/-
  DescBlocks, out of what its callees return (layer 8). Conditions: the library's table of white space is as laid.
-/
namespace Go.Proofs.YtagkgneijdbkoaaDoor
open Go.RowKit
set_option linter.unusedVariables false

theorem drN8 (w : World) (a b : Nat) : (w.drewN a).drewN b = w.drewN (a + b) := by simp [World.drewN, Nat.add_assoc]
/-- where the law stands: ahead of block i; ahead of line k of block i -/
structure PosO (rs : List Lr) (bs : List (List Lr)) (i n : Nat) : Prop where
  le : n ≤ rs.length
  dr : rs.drop n = (bs.drop i).flatten
  z : i = 0 → n = 0
structure PosI (rs : List Lr) (bs : List (List Lr)) (c : List Lr) (i k n : Nat) : Prop where
  le : n ≤ rs.length
  dr : rs.drop n = c.drop k ++ (bs.drop (i + 1)).flatten
  z : i = 0 → k = 0 → n = 0
theorem PosO.first {rs : List Lr} {bs : List (List Lr)} (h : BkR rs bs) : PosO rs bs 0 0 := ⟨Nat.zero_le _, by rw [List.drop_zero, List.drop_zero, h.flat], fun _ => rfl⟩
theorem PosO.into {rs : List Lr} {bs : List (List Lr)} {i n : Nat} (h : PosO rs bs i n) (hi : i < bs.length) : PosI rs bs bs[i] i 0 n := ⟨h.le, by rw [h.dr, List.drop_eq_getElem_cons hi, List.flatten_cons, List.drop_zero], fun e _ => h.z e⟩
theorem PosI.out {rs : List Lr} {bs : List (List Lr)} {c : List Lr} {i k n : Nat} (h : PosI rs bs c i k n) (hk : c.length ≤ k) (hc : c ≠ []) : PosO rs bs (i + 1) n := ⟨h.le, by rw [h.dr, List.drop_of_length_le hk, List.nil_append], fun e => by omega⟩
theorem PosI.at {rs : List Lr} {bs : List (List Lr)} {c : List Lr} {i k n : Nat} (h : PosI rs bs c i k n) (hk : k < c.length) : rs[n]? = some c[k] ∧ n < rs.length ∧ PosI rs bs c i (k + 1) (n + 1) := by
  have e := h.dr
  rw [List.drop_eq_getElem_cons hk, List.cons_append] at e
  have hn : n < rs.length := by
    rcases Nat.lt_or_ge n rs.length with h | h
    · exact h
    · rw [List.drop_of_length_le h] at e; cases e
  rw [List.drop_eq_getElem_cons hn] at e
  injection e with e1 e2
  exact ⟨by rw [List.getElem?_eq_getElem hn, e1], hn, by omega, e2, fun _ h => by omega⟩
theorem PosO.fin {rs : List Lr} {bs : List (List Lr)} {i n : Nat} (h : PosO rs bs i n) (hi : bs.length ≤ i) : n = rs.length := by
  have e := h.dr
  rw [List.drop_of_length_le hi] at e
  have : (rs.drop n).length = 0 := by rw [e]; rfl
  rw [List.length_drop] at this
  have := h.le
  omega
/-- whether line k of block i begins with device -/
theorem BkR.dev {rs : List Lr} {bs : List (List Lr)} (h : BkR rs bs) {i k : Nat} (hi : i < bs.length) (hk : k < bs[i].length) : (¬ k = 0 → isDev bs[i][k] = false) ∧ (k = 0 → ¬ i = 0 → isDev bs[i][k] = true) := by
  constructor
  · intro h0
    refine h.tl bs[i] (List.getElem_mem hi) _ ?_
    obtain ⟨j, rfl⟩ : ∃ j, k = j + 1 := ⟨k - 1, by omega⟩
    have e : bs[i].tail[j]? = Option.some bs[i][j + 1] := by rw [List.getElem?_tail, List.getElem?_eq_getElem hk]
    exact List.mem_of_getElem? e
  · intro h0 h1
    subst h0
    obtain ⟨j, rfl⟩ : ∃ j, i = j + 1 := ⟨i - 1, by omega⟩
    have e : bs.tail[j]? = Option.some bs[j + 1] := by rw [List.getElem?_tail, List.getElem?_eq_getElem hi]
    refine h.hd bs[j + 1] (List.mem_of_getElem? e) _ ?_
    rw [List.head?_eq_getElem?, List.getElem?_eq_getElem hk]
    rfl
/-- block i in memory -/
theorem BkSt.at {w x : World} {vo : Value} {us : List Value} {cs : List (List Rn)} (st : BkSt w x vo us cs) (wd : WdR cs) {i : Nat} (hi : i < us.length) (hi' : i < cs.length) (hne : cs[i] ≠ []) :
    ∃ go capo gi ci, vo = .slice (some ⟨go, 0, none⟩) us.length capo ∧ x.cell? ⟨go, i, none⟩ = some (.slice (some ⟨gi, 0, none⟩) cs[i].length ci) ∧
      ∀ k (hk : k < cs[i].length), ∃ p cc, x.cell? ⟨gi, k * 2, none⟩ = some (.int .i64 (cs[i][k]).1.1) ∧ x.cell? ⟨gi, k * 2 + 1, none⟩ = some (.slice p (cs[i][k]).1.2.length cc) := by
  obtain ⟨go, capo, e, _, _⟩ := World.ownsRow.form st.ro (by omega)
  have ro := st.ro
  rw [e] at ro
  have inn := st.inn i hi hi'
  obtain ⟨gi, ci, e2, _, _⟩ := World.ownsRow.form inn (List.length_pos_iff.2 hne)
  refine ⟨go, capo, gi, ci, e, ?_, fun k hk => ?_⟩
  · rw [World.ownsRow.cellAt ro i (by omega), List.getElem?_eq_getElem hi, e2]
  · rw [e2] at inn
    obtain ⟨c1, c2⟩ := rnC_get hk
    rw [Nat.mul_comm 2 k] at c1 c2
    obtain ⟨p, cc, ef⟩ := wd cs[i] (List.getElem_mem hi') cs[i][k] (List.getElem_mem hk)
    exact ⟨p, cc, (World.ownsRow.cellAt inn _ (by omega)).trans c1, (World.ownsRow.cellAt inn _ (by omega)).trans (by rw [c2, ef])⟩
def DevR (c : List Rn) (i : Nat) : Prop := ∀ k (hk : k < c.length), (¬ k = 0 → isDev (c[k]).1 = false) ∧ (k = 0 → ¬ i = 0 → isDev (c[k]).1 = true)
def BkAt (x : World) (gi : Nat) (c : List Rn) : Prop := ∀ k (hk : k < c.length), ∃ p cc, x.cell? ⟨gi, k * 2, none⟩ = some (.int .i64 (c[k]).1.1) ∧ x.cell? ⟨gi, k * 2 + 1, none⟩ = some (.slice p (c[k]).1.2.length cc)
def BkC (rs : List Lr) : Prop := ∀ v x, RowsC x.heap.size x v rs → Calls Tryd.prog 15 #[v] x fun e y => ∃ v' us cs, e = .returned v' ∧ BkSt x y v' us cs ∧ BkRW rs cs

set_option maxRecDepth 100000 in
set_option maxHeartbeats 8000000 in
theorem dblocks_few (w : World) (aw : Hid (AwC w)) (v : Value) (fw : Hid (FewC w v false)) :
    Calls Tryd.prog 6 #[v] w fun e y => e = .returned (.bool true) ∧ Below w.heap.size w y := by
  go_enter Tryd.func6, Tryd.ntmps6
  go_wp2_with fail
  refine (aw.out w (Below.refl _ _)).mono ?_
  rintro e y ⟨rfl, hb⟩
  replace hb : Hid (Below w.heap.size w y) := hb
  go_wp2_with fail
  refine (fw.out y hb.out).mono ?_
  rintro e y' ⟨rfl, hy⟩
  replace hy := hy.symm
  subst hy
  clear fw
  go_wp2_with fail
  refine (aw.out y hb.out).mono ?_
  rintro e y2 ⟨rfl, hb2⟩
  have hb3 : Hid (Below w.heap.size w y2) := hb.out.trans (hb2.mono hb.out.size)
  clear hb hb2
  go_wp2
  go_ret
  exact ⟨rfl, hb3.out⟩

set_option maxRecDepth 100000 in
set_option maxHeartbeats 16000000 in
theorem dblocks_main (w : World) (aw : Hid (AwC w)) (p : Option Addr) (n1 cap : Nat) (rs : List Lr) (hlen : Hid (rs.length = n1)) (h60 : (n1 : Int) ≤ 60) (hwl : Hid (∀ r ∈ rs, (r.2.length : Int) ≤ 4500)) (hv : Hid (RowsC w.heap.size w (.slice p n1 cap) rs)) (fw : Hid (FewC w (.slice p n1 cap) true)) (rw : Hid (RwsC w (.slice p n1 cap) rs)) (bk : Hid (BkC rs)) :
    Calls Tryd.prog 6 #[.slice p n1 cap] w fun e y => e = .returned (.bool true) ∧ Below w.heap.size w y := by
  go_enter Tryd.func6, Tryd.ntmps6
  go_wp2_with fail
  refine (aw.out w (Below.refl _ _)).mono ?_
  rintro e y ⟨rfl, hb⟩
  replace hb : Hid (Below w.heap.size w y) := hb
  clear aw
  go_wp2_with fail
  refine (fw.out y hb.out).mono ?_
  rintro e y' ⟨rfl, hy⟩
  replace hy := hy.symm
  subst hy
  clear fw
  go_wp2_with fail
  refine (rw.out y hb.out).mono ?_
  rintro e y1 ⟨v1, rfl, hv1, hb1⟩
  have B1 : Hid (Below w.heap.size w y1) := hb.out.trans (hb1.mono hb.out.size)
  have bkv := Hid.out (p := BkC rs) bk v1 y1 hv1
  clear hb1 hb rw hv1 bk
  replace bkv : Hid (Calls Tryd.prog 15 #[v1] y1 fun e y => ∃ v' us cs, e = .returned v' ∧ BkSt y1 y v' us cs ∧ BkRW rs cs) := bkv
  go_wp2_with fail
  refine bkv.out.mono ?_
  rintro e y2 ⟨vo, us, cs, rfl, st, rw⟩
  have B2 : Hid (Below w.heap.size w y2) := B1.out.trans (st.b.mono B1.out.size)
  have cnt := rw.r.cnt
  have lu : us.length = cs.length := st.len
  have lo : (outR cs).length = cs.length := by unfold outR; simp
  obtain ⟨nb, hnb⟩ : ∃ nb, cs.length = nb := ⟨_, rfl⟩
  have nb60 : (nb : Int) ≤ 60 := by have := hlen.out; have := cnt.1; omega
  obtain ⟨pb, cb, hvo⟩ : ∃ p c, vo = .slice p nb c := by
    rcases own_slice st.ro with ⟨e, e2⟩ | ⟨g, c, e, _⟩
    · exact ⟨none, 0, by rw [e, ← hnb, ← lu, e2]⟩
    · exact ⟨_, c, by rw [e, lu, hnb]⟩
  subst hvo
  replace hnb : Hid (cs.length = nb) := hnb
  replace lu : Hid (us.length = cs.length) := lu
  replace lo : Hid ((outR cs).length = cs.length) := lo
  replace st : Hid (BkSt y1 y2 (.slice pb nb cb) us cs) := st
  have P0 : Hid (PosO rs (outR cs) 0 0) := .first rw.r
  replace rw : Hid (BkRW rs cs) := rw
  have cn : Hid (∀ c ∈ cs, (c.length : Int) ≤ 60) := fun c hc => by have := hlen.out; have := cnt.2 c hc; omega
  clear cnt B1 bkv
  go_wp2
  go_loopw [4, 5, 6, 7] (fun vn vi vk vd wr => ∃ i n d : Nat, (i : Int) ≤ (nb : Int) ∧ (n : Int) ≤ (n1 : Int) ∧ vi = .int .i64 (i : Int) ∧ vn = .int .i64 (n : Int) ∧ wr = y2.drewN d ∧ Hid (PosO rs (outR cs) i n)) (fun vn vi vk vd wr => nb - (intOf vi).toNat)
  case atStart => exact ⟨0, 0, 0, by omega, by omega, rfl, rfl, rfl, P0⟩
  case round =>
    obtain ⟨i, n, d, hi, hn, rfl, rfl, rfl, po⟩ := hrel
    clear P0
    by_cases hlt : i < nb
    · have hii : (i : Int) < (nb : Int) := by omega
      have hic : i < cs.length := by have := hnb.out; omega
      have hio : i < (outR cs).length := by have := lo.out; omega
      have hne : cs[i] ≠ [] := fun e => rw.out.r.ne (cs[i].map (·.1)) (List.mem_map.2 ⟨_, List.getElem_mem hic, rfl⟩) (by rw [e]; rfl)
      obtain ⟨go, capo, gi, ci, e1, d0, dk⟩ := st.out.at rw.out.w (i := i) (by have := lu.out; omega) hic hne
      have e1' : pb = some ⟨go, 0, none⟩ := by injection e1
      subst e1'
      clear e1
      have oi : (outR cs)[i]'hio = cs[i].map (·.1) := by unfold outR; simp
      have pi := po.out.into hio
      rw [oi] at pi
      have dv : Hid (DevR cs[i] i) := fun k hk => by
        have h := rw.out.r.dev (i := i) (k := k) hio (by rw [oi, List.length_map]; exact hk)
        have e2 : ((outR cs)[i]'hio)[k]'(by rw [oi, List.length_map]; exact hk) = (cs[i][k]).1 := by simp [oi]
        rw [e2] at h
        exact h
      have cl := cn.out cs[i] (List.getElem_mem hic)
      replace dk : Hid (BkAt y2 gi cs[i]) := dk
      generalize hci : cs[i] = c at *
      clear hci
      obtain ⟨L, hL⟩ : ∃ L, c.length = L := ⟨_, rfl⟩
      have L0 : 0 < L := by have := List.length_pos_iff.2 hne; omega
      rw [hL] at d0 cl
      replace hL : Hid (c.length = L) := hL
      have L0i : ((L : Int) == 0) = false := beq_eq_false_iff_ne.2 (by omega)
      replace pi : Hid (PosI rs (outR cs) (c.map (·.1)) i 0 n) := pi
      replace hne : Hid (c ≠ []) := hne
      clear po oi hio hic
      go_upto_region 11 with fail
      go_loopw [4, 6, 7] (fun vn vk vd wr => ∃ k n d : Nat, (k : Int) ≤ (L : Int) ∧ (n : Int) ≤ (n1 : Int) ∧ vk = .int .i64 (k : Int) ∧ vn = .int .i64 (n : Int) ∧ wr = y2.drewN d ∧ Hid (PosI rs (outR cs) (c.map (·.1)) i k n)) (fun vn vk vd wr => L - (intOf vk).toNat)
      case atStart => exact ⟨0, n, d, by omega, by omega, rfl, rfl, rfl, pi⟩
      case round =>
        obtain ⟨k, n, d, hk, hn, rfl, rfl, rfl, pi⟩ := hrel
        by_cases hkl : k < L
        · have hki : (k : Int) < (L : Int) := by omega
          have hkc : k < c.length := by have := hL.out; omega
          obtain ⟨q1, q2, q3⟩ := pi.out.at (by rw [List.length_map]; exact hkc)
          have hnl : n < n1 := by have := hlen.out; omega
          have hni : (n : Int) < (n1 : Int) := by omega
          obtain ⟨g, o, pu, cu, ep, x1, c0, c1, hw⟩ := hv.out.at hlen.out B2.out hnl
          subst ep
          clear x1
          obtain ⟨pc, cc, a0, a1⟩ := dk.out k hkc
          have er : (c[k]).1 = rs[n]'q2 := by
            have h := q1
            rw [List.getElem?_eq_getElem q2] at h
            have h := Option.some.inj h
            rw [h]; simp
          obtain ⟨dv1, dv2⟩ := dv.out k hkc
          rw [er] at a0 a1 dv1 dv2
          have zn := pi.out.z
          generalize rs[n]'q2 = r at *
          obtain ⟨ln, ws⟩ := r
          simp only at a0 a1 c0 c1 hw
          replace q3 : Hid (PosI rs (outR cs) (c.map (·.1)) i (k + 1) (n + 1)) := q3
          have kb : 0 ≤ (k : Int) := by omega
          have nbd : (n : Int) ≤ 60 := by omega
          clear er pi q1 q2 hkc hL hn
          cases ws with
          | nil =>
            have hD : isDev (ln, ([] : List Wd)) = false := rfl
            by_cases hk0 : k = 0
            · have hn0 : n = 0 := by
                by_cases hi0 : i = 0
                · exact zn hi0 hk0
                · have := dv2 hk0 hi0; rw [hD] at this; cases this
              have bk0 : ((k : Int) == 0) = true := beq_iff_eq.2 (by omega)
              have bn0 : ¬ (0 : Int) < (n : Int) := by omega
              clear zn dv1 dv2 hD hk0 hn0 hw
              go_upto_region 13 with fail
              go_quiet (fail)
              go_wp2
              exact ⟨⟨k + 1, n + 1, _, by omega, by omega, by simp <;> omega, by simp <;> omega, rfl, q3⟩, by simp [intOf]; omega⟩
            · have bk0 : ((k : Int) == 0) = false := beq_eq_false_iff_ne.2 (by omega)
              clear zn dv1 dv2 hD hk0 hw
              go_upto_region 13 with fail
              go_quiet (fail)
              go_wp2
              exact ⟨⟨k + 1, n + 1, _, by omega, by omega, by simp <;> omega, by simp <;> omega, rfl, q3⟩, by simp [intOf]; omega⟩
          | cons f a =>
            obtain ⟨gp, op, cp1, ep, hip, x1⟩ := hw.cons2'
            clear x1
            injection ep with ep1 ep2 ep3
            subst ep1
            clear ep2 ep3
            have k2 : y2.cell? ⟨gp, op, none⟩ = some (.string (txt f)) := hip 0 (by simp)
            have t1 : (txt f == ⟨#[100, 101, 118, 105, 99, 101]⟩) = decide (f = kDev) := txt_beq f kDev
            have w1 : ((txt f).toList == [100, 101, 118, 105, 99, 101]) = decide (f = kDev) := by
              rw [Bool.eq_iff_iff, decide_eq_true_iff, beq_iff_eq, ByteArray.toList_eq]
              exact ⟨fun h => h, fun h => by rw [h]; rfl⟩
            have hD : isDev (ln, f :: a) = decide (f = kDev) := rfl
            have u1 : 0 < (((f :: a).length : Nat) : Int) := by simp only [List.length_cons]; omega
            rw [hD] at dv1 dv2
            clear hD hip hw
            generalize hl1 : (f :: a).length = m at *
            generalize decide (f = kDev) = D at *
            generalize txt f = S at *
            clear hl1 f a
            cases D with
            | true =>
              have hk0 : k = 0 := Classical.byContradiction fun h => by have := dv1 h; cases this
              have bk0 : ((k : Int) == 0) = true := beq_iff_eq.2 (by omega)
              clear zn dv1 dv2 hk0
              go_upto_region 13 with fail
              go_quiet (fail)
              go_wp2
              exact ⟨⟨k + 1, n + 1, _, by omega, by omega, by simp <;> omega, by simp <;> omega, rfl, q3⟩, by simp [intOf]; omega⟩
            | false =>
              by_cases hk0 : k = 0
              · have hn0 : n = 0 := by
                  by_cases hi0 : i = 0
                  · exact zn hi0 hk0
                  · have := dv2 hk0 hi0; cases this
                have bk0 : ((k : Int) == 0) = true := beq_iff_eq.2 (by omega)
                have bn0 : ¬ (0 : Int) < (n : Int) := by omega
                clear zn dv1 dv2 hk0 hn0
                go_upto_region 13 with fail
                go_quiet (fail)
                go_wp2
                exact ⟨⟨k + 1, n + 1, _, by omega, by omega, by simp <;> omega, by simp <;> omega, rfl, q3⟩, by simp [intOf]; omega⟩
              · have bk0 : ((k : Int) == 0) = false := beq_eq_false_iff_ne.2 (by omega)
                clear zn dv1 dv2 hk0
                go_upto_region 13 with fail
                go_quiet (fail)
                go_wp2
                exact ⟨⟨k + 1, n + 1, _, by omega, by omega, by simp <;> omega, by simp <;> omega, rfl, q3⟩, by simp [intOf]; omega⟩
        · obtain rfl : k = L := by omega
          have nx : Hid (PosO rs (outR cs) (i + 1) n) := pi.out.out (by rw [List.length_map, hL.out]; exact Nat.le_refl _) (by intro e; exact hne.out (List.map_eq_nil_iff.1 e))
          clear pi
          go_wp2
          exact ⟨⟨i + 1, n, _, by omega, by omega, by simp, rfl, rfl, nx⟩, by simp [intOf]; omega⟩
    · obtain rfl : i = nb := by omega
      have hfin : n = n1 := by have h := po.out.fin (by rw [lo.out, hnb.out]; exact Nat.le_refl _); rw [hlen.out] at h; exact h
      subst hfin
      clear po
      go_wp2
      go_ret
      exact ⟨rfl, B2.out.trans ((below_dn _ _).mono B2.out.size)⟩

theorem dblocks_any (w : World) (T7 : Tab7 w) (v : Value) (rs : List Lr) (hv : RowsC w.heap.size w v rs) (hn : (rs.length : Int) ≤ 9223372036854775807) :
    Calls Tryd.prog 6 #[v] w fun e y => e = .returned (.bool true) ∧ Below w.heap.size w y := by
  have aw : Hid (AwC w) := fun x hb => awake8_any x (T7.below hb)
  have fw := fewC hv hn
  cases hT : fewB rs with
  | false => rw [hT] at fw; exact dblocks_few w aw v fw
  | true =>
    rw [hT] at fw
    obtain ⟨b1, b2, b3⟩ := few_bd hT
    obtain ⟨p, cap, rfl⟩ := hv.form
    have h60 := (few_spec hT).1
    exact dblocks_main w aw p rs.length cap rs rfl (by omega) b2 hv fw (rwsC hv b1) (fun v x h => blocks_any v x rs h b1 b2)
end Go.Proofs.YtagkgneijdbkoaaDoor
