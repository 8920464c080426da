/-
  Texts that belong together, one behind the other: LexWordM, LexMem, BitMath. Conditions: as each says.
-/
import Derived.Test.YtllkkgcfhphgmaaJs1
import Derived.Test.YtllkkgcfhphgmaaJs2
import Derived.Test.YtllkkgcfhphgmaaJs3
/-
  Numbers, bytes and names of words, plainly (layer 7). No function of a program is named here. No conditions but those that each says.
-/
namespace Go.Proofs.Ytllkkgcfhphgmaa
open Go.RowKit
set_option linter.unusedVariables false

/-- four bits; -1 -/
def halfC (c : Nat) : Int := if 48 ≤ c ∧ c ≤ 57 then (c : Int) - 48 else if 97 ≤ c ∧ c ≤ 102 then (c : Int) - 87 else -1
theorem half_bd (c : Nat) : -1 ≤ halfC c ∧ halfC c ≤ 15 := by unfold halfC; split <;> (try split) <;> omega
/-- the bytes of pairs -/
def hexO : List UInt8 → Option (List Nat)
  | [] => some []
  | [_] => none
  | a :: b :: r => if 0 ≤ halfC a.toNat ∧ 0 ≤ halfC b.toNat then (hexO r).map (fun t => (16 * halfC a.toNat + halfC b.toNat).toNat :: t) else none
def hexR (l : List UInt8) : Option (List Nat) := if l = [] then none else hexO l
theorem hex_odd : ∀ (l : List UInt8), l.length % 2 = 1 → hexO l = none
  | [], h => by simp at h
  | [_], _ => rfl
  | a :: b :: r, h => by
    have := hex_odd r (by simp at h; omega)
    rw [hexO]
    split
    · rw [this]; rfl
    · rfl
theorem hex_bytes : ∀ (l : List UInt8) {bs : List Nat}, hexO l = some bs → AllBytes bs ∧ bs.length ≤ l.length
  | [], bs, h => by
    have e : [] = bs := by simpa [hexO] using h
    subst e; exact ⟨(fun c hc => by cases hc), Nat.le_refl _⟩
  | [_], bs, h => by cases h
  | a :: b :: r, bs, h => by
    rw [hexO] at h
    split at h
    · rename_i hc
      cases hr : hexO r with
      | none => rw [hr] at h; cases h
      | some t =>
        rw [hr] at h
        have e : (16 * halfC a.toNat + halfC b.toNat).toNat :: t = bs := by simpa using h
        obtain ⟨i1, i2⟩ := hex_bytes r hr
        subst e
        have h1 := half_bd a.toNat
        have h2 := half_bd b.toNat
        refine ⟨fun c hc2 => ?_, by simp; omega⟩
        rcases List.mem_cons.1 hc2 with h3 | h3
        · omega
        · exact i1 c h3
    · cases h
/-- what is left of it -/
def LeftH (out : List Nat) (r : List UInt8) (T : Option (List Nat)) : Prop := (hexO r).map (fun t => out ++ t) = T
theorem LeftH.first (l : List UInt8) : LeftH [] l (hexO l) := by unfold LeftH; cases hexO l <;> rfl
theorem LeftH.fin {out : List Nat} {T : Option (List Nat)} (h : LeftH out [] T) : T = some out := by
  unfold LeftH at h; rw [← h]; simp [hexO]
theorem LeftH.two {out : List Nat} {a b : UInt8} {r : List UInt8} {T : Option (List Nat)} (h : LeftH out (a :: b :: r) T) (h1 : 0 ≤ halfC a.toNat) (h2 : 0 ≤ halfC b.toNat) : LeftH (out ++ [(16 * halfC a.toNat + halfC b.toNat).toNat]) r T := by
  unfold LeftH at *
  rw [hexO, if_pos ⟨h1, h2⟩] at h
  rw [← h]
  cases hexO r with
  | none => rfl
  | some t => simp
theorem LeftH.bad {out : List Nat} {a b : UInt8} {r : List UInt8} {T : Option (List Nat)} (h : LeftH out (a :: b :: r) T) (h1 : ¬ (0 ≤ halfC a.toNat ∧ 0 ≤ halfC b.toNat)) : T = none := by
  unfold LeftH at h
  rw [hexO, if_neg h1] at h
  exact h.symm
/-- a name's bytes -/
def lowB (c : UInt8) : Bool := decide (97 ≤ c.toNat ∧ c.toNat ≤ 122)
def nameC (c : UInt8) : Bool := decide ((97 ≤ c.toNat ∧ c.toNat ≤ 122) ∨ (48 ≤ c.toNat ∧ c.toNat ≤ 57))
def allN (l : List UInt8) : Bool := l.all nameC
def nameB (l : List UInt8) : Bool := decide (l.length ≤ 12) && (match l with | [] => false | c :: _ => lowB c && allN l)
theorem allN_stop {l : List UInt8} {k : Nat} (h : k < l.length) (hc : nameC l[k] = false) : allN l = false := by
  unfold allN
  rw [List.all_eq_false]
  exact ⟨l[k], List.getElem_mem h, by rw [hc]; simp⟩
theorem allN_next {l : List UInt8} {k : Nat} (h : k < l.length) (ha : allN (l.take k) = true) (hc : nameC l[k] = true) : allN (l.take (k + 1)) = true := by
  unfold allN at *
  rw [← List.take_append_getElem h, List.all_append, ha]
  simp [hc]
/-- a number from least to most -/
def numB (l : List UInt8) (lo hi : Int) : Bool := decide (readE l = 0 ∧ lo ≤ readV l ∧ readV l ≤ hi)
def numV (l : List UInt8) (lo hi : Int) : Int := if numB l lo hi = true then readV l else 0
theorem readV_bd (l : List UInt8) : -9223372036854775808 ≤ readV l ∧ readV l ≤ 9223372036854775807 := by
  have hf : ∀ n : Int, -9223372036854775808 ≤ fitV n ∧ fitV n ≤ 9223372036854775807 := fun n => by
    unfold fitV
    split
    · rename_i h; exact (fitB_iff n).1 h
    · omega
  have hc : ∀ t m, -9223372036854775808 ≤ coreV t m ∧ coreV t m ≤ 9223372036854775807 := fun t m => by
    unfold coreV
    split
    · omega
    · exact hf _
  unfold readV
  split <;> exact hc _ _
end Go.Proofs.Ytllkkgcfhphgmaa
/-
  Slices of texts and of lines in memory, handed over and being made (layer 7). No function of a program is named here. No conditions but those that each says.
-/
namespace Go.Proofs.Ytllkkgcfhphgmaa
open Go.RowKit
set_option linter.unusedVariables false

/-- a word as a text -/
def txt (w : Wd) : ByteArray := ⟨w.toArray⟩
theorem txt_inj {a b : Wd} (h : txt a = txt b) : a = b := by
  have e : (txt a).data.toList = (txt b).data.toList := by rw [h]
  exact e
theorem txt_size (w : Wd) : (txt w).size = w.length := by unfold txt; simp [ByteArray.size]
theorem txt_of (s : ByteArray) : txt s.data.toList = s := by unfold txt; simp
/-- texts, from a place on -/
def StrsIn (x : World) (g o : Nat) (ws : List Wd) : Prop := ∀ j (h : j < ws.length), x.cell? ⟨g, o + j, none⟩ = some (.string (txt ws[j]))
def StrsAt (x : World) (v : Value) (ws : List Wd) : Prop := (v = .slice none 0 0 ∧ ws = []) ∨ ∃ g o cap, v = .slice (some ⟨g, o, none⟩) ws.length cap ∧ StrsIn x g o ws ∧ g < x.heap.size
theorem StrsAt.below {x y : World} {v : Value} {ws : List Wd} (h : StrsAt x v ws) (k : Below x.heap.size x y) : StrsAt y v ws := by
  rcases h with h | ⟨g, o, cap, h1, h2, h3⟩
  · exact .inl h
  · exact .inr ⟨g, o, cap, h1, fun j hj => (k.cell (p := ⟨g, o + j, none⟩) h3).trans (h2 j hj), Nat.lt_of_lt_of_le h3 k.size⟩
/-- a line, its number and its words, from a place on -/
def RowIn (x : World) (g a : Nat) (r : Ln) : Prop := x.cell? ⟨g, a, none⟩ = some (.int .i64 (r.1 : Int)) ∧ ∃ u, x.cell? ⟨g, a + 1, none⟩ = some u ∧ StrsAt x u r.2
theorem RowIn.below {x y : World} {g a : Nat} {r : Ln} (h : RowIn x g a r) (hg : g < x.heap.size) (k : Below x.heap.size x y) : RowIn y g a r := by
  obtain ⟨h1, u, h2, h3⟩ := h
  exact ⟨(k.cell (p := ⟨g, a, none⟩) hg).trans h1, u, (k.cell (p := ⟨g, a + 1, none⟩) hg).trans h2, h3.below k⟩
def RowsAt (x : World) (v : Value) (rs : List Ln) : Prop := (v = .slice none 0 0 ∧ rs = []) ∨ ∃ g o cap, v = .slice (some ⟨g, o, none⟩) rs.length cap ∧ (∀ j (h : j < rs.length), RowIn x g (o + 2 * j) rs[j]) ∧ g < x.heap.size
theorem RowsAt.below {x y : World} {v : Value} {rs : List Ln} (h : RowsAt x v rs) (k : Below x.heap.size x y) : RowsAt y v rs := by
  rcases h with h | ⟨g, o, cap, h1, h2, h3⟩
  · exact .inl h
  · exact .inr ⟨g, o, cap, h1, fun j hj => (h2 j hj).below h3 k, Nat.lt_of_lt_of_le h3 k.size⟩
/-- what a slice of them looks like -/
theorem RowsAt.form {x : World} {v : Value} {rs : List Ln} (h : RowsAt x v rs) : (v = .slice none 0 0 ∧ rs = []) ∨ ∃ g o cap, v = .slice (some ⟨g, o, none⟩) rs.length cap := by
  rcases h with h | ⟨g, o, cap, h1, _⟩
  · exact .inl h
  · exact .inr ⟨g, o, cap, h1⟩

/-! being made -/
abbrev strV (ws : List Wd) : List Value := ws.map fun w => Value.string (txt w)
/-- lines that are done, each with its words' slice -/
abbrev Dn := Ln × Value
def dnC (fs : List Dn) : List Value := fs.flatMap fun f => [.int .i64 (f.1.1 : Int), f.2]
theorem dnC_len (fs : List Dn) : (dnC fs).length = fs.length * 2 := by
  induction fs with
  | nil => rfl
  | cons f fs ih => unfold dnC at *; rw [List.flatMap_cons, List.length_append, ih]; simp; omega
theorem dnC_snoc (fs : List Dn) (f : Dn) : dnC (fs ++ [f]) = dnC fs ++ [.int .i64 (f.1.1 : Int), f.2] := by unfold dnC; simp
theorem dnC_get {fs : List Dn} {j : Nat} (h : j < fs.length) : (dnC fs)[2 * j]? = some (.int .i64 (fs[j].1.1 : Int)) ∧ (dnC fs)[2 * j + 1]? = some fs[j].2 := by
  induction fs generalizing j with
  | nil => cases h
  | cons f fs ih =>
    unfold dnC at *
    rw [List.flatMap_cons]
    cases j with
    | zero => exact ⟨rfl, rfl⟩
    | succ j =>
      have := ih (j := j) (by simpa using h)
      rw [show 2 * (j + 1) = 2 * j + 2 by omega]
      simp only [List.getElem_cons_succ]
      exact this
structure DnOk (w x : World) (f : Dn) (a b : Option Nat) : Prop where
  sl : ∃ g cap, (f.2 = .slice (some ⟨g, 0, none⟩) f.1.2.length cap ∧ f.1.2.length ≤ cap) ∧ StrsIn x g 0 f.1.2 ∧ g < x.heap.size ∧ some g ≠ a ∧ some g ≠ b
  one : f.2.oneCell' = true
theorem DnOk.kept {w x y : World} {f : Dn} {a b a' b' row : Option Nat} (h : DnOk w x f a b) (hg : x.grownBy y row) (hr : ∀ g, some g ≠ a → some g ≠ b → some g ≠ row) (ha : ∀ g, g < x.heap.size → some g ≠ a → some g ≠ b → some g ≠ a') (hb : ∀ g, g < x.heap.size → some g ≠ a → some g ≠ b → some g ≠ b') : DnOk w y f a' b' := by
  obtain ⟨⟨g, cap, h1, h2, h3, h4, h5⟩, h6⟩ := h
  exact ⟨⟨g, cap, h1, fun j hj => hg.cell (h2 j hj) (hr g h4 h5), Nat.lt_of_lt_of_le h3 hg.size, ha g h3 h4 h5, hb g h3 h4 h5⟩, h6⟩
/-- what is being made: lines that are done in vo, words of a line in vw -/
structure LxSt (w x : World) (T : TypeId) (vo vw : Value) (fs : List Dn) (ws : List Wd) : Prop where
  ro : x.ownsRow w.heap.size T 2 vo fs.length (dnC fs)
  rw : x.ownsRow w.heap.size 9 1 vw ws.length (strV ws)
  fin : ∀ f ∈ fs, DnOk w x f vo.ownBlock vw.ownBlock
  ne : vo.ownBlock = none ∨ vo.ownBlock ≠ vw.ownBlock
  b : Below w.heap.size w x
theorem LxSt.first (w : World) (T : TypeId) : LxSt w w T (.slice none 0 0) (.slice none 0 0) [] [] :=
  ⟨World.ownsRow_nil _ _ _ _, World.ownsRow_nil _ _ _ _, fun f hf => (by cases hf), .inl rfl, Below.refl _ _⟩
theorem own_slice {x : World} {base : Nat} {e : TypeId} {size : Nat} {v : Value} {n : Nat} {xs : List Value} (h : x.ownsRow base e size v n xs) : (v = .slice none 0 0 ∧ n = 0) ∨ ∃ g cap, v = .slice (some ⟨g, 0, none⟩) n cap ∧ base ≤ g ∧ g < x.heap.size := by
  rcases h.2 with h1 | ⟨g, cap, cur, h1, h2, h3, _⟩
  · exact .inl h1
  · exact .inr ⟨g, cap, h1, h2, (Array.getElem?_eq_some_iff.1 h3).1⟩
theorem own_room {x : World} {base : Nat} {e : TypeId} {size : Nat} {v : Value} {n : Nat} {xs : List Value} (h : x.ownsRow base e size v n xs) : ∀ p m c, v = .slice p m c → m ≤ c := by
  rcases h.2 with ⟨h1, _⟩ | ⟨g, cap, cur, h1, _, _, h4, _⟩
  · intro p m c e; rw [h1] at e; injection e with _ e1 e2; omega
  · intro p m c e; rw [h1] at e; injection e with _ e1 e2; omega
/-- a word more -/
theorem LxSt.word {w x y : World} {T : TypeId} {vo vw v' : Value} {fs : List Dn} {ws : List Wd} {o : Obj} (h : LxSt w x T vo vw fs ws) (d : Wd) (hown : y.ownsRow w.heap.size 9 1 v' (ws.length + 1) (strV ws ++ [.string (txt d)])) (hg : (x.alloc o).grownBy y vw.ownBlock) (hv : v'.ownBlock = vw.ownBlock ∨ v'.ownBlock = some (x.alloc o).heap.size) : LxSt w y T vo v' fs (ws ++ [d]) := by
  have g1 := World.grownBy_alloc x o vw.ownBlock
  have lo := World.ownsRow.lt h.ro
  refine ⟨((World.ownsRow.alloc h.ro o).kept hg h.ne), ?_, ?_, ?_, ?_⟩
  · have e1 : (ws ++ [d]).length = ws.length + 1 := by simp
    have e2 : strV (ws ++ [d]) = strV ws ++ [.string (txt d)] := by unfold strV; simp
    rw [e1, e2]; exact hown
  · intro f hf
    have k1 : DnOk w (x.alloc o) f vo.ownBlock vw.ownBlock := (h.fin f hf).kept (World.grownBy_alloc x o none) (fun g _ _ e => by cases e) (fun g _ ha _ => ha) (fun g _ _ hb => hb)
    obtain ⟨⟨g0, cap0, q1, q2, q3, q4, q5⟩, q6⟩ := h.fin f hf
    refine ⟨?_, q6⟩
    refine ⟨g0, cap0, q1, fun j hj => hg.cell ((World.grownBy_alloc x o none).cell (q2 j hj) (by simp)) q5, Nat.lt_of_lt_of_le q3 (Nat.le_trans (World.grownBy_alloc x o none).size hg.size), q4, ?_⟩
    rcases hv with hv | hv
    · rw [hv]; exact q5
    · rw [hv, World.size_alloc]; intro e; have := Option.some.inj e; omega
  · rcases h.ne with h1 | h1
    · exact .inl h1
    · rcases hv with hv | hv
      · right; rw [hv]; exact h1
      · cases hvo : vo.ownBlock with
        | none => exact .inl rfl
        | some g =>
          right
          rw [hv, World.size_alloc]
          intro e
          have := Option.some.inj e
          have := (lo g hvo).2
          omega
  · exact (h.b.alloc h.b.size _).grown hg (by have := h.b.size; rw [World.size_alloc]; omega) (fun k e => (World.ownsRow.lt h.rw k e).1)
/-- the words are let go -/
theorem LxSt.letGo {w x : World} {T : TypeId} {vo vw : Value} {fs : List Dn} {ws : List Wd} (h : LxSt w x T vo vw fs ws) : LxSt w x T vo (.slice none 0 0) fs [] :=
  ⟨h.ro, World.ownsRow_nil _ _ _ _, fun f hf => by
    obtain ⟨⟨g, cap, q1, q2, q3, q4, q5⟩, q6⟩ := h.fin f hf
    exact ⟨⟨g, cap, q1, q2, q3, q4, by simp [Value.ownBlock]⟩, q6⟩, by
    cases hvo : vo.ownBlock with
    | none => exact .inl rfl
    | some g => right; simp [Value.ownBlock], h.b⟩
/-- a line more -/
theorem LxSt.line {w x y : World} {T : TypeId} {vo vw v' : Value} {fs : List Dn} {ws : List Wd} {o : Obj} (h : LxSt w x T vo vw fs ws) (hws : ¬ ws = []) (l : Nat) (hown : y.ownsRow w.heap.size T 2 v' (fs.length + 1) (dnC fs ++ [.int .i64 (l : Int), vw])) (hg : (x.alloc o).grownBy y vo.ownBlock) (hv : v'.ownBlock = vo.ownBlock ∨ v'.ownBlock = some (x.alloc o).heap.size) : LxSt w y T v' (.slice none 0 0) (fs ++ [((l, ws), vw)]) [] := by
  have lw := World.ownsRow.lt h.rw
  have eh : ∀ {g : Nat}, g < x.heap.size → some g ≠ vo.ownBlock → some g ≠ v'.ownBlock := fun {g} hg1 hg2 => by
    rcases hv with hv | hv
    · rw [hv]; exact hg2
    · rw [hv, World.size_alloc]; intro e; have := Option.some.inj e; omega
  obtain ⟨gw, capw, hvw, _, hgw⟩ : ∃ g cap, vw = .slice (some ⟨g, 0, none⟩) ws.length cap ∧ w.heap.size ≤ g ∧ g < x.heap.size := by
    rcases own_slice h.rw with ⟨_, e⟩ | k
    · exact absurd (List.length_eq_zero_iff.1 e) hws
    · exact k
  have nw : some gw ≠ vo.ownBlock := by
    rcases h.ne with h1 | h1
    · rw [h1]; simp
    · rw [hvw] at h1; exact fun e => h1 e.symm
  refine ⟨?_, World.ownsRow_nil _ _ _ _, ?_, ?_, ?_⟩
  · rw [List.length_append, List.length_singleton, dnC_snoc]; exact hown
  · intro f hf
    rcases List.mem_append.1 hf with hf | hf
    · obtain ⟨⟨g0, cap0, q1, q2, q3, q4, q5⟩, q6⟩ := h.fin f hf
      exact ⟨⟨g0, cap0, q1, fun j hj => hg.cell ((World.grownBy_alloc x o none).cell (q2 j hj) (by simp)) q4, Nat.lt_of_lt_of_le q3 (Nat.le_trans (World.grownBy_alloc x o none).size hg.size), eh q3 q4, by simp [Value.ownBlock]⟩, q6⟩
    · obtain rfl := List.mem_singleton.1 hf
      refine ⟨⟨gw, capw, ⟨hvw, own_room h.rw _ _ _ hvw⟩, fun j hj => ?_, Nat.lt_of_lt_of_le hgw (Nat.le_trans (World.grownBy_alloc x o none).size hg.size), eh hgw nw, by simp [Value.ownBlock]⟩, by rw [hvw]; rfl⟩
      have hc : x.cell? ⟨gw, 0 + j, none⟩ = some (.string (txt ws[j])) := by
        have hj' : j < ws.length := hj
        have k := h.rw
        rw [hvw] at k
        rw [Nat.zero_add, World.ownsRow.cellAt k j (by omega), List.getElem?_map, List.getElem?_eq_getElem hj']
        rfl
      exact hg.cell ((World.grownBy_alloc x o none).cell hc (by simp)) nw
  · cases hvo : v'.ownBlock with
    | none => exact .inl rfl
    | some g => right; simp [Value.ownBlock]
  · exact (h.b.alloc h.b.size _).grown hg (by have := h.b.size; rw [World.size_alloc]; omega) (fun k e => (World.ownsRow.lt h.ro k e).1)
/-- it is handed over -/
theorem LxSt.rows {w x : World} {T : TypeId} {vo vw : Value} {fs : List Dn} {ws : List Wd} (h : LxSt w x T vo vw fs ws) : RowsAt x vo (fs.map (·.1)) := by
  rcases own_slice h.ro with ⟨h1, h2⟩ | ⟨g, cap, h1, h2, h3⟩
  · exact .inl ⟨h1, by rw [List.length_eq_zero_iff.1 h2]; rfl⟩
  · refine .inr ⟨g, 0, cap, by rw [List.length_map]; exact h1, ?_, h3⟩
    intro j hj
    have hj' : j < fs.length := by rwa [List.length_map] at hj
    have k := h.ro
    rw [h1] at k
    obtain ⟨c1, c2⟩ := dnC_get hj'
    rw [List.getElem_map]
    refine ⟨?_, fs[j].2, ?_, ?_⟩
    · rw [Nat.zero_add, World.ownsRow.cellAt k _ (by omega)]; exact c1
    · rw [Nat.zero_add, World.ownsRow.cellAt k _ (by omega)]; exact c2
    · obtain ⟨⟨g0, cap0, q1, q2, q3, q4, q5⟩, q6⟩ := h.fin fs[j] (List.getElem_mem hj')
      exact .inr ⟨g0, 0, cap0, q1.1, q2, q3⟩
/-! with the words' room -/
def RowInC (x : World) (g a : Nat) (r : Ln) : Prop := x.cell? ⟨g, a, none⟩ = some (.int .i64 (r.1 : Int)) ∧ ∃ u, x.cell? ⟨g, a + 1, none⟩ = some u ∧ StrsAt x u r.2 ∧ ∀ p m c, u = .slice p m c → m ≤ c
def RowsAtC (x : World) (v : Value) (rs : List Ln) : Prop := (v = .slice none 0 0 ∧ rs = []) ∨ ∃ g o cap, v = .slice (some ⟨g, o, none⟩) rs.length cap ∧ (∀ j (h : j < rs.length), RowInC x g (o + 2 * j) rs[j]) ∧ g < x.heap.size
theorem RowsAtC.rows {x : World} {v : Value} {rs : List Ln} (h : RowsAtC x v rs) : RowsAt x v rs := by
  rcases h with h | ⟨g, o, cap, h1, h2, h3⟩
  · exact .inl h
  · exact .inr ⟨g, o, cap, h1, fun j hj => by obtain ⟨k1, u, k2, k3, _⟩ := h2 j hj; exact ⟨k1, u, k2, k3⟩, h3⟩
theorem LxSt.rowsC {w x : World} {T : TypeId} {vo vw : Value} {fs : List Dn} {ws : List Wd} (h : LxSt w x T vo vw fs ws) : RowsAtC x vo (fs.map (·.1)) := by
  rcases own_slice h.ro with ⟨h1, h2⟩ | ⟨g, cap, h1, h2, h3⟩
  · exact .inl ⟨h1, by rw [List.length_eq_zero_iff.1 h2]; rfl⟩
  · refine .inr ⟨g, 0, cap, by rw [List.length_map]; exact h1, ?_, h3⟩
    intro j hj
    have hj' : j < fs.length := by rwa [List.length_map] at hj
    have k := h.ro
    rw [h1] at k
    obtain ⟨c1, c2⟩ := dnC_get hj'
    rw [List.getElem_map]
    refine ⟨?_, fs[j].2, ?_, ?_, ?_⟩
    · rw [Nat.zero_add, World.ownsRow.cellAt k _ (by omega)]; exact c1
    · rw [Nat.zero_add, World.ownsRow.cellAt k _ (by omega)]; exact c2
    · obtain ⟨⟨g0, cap0, q1, q2, q3, q4, q5⟩, q6⟩ := h.fin fs[j] (List.getElem_mem hj')
      exact .inr ⟨g0, 0, cap0, q1.1, q2, q3⟩
    · obtain ⟨⟨g0, cap0, q1, q2, q3, q4, q5⟩, q6⟩ := h.fin fs[j] (List.getElem_mem hj')
      intro p m c e
      rw [q1.1] at e
      injection e with _ e1 e2
      have := q1.2
      omega
end Go.Proofs.Ytllkkgcfhphgmaa
/-
  Numbers in bytes, plainly: what bytes are read as, what a number is written as, there and back (layer 6). No function of a program is named here. No conditions but those that each says.
-/
namespace Go.Proofs.Ytllkkgcfhphgmaa
open Go.RowKit
set_option linter.unusedVariables false

/-! kinds -/
abbrev kBe : ByteArray := ⟨#[98, 101]⟩
abbrev kLe : ByteArray := ⟨#[108, 101]⟩
abbrev kSbe : ByteArray := ⟨#[115, 98, 101]⟩
abbrev kSle : ByteArray := ⟨#[115, 108, 101]⟩
abbrev kBcd : ByteArray := ⟨#[98, 99, 100]⟩
abbrev kDec : ByteArray := ⟨#[100, 101, 99]⟩
/-- which kind it is; 6: none of them -/
def kindI (s : ByteArray) : Nat := if s = kBe then 0 else if s = kLe then 1 else if s = kSbe then 2 else if s = kSle then 3 else if s = kBcd then 4 else if s = kDec then 5 else 6
/-- none of the kinds -/
def NoKind (s : ByteArray) : Prop := ¬ s = kBe ∧ ¬ s = kLe ∧ ¬ s = kSbe ∧ ¬ s = kSle ∧ ¬ s = kBcd ∧ ¬ s = kDec
theorem kind_be : kindI kBe = 0 := of_decide_eq_true (by kernel_rfl)
theorem kind_le : kindI kLe = 1 := of_decide_eq_true (by kernel_rfl)
theorem kind_sbe : kindI kSbe = 2 := of_decide_eq_true (by kernel_rfl)
theorem kind_sle : kindI kSle = 3 := of_decide_eq_true (by kernel_rfl)
theorem kind_bcd : kindI kBcd = 4 := of_decide_eq_true (by kernel_rfl)
theorem kind_dec : kindI kDec = 5 := of_decide_eq_true (by kernel_rfl)
theorem kind_no {s : ByteArray} (h : NoKind s) : kindI s = 6 := by
  obtain ⟨h0, h1, h2, h3, h4, h5⟩ := h
  unfold kindI
  rw [if_neg h0, if_neg h1, if_neg h2, if_neg h3, if_neg h4, if_neg h5]
theorem kind_cases (s : ByteArray) : s = kBe ∨ s = kLe ∨ s = kSbe ∨ s = kSle ∨ s = kBcd ∨ s = kDec ∨ NoKind s := by
  by_cases h0 : s = kBe
  · exact .inl h0
  by_cases h1 : s = kLe
  · exact .inr (.inl h1)
  by_cases h2 : s = kSbe
  · exact .inr (.inr (.inl h2))
  by_cases h3 : s = kSle
  · exact .inr (.inr (.inr (.inl h3)))
  by_cases h4 : s = kBcd
  · exact .inr (.inr (.inr (.inr (.inl h4))))
  by_cases h5 : s = kDec
  · exact .inr (.inr (.inr (.inr (.inr (.inl h5)))))
  exact .inr (.inr (.inr (.inr (.inr (.inr ⟨h0, h1, h2, h3, h4, h5⟩)))))
/-- is there such a width? -/
def rgtB (k : Nat) (n : Int) : Bool := if k < 5 then decide (1 ≤ n ∧ n ≤ 4) else if k = 5 then decide (1 ≤ n ∧ n ≤ 8) else false
/-- the least and the greatest number -/
def loK (k w : Nat) : Int :=
  match k with
  | 2 => -((256 ^ w / 2 : Nat) : Int)
  | 3 => -((256 ^ w / 2 : Nat) : Int)
  | 5 => 1 - ((10 ^ w / 10 : Nat) : Int)
  | _ => 0
def hiK (k w : Nat) : Int :=
  match k with
  | 0 => ((256 ^ w : Nat) : Int) - 1
  | 1 => ((256 ^ w : Nat) : Int) - 1
  | 2 => ((256 ^ w / 2 : Nat) : Int) - 1
  | 3 => ((256 ^ w / 2 : Nat) : Int) - 1
  | 4 => ((100 ^ w : Nat) : Int) - 1
  | 5 => ((10 ^ w : Nat) : Int) - 1
  | _ => 0

/-! bytes as a number -/
def beN (bs : List Nat) : Nat := bs.foldl (fun a c => 256 * a + c) 0
theorem beN_snoc (bs : List Nat) (c : Nat) : beN (bs ++ [c]) = 256 * beN bs + c := by simp [beN]
theorem beN_lt {bs : List Nat} (h : AllBytes bs) : beN bs < 256 ^ bs.length := by
  induction bs using snoc_ind with
  | h0 => decide
  | h1 bs c ih =>
    have h1 := ih (fun x hx => h x (by simp [hx]))
    have h2 := h c (by simp)
    rw [beN_snoc, List.length_append, List.length_singleton, Nat.pow_succ]
    omega
theorem beN_big (n : Nat) : ∀ v, beN (bigL v n) = v % 256 ^ n := by
  induction n with
  | zero => intro v; simp [bigL, beN, Nat.mod_one]
  | succ n ih =>
    intro v
    rw [bigL, beN_snoc, ih, Nat.pow_succ, Nat.mul_comm (256 ^ n), Nat.mod_mul]
    omega
theorem big_beN {bs : List Nat} (h : AllBytes bs) : bigL (beN bs) bs.length = bs := by
  induction bs using snoc_ind with
  | h0 => rfl
  | h1 bs c ih =>
    have h2 := h c (by simp)
    rw [List.length_append, List.length_singleton, bigL, beN_snoc]
    rw [show (256 * beN bs + c) / 256 = beN bs by omega, show (256 * beN bs + c) % 256 = c by omega, ih (fun x hx => h x (by simp [hx]))]
theorem all_rev {bs : List Nat} (h : AllBytes bs) : AllBytes bs.reverse := fun c hc => h c (List.mem_reverse.1 hc)
/-- with a sign -/
def sgnV (n l : Nat) : Int := if 256 ^ l / 2 ≤ n then (n : Int) - ((256 ^ l : Nat) : Int) else (n : Int)
theorem pow_even (w : Nat) (h : 1 ≤ w) : ∃ q, 256 ^ w = 2 * q ∧ 1 ≤ q := by
  obtain ⟨v, rfl⟩ : ∃ v, w = v + 1 := ⟨w - 1, by omega⟩
  have : 0 < 256 ^ v := Nat.pow_pos (by omega)
  exact ⟨256 ^ v * 128, by rw [Nat.pow_succ]; omega, by omega⟩
theorem sgn_back {w : Nat} (hw : 1 ≤ w) {n : Int} (h1 : -((256 ^ w / 2 : Nat) : Int) ≤ n) (h2 : n ≤ ((256 ^ w / 2 : Nat) : Int) - 1) : sgnV ((n % ((256 ^ w : Nat) : Int)).toNat % 256 ^ w) w = n := by
  obtain ⟨q, hq, _⟩ := pow_even w hw
  unfold sgnV
  generalize 256 ^ w = p at *
  subst hq
  have e2 : 2 * q / 2 = q := by omega
  rw [e2] at h1 h2 ⊢
  by_cases hn : 0 ≤ n
  · have e : n % ((2 * q : Nat) : Int) = n := Int.emod_eq_of_lt hn (by omega)
    rw [e, Nat.mod_eq_of_lt (by omega), if_neg (by omega)]; omega
  · have e : n % ((2 * q : Nat) : Int) = n + ((2 * q : Nat) : Int) := by
      rw [← Int.add_emod_right]; exact Int.emod_eq_of_lt (by omega) (by omega)
    rw [e, Nat.mod_eq_of_lt (by omega), if_pos (by omega)]; omega
theorem sgn_mod {w v : Nat} (hv : v < 256 ^ w) : (sgnV v w % ((256 ^ w : Nat) : Int)).toNat = v := by
  unfold sgnV
  by_cases h : 256 ^ w / 2 ≤ v
  · rw [if_pos h, Int.sub_emod_right, Int.emod_eq_of_lt (by omega) (by omega)]; omega
  · rw [if_neg h, Int.emod_eq_of_lt (by omega) (by omega)]; omega
theorem sgn_bd {w v : Nat} (hw : 1 ≤ w) (hv : v < 256 ^ w) : -((256 ^ w / 2 : Nat) : Int) ≤ sgnV v w ∧ sgnV v w ≤ ((256 ^ w / 2 : Nat) : Int) - 1 := by
  obtain ⟨q, hq, _⟩ := pow_even w hw
  unfold sgnV
  generalize 256 ^ w = p at *
  subst hq
  have e2 : 2 * q / 2 = q := by omega
  rw [e2]
  split <;> omega

/-! packed decimals -/
def bcdS (a : Option Nat) (c : Nat) : Option Nat :=
  match a with
  | none => none
  | some a => if c / 16 ≤ 9 ∧ c % 16 ≤ 9 then some (100 * a + c / 16 * 10 + c % 16) else none
def bcdO (bs : List Nat) : Option Nat := bs.foldl bcdS (some 0)
theorem bcdO_snoc (bs : List Nat) (c : Nat) : bcdO (bs ++ [c]) = bcdS (bcdO bs) c := by simp [bcdO]
theorem bcd_none (l : List Nat) : l.foldl bcdS none = none := by
  induction l with
  | nil => rfl
  | cons c l ih => exact ih
def bcdL (v : Nat) : Nat → List Nat
  | 0 => []
  | n + 1 => bcdL (v / 100) n ++ [v / 10 % 10 * 16 + v % 10]
theorem bcdL_len (n : Nat) : ∀ v, (bcdL v n).length = n := by
  induction n with
  | zero => intro v; rfl
  | succ n ih => intro v; simp [bcdL, ih]
theorem bcdL_bytes (n : Nat) : ∀ v, AllBytes (bcdL v n) := by
  induction n with
  | zero => intro v c hc; cases hc
  | succ n ih =>
    intro v c hc
    rw [bcdL] at hc
    rcases List.mem_append.1 hc with h | h
    · exact ih _ c h
    · rw [List.mem_singleton] at h; omega
theorem bcd_back (n : Nat) : ∀ v, v < 100 ^ n → bcdO (bcdL v n) = some v := by
  induction n with
  | zero => intro v h; simp at h; subst h; rfl
  | succ n ih =>
    intro v h
    rw [bcdL, bcdO_snoc, ih (v / 100) (by rw [Nat.pow_succ] at h; omega)]
    have e1 : (v / 10 % 10 * 16 + v % 10) / 16 = v / 10 % 10 := by omega
    have e2 : (v / 10 % 10 * 16 + v % 10) % 16 = v % 10 := by omega
    unfold bcdS
    simp only [e1, e2]
    rw [if_pos (by omega)]
    congr 1
    omega
theorem bcd_only {bs : List Nat} : ∀ {v : Nat}, bcdO bs = some v → bcdL v bs.length = bs ∧ v < 100 ^ bs.length := by
  induction bs using snoc_ind with
  | h0 => intro v h; have e : (0 : Nat) = v := by simpa [bcdO] using h
          subst e; exact ⟨rfl, by decide⟩
  | h1 bs c ih =>
    intro v h
    rw [bcdO_snoc] at h
    cases hb : bcdO bs with
    | none => rw [hb] at h; cases h
    | some a =>
      rw [hb] at h
      unfold bcdS at h
      simp only at h
      split at h
      · rename_i hc
        have e : 100 * a + c / 16 * 10 + c % 16 = v := by simpa using h
        obtain ⟨i1, i2⟩ := ih hb
        subst e
        refine ⟨?_, ?_⟩
        · rw [List.length_append, List.length_singleton, bcdL]
          rw [show (100 * a + c / 16 * 10 + c % 16) / 100 = a by omega, i1]
          rw [show (100 * a + c / 16 * 10 + c % 16) / 10 % 10 * 16 + (100 * a + c / 16 * 10 + c % 16) % 10 = c by omega]
        · rw [List.length_append, List.length_singleton, Nat.pow_succ]; omega
      · cases h

/-! decimal texts -/
def decS (a : Option Nat) (c : Nat) : Option Nat :=
  match a with
  | none => none
  | some a => if 48 ≤ c ∧ c ≤ 57 then some (10 * a + (c - 48)) else none
def digF (bs : List Nat) : Option Nat := bs.foldl decS (some 0)
theorem digF_snoc (bs : List Nat) (c : Nat) : digF (bs ++ [c]) = decS (digF bs) c := by simp [digF]
theorem dig_none (l : List Nat) : l.foldl decS none = none := by
  induction l with
  | nil => rfl
  | cons c l ih => exact ih
def digO (bs : List Nat) : Option Nat := if bs = [] then none else digF bs
def skipB (bs : List Nat) : List Nat := bs.dropWhile (fun c => c == 32)
def decO (bs : List Nat) : Option Int :=
  match skipB bs with
  | [] => none
  | c :: r => if c = 45 then (digO r).map (fun n : Nat => -(n : Int)) else (digO (c :: r)).map (fun n : Nat => (n : Int))
/-- a number's digits -/
def dgs (n : Nat) : List Nat := (dec 7 n).map UInt8.toNat
def decT (n : Int) : List Nat := if n < 0 then 45 :: dgs n.natAbs else dgs n.natAbs
def decL (w : Nat) (n : Int) : List Nat := List.replicate (w - (decT n).length) 32 ++ decT n
theorem dec_len (w : Nat) (hw : 1 ≤ w) : ∀ f n, n < 10 ^ w → (dec f n).length ≤ w := by
  induction w with
  | zero => omega
  | succ w ih =>
    intro f n h
    cases f with
    | zero => simp [dec]
    | succ f =>
      rw [dec]
      by_cases hn : n < 10
      · rw [if_pos hn]; simp
      · rw [if_neg hn, List.length_append, List.length_singleton]
        have hw1 : 1 ≤ w := by
          rcases Nat.eq_zero_or_pos w with rfl | h1
          · simp at h; omega
          · exact h1
        have := ih hw1 f (n / 10) (by rw [Nat.pow_succ] at h; omega)
        omega
theorem dec_ne (f n : Nat) : dec f n ≠ [] := by
  cases f with
  | zero => simp [dec]
  | succ f => rw [dec]; split <;> simp
theorem fold_dig (l : List UInt8) (h : ∀ c ∈ l, 48 ≤ c.toNat ∧ c.toNat ≤ 57) : ∀ a, (l.map UInt8.toNat).foldl decS (some a) = some (l.foldl (fun v c => 10 * v + (c.toNat - 48)) a) := by
  induction l with
  | nil => intro a; rfl
  | cons c l ih =>
    intro a
    have hc := h c (by simp)
    simp only [List.map_cons, List.foldl_cons]
    rw [show decS (some a) c.toNat = some (10 * a + (c.toNat - 48)) by unfold decS; simp only; rw [if_pos hc]]
    exact ih (fun x hx => h x (by simp [hx])) _
theorem dgs_read {n : Nat} (h : n < 100000000) : digO (dgs n) = some n := by
  unfold digO dgs digF
  rw [if_neg (by simp [dec_ne]), fold_dig _ (dec_digits 7 n)]
  exact congrArg some (val_dec 7 n (by omega))
theorem dgs_len {n w : Nat} (hw : 1 ≤ w) (h : n < 10 ^ w) : (dgs n).length ≤ w := by unfold dgs; rw [List.length_map]; exact dec_len w hw 7 n h
theorem dgs_mem {n c : Nat} (h : c ∈ dgs n) : 48 ≤ c ∧ c ≤ 57 := by
  unfold dgs at h
  obtain ⟨b, hb, rfl⟩ := List.mem_map.1 h
  exact dec_digits 7 n b hb
theorem dgs_form (n : Nat) : ∃ c r, dgs n = c :: r ∧ 48 ≤ c ∧ c ≤ 57 := by
  cases h : dgs n with
  | nil => exact absurd (List.map_eq_nil_iff.1 h) (dec_ne 7 n)
  | cons c r => exact ⟨c, r, rfl, dgs_mem (n := n) (by rw [h]; simp)⟩
theorem skip_blanks (m : Nat) (l : List Nat) : skipB (List.replicate m 32 ++ l) = skipB l := by
  induction m with
  | zero => simp
  | succ m ih => rw [List.replicate_succ, List.cons_append]; exact ih
theorem skip_at {c : Nat} (r : List Nat) (h : ¬ c = 32) : skipB (c :: r) = c :: r := by
  unfold skipB; rw [List.dropWhile_cons_of_neg (by simp [h])]
/-- the place behind the blanks -/
theorem skip_drop {bs : List Nat} {i : Nat} (h : ∀ j (hj : j < i) (hl : j < bs.length), bs[j] = 32) (hi : i ≤ bs.length) (he : ∀ (hl : i < bs.length), ¬ bs[i] = 32) : skipB bs = bs.drop i := by
  have e : bs = List.replicate i 32 ++ bs.drop i := by
    conv => lhs; rw [← List.take_append_drop i bs]
    congr 1
    refine List.ext_getElem (by simp; omega) ?_
    intro j h1 h2
    rw [List.getElem_take, List.getElem_replicate]
    exact h j (by simpa using h2) (by simp at h1; omega)
  conv => lhs; rw [e]
  rw [skip_blanks]
  rcases Nat.lt_or_ge i bs.length with hl | hl
  · rw [List.drop_eq_getElem_cons hl]; exact skip_at _ (he hl)
  · rw [List.drop_eq_nil_of_le hl]; rfl
theorem dec_back {w : Nat} {n : Int} (h1 : 1 ≤ w) (h8 : w ≤ 8) (hl : 1 - ((10 ^ w / 10 : Nat) : Int) ≤ n) (hh : n ≤ ((10 ^ w : Nat) : Int) - 1) : decO (decL w n) = some n ∧ (decL w n).length = w := by
  have p8 : 10 ^ w ≤ 10 ^ 8 := Nat.pow_le_pow_right (by omega) h8
  obtain ⟨v, rfl⟩ : ∃ v, w = v + 1 := ⟨w - 1, by omega⟩
  have pv : 10 ^ (v + 1) / 10 = 10 ^ v := by rw [Nat.pow_succ]; omega
  rw [pv] at hl
  have psucc : 10 ^ (v + 1) = 10 ^ v * 10 := Nat.pow_succ ..
  have hlen : (decT n).length ≤ v + 1 := by
    unfold decT
    by_cases hn : n < 0
    · rw [if_pos hn, List.length_cons]
      have hv : 1 ≤ v := by
        rcases Nat.eq_zero_or_pos v with rfl | h
        · simp at hl; omega
        · exact h
      have := dgs_len (n := n.natAbs) hv (by omega)
      omega
    · rw [if_neg hn]
      exact dgs_len h1 (by omega)
  refine ⟨?_, by unfold decL; rw [List.length_append, List.length_replicate]; omega⟩
  unfold decO decL
  rw [skip_blanks]
  unfold decT
  by_cases hn : n < 0
  · rw [if_pos hn, skip_at _ (by omega)]
    simp only
    rw [if_pos trivial, dgs_read (by omega)]
    simp only [Option.map_some]
    congr 1
    omega
  · rw [if_neg hn]
    obtain ⟨c, r, e, c1, c2⟩ := dgs_form n.natAbs
    rw [e, skip_at _ (by omega)]
    simp only
    rw [if_neg (by omega), ← e, dgs_read (by omega)]
    simp only [Option.map_some]
    congr 1
    omega
theorem decL_bytes (w : Nat) (n : Int) : AllBytes (decL w n) := by
  intro c hc
  unfold decL at hc
  rcases List.mem_append.1 hc with h | h
  · have := List.eq_of_mem_replicate h; omega
  · unfold decT at h
    split at h
    · rcases List.mem_cons.1 h with h | h
      · omega
      · have := dgs_mem h; omega
    · have := dgs_mem h; omega

/-! all kinds -/
def readO (k : Nat) (bs : List Nat) : Option Int :=
  match k with
  | 0 => some (beN bs : Int)
  | 1 => some (beN bs.reverse : Int)
  | 2 => some (sgnV (beN bs) bs.length)
  | 3 => some (sgnV (beN bs.reverse) bs.length)
  | 4 => (bcdO bs).map (fun n : Nat => (n : Int))
  | 5 => decO bs
  | _ => none
def readN (k : Nat) (bs : List Nat) : Int := if rgtB k bs.length = true then (readO k bs).getD 0 else 0
def readC (k : Nat) (bs : List Nat) : Int := if rgtB k bs.length = true then (if (readO k bs).isSome then 0 else 6) else 1
def writeL (k w : Nat) (n : Int) : List Nat :=
  match k with
  | 0 => bigL n.toNat w
  | 1 => (bigL n.toNat w).reverse
  | 2 => bigL (n % ((256 ^ w : Nat) : Int)).toNat w
  | 3 => (bigL (n % ((256 ^ w : Nat) : Int)).toNat w).reverse
  | 4 => bcdL n.toNat w
  | 5 => decL w n
  | _ => []
theorem rgt_cases {k : Nat} {n : Int} (h : rgtB k n = true) : (k < 5 ∧ 1 ≤ n ∧ n ≤ 4) ∨ (k = 5 ∧ 1 ≤ n ∧ n ≤ 8) := by
  unfold rgtB at h
  split at h
  · left; exact ⟨by assumption, by simpa using h⟩
  · split at h
    · right; exact ⟨by assumption, by simpa using h⟩
    · cases h
theorem write_back {k w : Nat} {n : Int} (hr : rgtB k w = true) (h1 : loK k w ≤ n) (h2 : n ≤ hiK k w) : readO k (writeL k w n) = some n ∧ (writeL k w n).length = w := by
  have lenb : ∀ v : Nat, (bigL v w).length = w := bigL_len w
  rcases rgt_cases hr with ⟨hk, a, b⟩ | ⟨rfl, a, b⟩
  · match k, hk with
    | 0, _ =>
      have h1 : (0 : Int) ≤ n := h1
      have h2 : n ≤ ((256 ^ w : Nat) : Int) - 1 := h2
      refine ⟨?_, lenb _⟩
      show some ((beN (bigL n.toNat w) : Nat) : Int) = some n
      rw [beN_big, Nat.mod_eq_of_lt (by omega)]
      congr 1; omega
    | 1, _ =>
      have h1 : (0 : Int) ≤ n := h1
      have h2 : n ≤ ((256 ^ w : Nat) : Int) - 1 := h2
      refine ⟨?_, by show (bigL _ w).reverse.length = w; rw [List.length_reverse]; exact lenb _⟩
      show some ((beN (bigL n.toNat w).reverse.reverse : Nat) : Int) = some n
      rw [List.reverse_reverse, beN_big, Nat.mod_eq_of_lt (by omega)]
      congr 1; omega
    | 2, _ =>
      refine ⟨?_, lenb _⟩
      show some (sgnV (beN (bigL _ w)) (bigL _ w).length) = some n
      rw [lenb, beN_big, sgn_back (by omega) h1 h2]
    | 3, _ =>
      refine ⟨?_, by show (bigL _ w).reverse.length = w; rw [List.length_reverse]; exact lenb _⟩
      show some (sgnV (beN (bigL _ w).reverse.reverse) (bigL _ w).reverse.length) = some n
      rw [List.length_reverse, List.reverse_reverse, lenb, beN_big, sgn_back (by omega) h1 h2]
    | 4, _ =>
      have h1 : (0 : Int) ≤ n := h1
      have h2 : n ≤ ((100 ^ w : Nat) : Int) - 1 := h2
      refine ⟨?_, bcdL_len w _⟩
      show (bcdO (bcdL n.toNat w)).map (fun n : Nat => (n : Int)) = some n
      rw [bcd_back w _ (by omega)]
      simp only [Option.map_some]
      congr 1; omega
  · exact dec_back (by omega) (by omega) h1 h2
theorem write_bytes (k w : Nat) (n : Int) : AllBytes (writeL k w n) := by
  unfold writeL
  split
  · exact bigL_bytes _ _
  · exact all_rev (bigL_bytes _ _)
  · exact bigL_bytes _ _
  · exact all_rev (bigL_bytes _ _)
  · exact bcdL_bytes _ _
  · exact decL_bytes _ _
  · intro c hc; cases hc
theorem read_only {k : Nat} {bs : List Nat} {n : Int} (hb : AllBytes bs) (hk : k < 5) (hr : rgtB k bs.length = true) (h : readO k bs = some n) : writeL k bs.length n = bs ∧ loK k bs.length ≤ n ∧ n ≤ hiK k bs.length := by
  have l1 : 1 ≤ bs.length := by
    rcases rgt_cases hr with ⟨_, a, b⟩ | ⟨_, a, b⟩ <;> omega
  have bl := beN_lt hb
  have br := beN_lt (all_rev hb)
  rw [List.length_reverse] at br
  have rv : ∀ v, v = beN bs.reverse → (bigL v bs.length).reverse = bs := fun v e => by
    have := big_beN (all_rev hb)
    rw [List.length_reverse, ← e] at this
    rw [this, List.reverse_reverse]
  match k, hk with
  | 0, _ =>
    have e : ((beN bs : Nat) : Int) = n := by simpa [readO] using h
    subst e
    refine ⟨?_, Int.natCast_nonneg _, ?_⟩
    · show bigL ((beN bs : Nat) : Int).toNat bs.length = bs
      rw [Int.toNat_natCast]; exact big_beN hb
    · show ((beN bs : Nat) : Int) ≤ ((256 ^ bs.length : Nat) : Int) - 1
      omega
  | 1, _ =>
    have e : ((beN bs.reverse : Nat) : Int) = n := by simpa [readO] using h
    subst e
    refine ⟨?_, Int.natCast_nonneg _, ?_⟩
    · show (bigL ((beN bs.reverse : Nat) : Int).toNat bs.length).reverse = bs
      rw [Int.toNat_natCast]; exact rv _ rfl
    · show ((beN bs.reverse : Nat) : Int) ≤ ((256 ^ bs.length : Nat) : Int) - 1
      omega
  | 2, _ =>
    have e : sgnV (beN bs) bs.length = n := by simpa [readO] using h
    subst e
    refine ⟨?_, sgn_bd l1 bl⟩
    show bigL (sgnV (beN bs) bs.length % ((256 ^ bs.length : Nat) : Int)).toNat bs.length = bs
    rw [sgn_mod bl]; exact big_beN hb
  | 3, _ =>
    have e : sgnV (beN bs.reverse) bs.length = n := by simpa [readO] using h
    subst e
    refine ⟨?_, sgn_bd l1 br⟩
    show (bigL (sgnV (beN bs.reverse) bs.length % ((256 ^ bs.length : Nat) : Int)).toNat bs.length).reverse = bs
    rw [sgn_mod br]; exact rv _ rfl
  | 4, _ =>
    cases hc : bcdO bs with
    | none => simp [readO, hc] at h
    | some v =>
      have e : (v : Int) = n := by simpa [readO, hc] using h
      subst e
      obtain ⟨i1, i2⟩ := bcd_only hc
      refine ⟨?_, Int.natCast_nonneg _, ?_⟩
      · show bcdL (v : Int).toNat bs.length = bs
        rw [Int.toNat_natCast]; exact i1
      · show (v : Int) ≤ ((100 ^ bs.length : Nat) : Int) - 1
        omega
/-- the other way round -/
theorem read_turn (bs : List Nat) : readO 1 bs.reverse = readO 0 bs ∧ readO 3 bs.reverse = readO 2 bs := by
  refine ⟨?_, ?_⟩
  · show some ((beN bs.reverse.reverse : Nat) : Int) = some ((beN bs : Nat) : Int)
    rw [List.reverse_reverse]
  · show some (sgnV (beN bs.reverse.reverse) bs.reverse.length) = some (sgnV (beN bs) bs.length)
    rw [List.reverse_reverse, List.length_reverse]
end Go.Proofs.Ytllkkgcfhphgmaa
