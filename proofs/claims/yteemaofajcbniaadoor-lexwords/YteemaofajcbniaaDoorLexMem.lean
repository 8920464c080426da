/-
  Slices of texts and of lines in memory, handed over and being made (layer 7). No function of a program is named here. No conditions but those that each says.
-/
import Derived.Test.YteemaofajcbniaaDoorBytesKit
import Derived.Test.YteemaofajcbniaaDoorLexMath
namespace Go.Proofs.YteemaofajcbniaaDoor
open Go.RowKit
set_option linter.unusedVariables false

/-- a word as a text -/
def txt (w : Wd) : ByteArray := ⟨w.toArray⟩
theorem txt_inj {a b : Wd} (h : txt a = txt b) : a = b := by
  have e : (txt a).data.toList = (txt b).data.toList := by rw [h]
  exact e
theorem txt_size (w : Wd) : (txt w).size = w.length := by unfold txt; simp [ByteArray.size]
theorem txt_of (s : ByteArray) : txt s.data.toList = s := by unfold txt; simp
/-- texts, from a place on -/
def StrsIn (x : World) (g o : Nat) (ws : List Wd) : Prop := ∀ j (h : j < ws.length), x.cell? ⟨g, o + j, none⟩ = some (.string (txt ws[j]))
def StrsAt (x : World) (v : Value) (ws : List Wd) : Prop := (v = .slice none 0 0 ∧ ws = []) ∨ ∃ g o cap, v = .slice (some ⟨g, o, none⟩) ws.length cap ∧ StrsIn x g o ws ∧ g < x.heap.size
theorem StrsAt.below {x y : World} {v : Value} {ws : List Wd} (h : StrsAt x v ws) (k : Below x.heap.size x y) : StrsAt y v ws := by
  rcases h with h | ⟨g, o, cap, h1, h2, h3⟩
  · exact .inl h
  · exact .inr ⟨g, o, cap, h1, fun j hj => (k.cell (p := ⟨g, o + j, none⟩) h3).trans (h2 j hj), Nat.lt_of_lt_of_le h3 k.size⟩
/-- a line, its number and its words, from a place on -/
def RowIn (x : World) (g a : Nat) (r : Ln) : Prop := x.cell? ⟨g, a, none⟩ = some (.int .i64 (r.1 : Int)) ∧ ∃ u, x.cell? ⟨g, a + 1, none⟩ = some u ∧ StrsAt x u r.2
theorem RowIn.below {x y : World} {g a : Nat} {r : Ln} (h : RowIn x g a r) (hg : g < x.heap.size) (k : Below x.heap.size x y) : RowIn y g a r := by
  obtain ⟨h1, u, h2, h3⟩ := h
  exact ⟨(k.cell (p := ⟨g, a, none⟩) hg).trans h1, u, (k.cell (p := ⟨g, a + 1, none⟩) hg).trans h2, h3.below k⟩
def RowsAt (x : World) (v : Value) (rs : List Ln) : Prop := (v = .slice none 0 0 ∧ rs = []) ∨ ∃ g o cap, v = .slice (some ⟨g, o, none⟩) rs.length cap ∧ (∀ j (h : j < rs.length), RowIn x g (o + 2 * j) rs[j]) ∧ g < x.heap.size
theorem RowsAt.below {x y : World} {v : Value} {rs : List Ln} (h : RowsAt x v rs) (k : Below x.heap.size x y) : RowsAt y v rs := by
  rcases h with h | ⟨g, o, cap, h1, h2, h3⟩
  · exact .inl h
  · exact .inr ⟨g, o, cap, h1, fun j hj => (h2 j hj).below h3 k, Nat.lt_of_lt_of_le h3 k.size⟩
/-- what a slice of them looks like -/
theorem RowsAt.form {x : World} {v : Value} {rs : List Ln} (h : RowsAt x v rs) : (v = .slice none 0 0 ∧ rs = []) ∨ ∃ g o cap, v = .slice (some ⟨g, o, none⟩) rs.length cap := by
  rcases h with h | ⟨g, o, cap, h1, _⟩
  · exact .inl h
  · exact .inr ⟨g, o, cap, h1⟩

/-! being made -/
abbrev strV (ws : List Wd) : List Value := ws.map fun w => Value.string (txt w)
/-- lines that are done, each with its words' slice -/
abbrev Dn := Ln × Value
def dnC (fs : List Dn) : List Value := fs.flatMap fun f => [.int .i64 (f.1.1 : Int), f.2]
theorem dnC_len (fs : List Dn) : (dnC fs).length = fs.length * 2 := by
  induction fs with
  | nil => rfl
  | cons f fs ih => unfold dnC at *; rw [List.flatMap_cons, List.length_append, ih]; simp; omega
theorem dnC_snoc (fs : List Dn) (f : Dn) : dnC (fs ++ [f]) = dnC fs ++ [.int .i64 (f.1.1 : Int), f.2] := by unfold dnC; simp
theorem dnC_get {fs : List Dn} {j : Nat} (h : j < fs.length) : (dnC fs)[2 * j]? = some (.int .i64 (fs[j].1.1 : Int)) ∧ (dnC fs)[2 * j + 1]? = some fs[j].2 := by
  induction fs generalizing j with
  | nil => cases h
  | cons f fs ih =>
    unfold dnC at *
    rw [List.flatMap_cons]
    cases j with
    | zero => exact ⟨rfl, rfl⟩
    | succ j =>
      have := ih (j := j) (by simpa using h)
      rw [show 2 * (j + 1) = 2 * j + 2 by omega]
      simp only [List.getElem_cons_succ]
      exact this
structure DnOk (w x : World) (f : Dn) (a b : Option Nat) : Prop where
  sl : ∃ g cap, f.2 = .slice (some ⟨g, 0, none⟩) f.1.2.length cap ∧ StrsIn x g 0 f.1.2 ∧ g < x.heap.size ∧ some g ≠ a ∧ some g ≠ b
  one : f.2.oneCell' = true
theorem DnOk.kept {w x y : World} {f : Dn} {a b a' b' row : Option Nat} (h : DnOk w x f a b) (hg : x.grownBy y row) (hr : ∀ g, some g ≠ a → some g ≠ b → some g ≠ row) (ha : ∀ g, g < x.heap.size → some g ≠ a → some g ≠ b → some g ≠ a') (hb : ∀ g, g < x.heap.size → some g ≠ a → some g ≠ b → some g ≠ b') : DnOk w y f a' b' := by
  obtain ⟨⟨g, cap, h1, h2, h3, h4, h5⟩, h6⟩ := h
  exact ⟨⟨g, cap, h1, fun j hj => hg.cell (h2 j hj) (hr g h4 h5), Nat.lt_of_lt_of_le h3 hg.size, ha g h3 h4 h5, hb g h3 h4 h5⟩, h6⟩
/-- what is being made: lines that are done in vo, words of a line in vw -/
structure LxSt (w x : World) (T : TypeId) (vo vw : Value) (fs : List Dn) (ws : List Wd) : Prop where
  ro : x.ownsRow w.heap.size T 2 vo fs.length (dnC fs)
  rw : x.ownsRow w.heap.size 9 1 vw ws.length (strV ws)
  fin : ∀ f ∈ fs, DnOk w x f vo.ownBlock vw.ownBlock
  ne : vo.ownBlock = none ∨ vo.ownBlock ≠ vw.ownBlock
  b : Below w.heap.size w x
theorem LxSt.first (w : World) (T : TypeId) : LxSt w w T (.slice none 0 0) (.slice none 0 0) [] [] :=
  ⟨World.ownsRow_nil _ _ _ _, World.ownsRow_nil _ _ _ _, fun f hf => (by cases hf), .inl rfl, Below.refl _ _⟩
theorem own_slice {x : World} {base : Nat} {e : TypeId} {size : Nat} {v : Value} {n : Nat} {xs : List Value} (h : x.ownsRow base e size v n xs) : (v = .slice none 0 0 ∧ n = 0) ∨ ∃ g cap, v = .slice (some ⟨g, 0, none⟩) n cap ∧ base ≤ g ∧ g < x.heap.size := by
  rcases h.2 with h1 | ⟨g, cap, cur, h1, h2, h3, _⟩
  · exact .inl h1
  · exact .inr ⟨g, cap, h1, h2, (Array.getElem?_eq_some_iff.1 h3).1⟩
/-- a word more -/
theorem LxSt.word {w x y : World} {T : TypeId} {vo vw v' : Value} {fs : List Dn} {ws : List Wd} {o : Obj} (h : LxSt w x T vo vw fs ws) (d : Wd) (hown : y.ownsRow w.heap.size 9 1 v' (ws.length + 1) (strV ws ++ [.string (txt d)])) (hg : (x.alloc o).grownBy y vw.ownBlock) (hv : v'.ownBlock = vw.ownBlock ∨ v'.ownBlock = some (x.alloc o).heap.size) : LxSt w y T vo v' fs (ws ++ [d]) := by
  have g1 := World.grownBy_alloc x o vw.ownBlock
  have lo := World.ownsRow.lt h.ro
  refine ⟨((World.ownsRow.alloc h.ro o).kept hg h.ne), ?_, ?_, ?_, ?_⟩
  · have e1 : (ws ++ [d]).length = ws.length + 1 := by simp
    have e2 : strV (ws ++ [d]) = strV ws ++ [.string (txt d)] := by unfold strV; simp
    rw [e1, e2]; exact hown
  · intro f hf
    have k1 : DnOk w (x.alloc o) f vo.ownBlock vw.ownBlock := (h.fin f hf).kept (World.grownBy_alloc x o none) (fun g _ _ e => by cases e) (fun g _ ha _ => ha) (fun g _ _ hb => hb)
    obtain ⟨⟨g0, cap0, q1, q2, q3, q4, q5⟩, q6⟩ := h.fin f hf
    refine ⟨?_, q6⟩
    refine ⟨g0, cap0, q1, fun j hj => hg.cell ((World.grownBy_alloc x o none).cell (q2 j hj) (by simp)) q5, Nat.lt_of_lt_of_le q3 (Nat.le_trans (World.grownBy_alloc x o none).size hg.size), q4, ?_⟩
    rcases hv with hv | hv
    · rw [hv]; exact q5
    · rw [hv, World.size_alloc]; intro e; have := Option.some.inj e; omega
  · rcases h.ne with h1 | h1
    · exact .inl h1
    · rcases hv with hv | hv
      · right; rw [hv]; exact h1
      · cases hvo : vo.ownBlock with
        | none => exact .inl rfl
        | some g =>
          right
          rw [hv, World.size_alloc]
          intro e
          have := Option.some.inj e
          have := (lo g hvo).2
          omega
  · exact (h.b.alloc h.b.size _).grown hg (by have := h.b.size; rw [World.size_alloc]; omega) (fun k e => (World.ownsRow.lt h.rw k e).1)
/-- the words are let go -/
theorem LxSt.letGo {w x : World} {T : TypeId} {vo vw : Value} {fs : List Dn} {ws : List Wd} (h : LxSt w x T vo vw fs ws) : LxSt w x T vo (.slice none 0 0) fs [] :=
  ⟨h.ro, World.ownsRow_nil _ _ _ _, fun f hf => by
    obtain ⟨⟨g, cap, q1, q2, q3, q4, q5⟩, q6⟩ := h.fin f hf
    exact ⟨⟨g, cap, q1, q2, q3, q4, by simp [Value.ownBlock]⟩, q6⟩, by
    cases hvo : vo.ownBlock with
    | none => exact .inl rfl
    | some g => right; simp [Value.ownBlock], h.b⟩
/-- a line more -/
theorem LxSt.line {w x y : World} {T : TypeId} {vo vw v' : Value} {fs : List Dn} {ws : List Wd} {o : Obj} (h : LxSt w x T vo vw fs ws) (hws : ¬ ws = []) (l : Nat) (hown : y.ownsRow w.heap.size T 2 v' (fs.length + 1) (dnC fs ++ [.int .i64 (l : Int), vw])) (hg : (x.alloc o).grownBy y vo.ownBlock) (hv : v'.ownBlock = vo.ownBlock ∨ v'.ownBlock = some (x.alloc o).heap.size) : LxSt w y T v' (.slice none 0 0) (fs ++ [((l, ws), vw)]) [] := by
  have lw := World.ownsRow.lt h.rw
  have eh : ∀ {g : Nat}, g < x.heap.size → some g ≠ vo.ownBlock → some g ≠ v'.ownBlock := fun {g} hg1 hg2 => by
    rcases hv with hv | hv
    · rw [hv]; exact hg2
    · rw [hv, World.size_alloc]; intro e; have := Option.some.inj e; omega
  obtain ⟨gw, capw, hvw, _, hgw⟩ : ∃ g cap, vw = .slice (some ⟨g, 0, none⟩) ws.length cap ∧ w.heap.size ≤ g ∧ g < x.heap.size := by
    rcases own_slice h.rw with ⟨_, e⟩ | k
    · exact absurd (List.length_eq_zero_iff.1 e) hws
    · exact k
  have nw : some gw ≠ vo.ownBlock := by
    rcases h.ne with h1 | h1
    · rw [h1]; simp
    · rw [hvw] at h1; exact fun e => h1 e.symm
  refine ⟨?_, World.ownsRow_nil _ _ _ _, ?_, ?_, ?_⟩
  · rw [List.length_append, List.length_singleton, dnC_snoc]; exact hown
  · intro f hf
    rcases List.mem_append.1 hf with hf | hf
    · obtain ⟨⟨g0, cap0, q1, q2, q3, q4, q5⟩, q6⟩ := h.fin f hf
      exact ⟨⟨g0, cap0, q1, fun j hj => hg.cell ((World.grownBy_alloc x o none).cell (q2 j hj) (by simp)) q4, Nat.lt_of_lt_of_le q3 (Nat.le_trans (World.grownBy_alloc x o none).size hg.size), eh q3 q4, by simp [Value.ownBlock]⟩, q6⟩
    · obtain rfl := List.mem_singleton.1 hf
      refine ⟨⟨gw, capw, hvw, fun j hj => ?_, Nat.lt_of_lt_of_le hgw (Nat.le_trans (World.grownBy_alloc x o none).size hg.size), eh hgw nw, by simp [Value.ownBlock]⟩, by rw [hvw]; rfl⟩
      have hc : x.cell? ⟨gw, 0 + j, none⟩ = some (.string (txt ws[j])) := by
        have hj' : j < ws.length := hj
        have k := h.rw
        rw [hvw] at k
        rw [Nat.zero_add, World.ownsRow.cellAt k j (by omega), List.getElem?_map, List.getElem?_eq_getElem hj']
        rfl
      exact hg.cell ((World.grownBy_alloc x o none).cell hc (by simp)) nw
  · cases hvo : v'.ownBlock with
    | none => exact .inl rfl
    | some g => right; simp [Value.ownBlock]
  · exact (h.b.alloc h.b.size _).grown hg (by have := h.b.size; rw [World.size_alloc]; omega) (fun k e => (World.ownsRow.lt h.ro k e).1)
/-- it is handed over -/
theorem LxSt.rows {w x : World} {T : TypeId} {vo vw : Value} {fs : List Dn} {ws : List Wd} (h : LxSt w x T vo vw fs ws) : RowsAt x vo (fs.map (·.1)) := by
  rcases own_slice h.ro with ⟨h1, h2⟩ | ⟨g, cap, h1, h2, h3⟩
  · exact .inl ⟨h1, by rw [List.length_eq_zero_iff.1 h2]; rfl⟩
  · refine .inr ⟨g, 0, cap, by rw [List.length_map]; exact h1, ?_, h3⟩
    intro j hj
    have hj' : j < fs.length := by rwa [List.length_map] at hj
    have k := h.ro
    rw [h1] at k
    obtain ⟨c1, c2⟩ := dnC_get hj'
    rw [List.getElem_map]
    refine ⟨?_, fs[j].2, ?_, ?_⟩
    · rw [Nat.zero_add, World.ownsRow.cellAt k _ (by omega)]; exact c1
    · rw [Nat.zero_add, World.ownsRow.cellAt k _ (by omega)]; exact c2
    · obtain ⟨⟨g0, cap0, q1, q2, q3, q4, q5⟩, q6⟩ := h.fin fs[j] (List.getElem_mem hj')
      exact .inr ⟨g0, 0, cap0, q1, q2, q3⟩
end Go.Proofs.YteemaofajcbniaaDoor
