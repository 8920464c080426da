/-
  Texts that belong together, one behind the other: LexMem, MapStr, LexKit, LexRefA. Conditions: as each says.
-/
import Derived.Laws.Concat
import Derived.Maps.AppendAt
import Derived.Test.YtagkgneijdbkoaaDoorJn12
import Derived.Test.YtagkgneijdbkoaaDoorJn2
/-
  Slices of texts and of lines in memory, handed over and being made (layer 7). No function of a program is named here. No conditions but those that each says.
-/
namespace Go.Proofs.YtagkgneijdbkoaaDoor
open Go.RowKit
set_option linter.unusedVariables false

/-- a word as a text -/
def txt (w : Wd) : ByteArray := ⟨w.toArray⟩
theorem txt_inj {a b : Wd} (h : txt a = txt b) : a = b := by
  have e : (txt a).data.toList = (txt b).data.toList := by rw [h]
  exact e
theorem txt_size (w : Wd) : (txt w).size = w.length := by unfold txt; simp [ByteArray.size]
theorem txt_of (s : ByteArray) : txt s.data.toList = s := by unfold txt; simp
/-- texts, from a place on -/
def StrsIn (x : World) (g o : Nat) (ws : List Wd) : Prop := ∀ j (h : j < ws.length), x.cell? ⟨g, o + j, none⟩ = some (.string (txt ws[j]))
def StrsAt (x : World) (v : Value) (ws : List Wd) : Prop := (v = .slice none 0 0 ∧ ws = []) ∨ ∃ g o cap, v = .slice (some ⟨g, o, none⟩) ws.length cap ∧ StrsIn x g o ws ∧ g < x.heap.size
theorem StrsAt.below {x y : World} {v : Value} {ws : List Wd} (h : StrsAt x v ws) (k : Below x.heap.size x y) : StrsAt y v ws := by
  rcases h with h | ⟨g, o, cap, h1, h2, h3⟩
  · exact .inl h
  · exact .inr ⟨g, o, cap, h1, fun j hj => (k.cell (p := ⟨g, o + j, none⟩) h3).trans (h2 j hj), Nat.lt_of_lt_of_le h3 k.size⟩
/-- a line, its number and its words, from a place on -/
def RowIn (x : World) (g a : Nat) (r : Ln) : Prop := x.cell? ⟨g, a, none⟩ = some (.int .i64 (r.1 : Int)) ∧ ∃ u, x.cell? ⟨g, a + 1, none⟩ = some u ∧ StrsAt x u r.2
theorem RowIn.below {x y : World} {g a : Nat} {r : Ln} (h : RowIn x g a r) (hg : g < x.heap.size) (k : Below x.heap.size x y) : RowIn y g a r := by
  obtain ⟨h1, u, h2, h3⟩ := h
  exact ⟨(k.cell (p := ⟨g, a, none⟩) hg).trans h1, u, (k.cell (p := ⟨g, a + 1, none⟩) hg).trans h2, h3.below k⟩
def RowsAt (x : World) (v : Value) (rs : List Ln) : Prop := (v = .slice none 0 0 ∧ rs = []) ∨ ∃ g o cap, v = .slice (some ⟨g, o, none⟩) rs.length cap ∧ (∀ j (h : j < rs.length), RowIn x g (o + 2 * j) rs[j]) ∧ g < x.heap.size
theorem RowsAt.below {x y : World} {v : Value} {rs : List Ln} (h : RowsAt x v rs) (k : Below x.heap.size x y) : RowsAt y v rs := by
  rcases h with h | ⟨g, o, cap, h1, h2, h3⟩
  · exact .inl h
  · exact .inr ⟨g, o, cap, h1, fun j hj => (h2 j hj).below h3 k, Nat.lt_of_lt_of_le h3 k.size⟩
/-- what a slice of them looks like -/
theorem RowsAt.form {x : World} {v : Value} {rs : List Ln} (h : RowsAt x v rs) : (v = .slice none 0 0 ∧ rs = []) ∨ ∃ g o cap, v = .slice (some ⟨g, o, none⟩) rs.length cap := by
  rcases h with h | ⟨g, o, cap, h1, _⟩
  · exact .inl h
  · exact .inr ⟨g, o, cap, h1⟩

/-! being made -/
abbrev strV (ws : List Wd) : List Value := ws.map fun w => Value.string (txt w)
/-- lines that are done, each with its words' slice -/
abbrev Dn := Ln × Value
def dnC (fs : List Dn) : List Value := fs.flatMap fun f => [.int .i64 (f.1.1 : Int), f.2]
theorem dnC_len (fs : List Dn) : (dnC fs).length = fs.length * 2 := by
  induction fs with
  | nil => rfl
  | cons f fs ih => unfold dnC at *; rw [List.flatMap_cons, List.length_append, ih]; simp; omega
theorem dnC_snoc (fs : List Dn) (f : Dn) : dnC (fs ++ [f]) = dnC fs ++ [.int .i64 (f.1.1 : Int), f.2] := by unfold dnC; simp
theorem dnC_get {fs : List Dn} {j : Nat} (h : j < fs.length) : (dnC fs)[2 * j]? = some (.int .i64 (fs[j].1.1 : Int)) ∧ (dnC fs)[2 * j + 1]? = some fs[j].2 := by
  induction fs generalizing j with
  | nil => cases h
  | cons f fs ih =>
    unfold dnC at *
    rw [List.flatMap_cons]
    cases j with
    | zero => exact ⟨rfl, rfl⟩
    | succ j =>
      have := ih (j := j) (by simpa using h)
      rw [show 2 * (j + 1) = 2 * j + 2 by omega]
      simp only [List.getElem_cons_succ]
      exact this
structure DnOk (w x : World) (f : Dn) (a b : Option Nat) : Prop where
  sl : ∃ g cap, (f.2 = .slice (some ⟨g, 0, none⟩) f.1.2.length cap ∧ f.1.2.length ≤ cap) ∧ StrsIn x g 0 f.1.2 ∧ g < x.heap.size ∧ some g ≠ a ∧ some g ≠ b
  one : f.2.oneCell' = true
theorem DnOk.kept {w x y : World} {f : Dn} {a b a' b' row : Option Nat} (h : DnOk w x f a b) (hg : x.grownBy y row) (hr : ∀ g, some g ≠ a → some g ≠ b → some g ≠ row) (ha : ∀ g, g < x.heap.size → some g ≠ a → some g ≠ b → some g ≠ a') (hb : ∀ g, g < x.heap.size → some g ≠ a → some g ≠ b → some g ≠ b') : DnOk w y f a' b' := by
  obtain ⟨⟨g, cap, h1, h2, h3, h4, h5⟩, h6⟩ := h
  exact ⟨⟨g, cap, h1, fun j hj => hg.cell (h2 j hj) (hr g h4 h5), Nat.lt_of_lt_of_le h3 hg.size, ha g h3 h4 h5, hb g h3 h4 h5⟩, h6⟩
/-- what is being made: lines that are done in vo, words of a line in vw -/
structure LxSt (w x : World) (T : TypeId) (vo vw : Value) (fs : List Dn) (ws : List Wd) : Prop where
  ro : x.ownsRow w.heap.size T 2 vo fs.length (dnC fs)
  rw : x.ownsRow w.heap.size 9 1 vw ws.length (strV ws)
  fin : ∀ f ∈ fs, DnOk w x f vo.ownBlock vw.ownBlock
  ne : vo.ownBlock = none ∨ vo.ownBlock ≠ vw.ownBlock
  b : Below w.heap.size w x
theorem LxSt.first (w : World) (T : TypeId) : LxSt w w T (.slice none 0 0) (.slice none 0 0) [] [] :=
  ⟨World.ownsRow_nil _ _ _ _, World.ownsRow_nil _ _ _ _, fun f hf => (by cases hf), .inl rfl, Below.refl _ _⟩
theorem own_slice {x : World} {base : Nat} {e : TypeId} {size : Nat} {v : Value} {n : Nat} {xs : List Value} (h : x.ownsRow base e size v n xs) : (v = .slice none 0 0 ∧ n = 0) ∨ ∃ g cap, v = .slice (some ⟨g, 0, none⟩) n cap ∧ base ≤ g ∧ g < x.heap.size := by
  rcases h.2 with h1 | ⟨g, cap, cur, h1, h2, h3, _⟩
  · exact .inl h1
  · exact .inr ⟨g, cap, h1, h2, (Array.getElem?_eq_some_iff.1 h3).1⟩
theorem own_room {x : World} {base : Nat} {e : TypeId} {size : Nat} {v : Value} {n : Nat} {xs : List Value} (h : x.ownsRow base e size v n xs) : ∀ p m c, v = .slice p m c → m ≤ c := by
  rcases h.2 with ⟨h1, _⟩ | ⟨g, cap, cur, h1, _, _, h4, _⟩
  · intro p m c e; rw [h1] at e; injection e with _ e1 e2; omega
  · intro p m c e; rw [h1] at e; injection e with _ e1 e2; omega
/-- a word more -/
theorem LxSt.word {w x y : World} {T : TypeId} {vo vw v' : Value} {fs : List Dn} {ws : List Wd} {o : Obj} (h : LxSt w x T vo vw fs ws) (d : Wd) (hown : y.ownsRow w.heap.size 9 1 v' (ws.length + 1) (strV ws ++ [.string (txt d)])) (hg : (x.alloc o).grownBy y vw.ownBlock) (hv : v'.ownBlock = vw.ownBlock ∨ v'.ownBlock = some (x.alloc o).heap.size) : LxSt w y T vo v' fs (ws ++ [d]) := by
  have g1 := World.grownBy_alloc x o vw.ownBlock
  have lo := World.ownsRow.lt h.ro
  refine ⟨((World.ownsRow.alloc h.ro o).kept hg h.ne), ?_, ?_, ?_, ?_⟩
  · have e1 : (ws ++ [d]).length = ws.length + 1 := by simp
    have e2 : strV (ws ++ [d]) = strV ws ++ [.string (txt d)] := by unfold strV; simp
    rw [e1, e2]; exact hown
  · intro f hf
    have k1 : DnOk w (x.alloc o) f vo.ownBlock vw.ownBlock := (h.fin f hf).kept (World.grownBy_alloc x o none) (fun g _ _ e => by cases e) (fun g _ ha _ => ha) (fun g _ _ hb => hb)
    obtain ⟨⟨g0, cap0, q1, q2, q3, q4, q5⟩, q6⟩ := h.fin f hf
    refine ⟨?_, q6⟩
    refine ⟨g0, cap0, q1, fun j hj => hg.cell ((World.grownBy_alloc x o none).cell (q2 j hj) (by simp)) q5, Nat.lt_of_lt_of_le q3 (Nat.le_trans (World.grownBy_alloc x o none).size hg.size), q4, ?_⟩
    rcases hv with hv | hv
    · rw [hv]; exact q5
    · rw [hv, World.size_alloc]; intro e; have := Option.some.inj e; omega
  · rcases h.ne with h1 | h1
    · exact .inl h1
    · rcases hv with hv | hv
      · right; rw [hv]; exact h1
      · cases hvo : vo.ownBlock with
        | none => exact .inl rfl
        | some g =>
          right
          rw [hv, World.size_alloc]
          intro e
          have := Option.some.inj e
          have := (lo g hvo).2
          omega
  · exact (h.b.alloc h.b.size _).grown hg (by have := h.b.size; rw [World.size_alloc]; omega) (fun k e => (World.ownsRow.lt h.rw k e).1)
/-- the words are let go -/
theorem LxSt.letGo {w x : World} {T : TypeId} {vo vw : Value} {fs : List Dn} {ws : List Wd} (h : LxSt w x T vo vw fs ws) : LxSt w x T vo (.slice none 0 0) fs [] :=
  ⟨h.ro, World.ownsRow_nil _ _ _ _, fun f hf => by
    obtain ⟨⟨g, cap, q1, q2, q3, q4, q5⟩, q6⟩ := h.fin f hf
    exact ⟨⟨g, cap, q1, q2, q3, q4, by simp [Value.ownBlock]⟩, q6⟩, by
    cases hvo : vo.ownBlock with
    | none => exact .inl rfl
    | some g => right; simp [Value.ownBlock], h.b⟩
/-- a line more -/
theorem LxSt.line {w x y : World} {T : TypeId} {vo vw v' : Value} {fs : List Dn} {ws : List Wd} {o : Obj} (h : LxSt w x T vo vw fs ws) (hws : ¬ ws = []) (l : Nat) (hown : y.ownsRow w.heap.size T 2 v' (fs.length + 1) (dnC fs ++ [.int .i64 (l : Int), vw])) (hg : (x.alloc o).grownBy y vo.ownBlock) (hv : v'.ownBlock = vo.ownBlock ∨ v'.ownBlock = some (x.alloc o).heap.size) : LxSt w y T v' (.slice none 0 0) (fs ++ [((l, ws), vw)]) [] := by
  have lw := World.ownsRow.lt h.rw
  have eh : ∀ {g : Nat}, g < x.heap.size → some g ≠ vo.ownBlock → some g ≠ v'.ownBlock := fun {g} hg1 hg2 => by
    rcases hv with hv | hv
    · rw [hv]; exact hg2
    · rw [hv, World.size_alloc]; intro e; have := Option.some.inj e; omega
  obtain ⟨gw, capw, hvw, _, hgw⟩ : ∃ g cap, vw = .slice (some ⟨g, 0, none⟩) ws.length cap ∧ w.heap.size ≤ g ∧ g < x.heap.size := by
    rcases own_slice h.rw with ⟨_, e⟩ | k
    · exact absurd (List.length_eq_zero_iff.1 e) hws
    · exact k
  have nw : some gw ≠ vo.ownBlock := by
    rcases h.ne with h1 | h1
    · rw [h1]; simp
    · rw [hvw] at h1; exact fun e => h1 e.symm
  refine ⟨?_, World.ownsRow_nil _ _ _ _, ?_, ?_, ?_⟩
  · rw [List.length_append, List.length_singleton, dnC_snoc]; exact hown
  · intro f hf
    rcases List.mem_append.1 hf with hf | hf
    · obtain ⟨⟨g0, cap0, q1, q2, q3, q4, q5⟩, q6⟩ := h.fin f hf
      exact ⟨⟨g0, cap0, q1, fun j hj => hg.cell ((World.grownBy_alloc x o none).cell (q2 j hj) (by simp)) q4, Nat.lt_of_lt_of_le q3 (Nat.le_trans (World.grownBy_alloc x o none).size hg.size), eh q3 q4, by simp [Value.ownBlock]⟩, q6⟩
    · obtain rfl := List.mem_singleton.1 hf
      refine ⟨⟨gw, capw, ⟨hvw, own_room h.rw _ _ _ hvw⟩, fun j hj => ?_, Nat.lt_of_lt_of_le hgw (Nat.le_trans (World.grownBy_alloc x o none).size hg.size), eh hgw nw, by simp [Value.ownBlock]⟩, by rw [hvw]; rfl⟩
      have hc : x.cell? ⟨gw, 0 + j, none⟩ = some (.string (txt ws[j])) := by
        have hj' : j < ws.length := hj
        have k := h.rw
        rw [hvw] at k
        rw [Nat.zero_add, World.ownsRow.cellAt k j (by omega), List.getElem?_map, List.getElem?_eq_getElem hj']
        rfl
      exact hg.cell ((World.grownBy_alloc x o none).cell hc (by simp)) nw
  · cases hvo : v'.ownBlock with
    | none => exact .inl rfl
    | some g => right; simp [Value.ownBlock]
  · exact (h.b.alloc h.b.size _).grown hg (by have := h.b.size; rw [World.size_alloc]; omega) (fun k e => (World.ownsRow.lt h.ro k e).1)
/-- it is handed over -/
theorem LxSt.rows {w x : World} {T : TypeId} {vo vw : Value} {fs : List Dn} {ws : List Wd} (h : LxSt w x T vo vw fs ws) : RowsAt x vo (fs.map (·.1)) := by
  rcases own_slice h.ro with ⟨h1, h2⟩ | ⟨g, cap, h1, h2, h3⟩
  · exact .inl ⟨h1, by rw [List.length_eq_zero_iff.1 h2]; rfl⟩
  · refine .inr ⟨g, 0, cap, by rw [List.length_map]; exact h1, ?_, h3⟩
    intro j hj
    have hj' : j < fs.length := by rwa [List.length_map] at hj
    have k := h.ro
    rw [h1] at k
    obtain ⟨c1, c2⟩ := dnC_get hj'
    rw [List.getElem_map]
    refine ⟨?_, fs[j].2, ?_, ?_⟩
    · rw [Nat.zero_add, World.ownsRow.cellAt k _ (by omega)]; exact c1
    · rw [Nat.zero_add, World.ownsRow.cellAt k _ (by omega)]; exact c2
    · obtain ⟨⟨g0, cap0, q1, q2, q3, q4, q5⟩, q6⟩ := h.fin fs[j] (List.getElem_mem hj')
      exact .inr ⟨g0, 0, cap0, q1.1, q2, q3⟩
/-! with the words' room -/
def RowInC (x : World) (g a : Nat) (r : Ln) : Prop := x.cell? ⟨g, a, none⟩ = some (.int .i64 (r.1 : Int)) ∧ ∃ u, x.cell? ⟨g, a + 1, none⟩ = some u ∧ StrsAt x u r.2 ∧ ∀ p m c, u = .slice p m c → m ≤ c
def RowsAtC (x : World) (v : Value) (rs : List Ln) : Prop := (v = .slice none 0 0 ∧ rs = []) ∨ ∃ g o cap, v = .slice (some ⟨g, o, none⟩) rs.length cap ∧ (∀ j (h : j < rs.length), RowInC x g (o + 2 * j) rs[j]) ∧ g < x.heap.size
theorem RowsAtC.rows {x : World} {v : Value} {rs : List Ln} (h : RowsAtC x v rs) : RowsAt x v rs := by
  rcases h with h | ⟨g, o, cap, h1, h2, h3⟩
  · exact .inl h
  · exact .inr ⟨g, o, cap, h1, fun j hj => by obtain ⟨k1, u, k2, k3, _⟩ := h2 j hj; exact ⟨k1, u, k2, k3⟩, h3⟩
theorem LxSt.rowsC {w x : World} {T : TypeId} {vo vw : Value} {fs : List Dn} {ws : List Wd} (h : LxSt w x T vo vw fs ws) : RowsAtC x vo (fs.map (·.1)) := by
  rcases own_slice h.ro with ⟨h1, h2⟩ | ⟨g, cap, h1, h2, h3⟩
  · exact .inl ⟨h1, by rw [List.length_eq_zero_iff.1 h2]; rfl⟩
  · refine .inr ⟨g, 0, cap, by rw [List.length_map]; exact h1, ?_, h3⟩
    intro j hj
    have hj' : j < fs.length := by rwa [List.length_map] at hj
    have k := h.ro
    rw [h1] at k
    obtain ⟨c1, c2⟩ := dnC_get hj'
    rw [List.getElem_map]
    refine ⟨?_, fs[j].2, ?_, ?_, ?_⟩
    · rw [Nat.zero_add, World.ownsRow.cellAt k _ (by omega)]; exact c1
    · rw [Nat.zero_add, World.ownsRow.cellAt k _ (by omega)]; exact c2
    · obtain ⟨⟨g0, cap0, q1, q2, q3, q4, q5⟩, q6⟩ := h.fin fs[j] (List.getElem_mem hj')
      exact .inr ⟨g0, 0, cap0, q1.1, q2, q3⟩
    · obtain ⟨⟨g0, cap0, q1, q2, q3, q4, q5⟩, q6⟩ := h.fin fs[j] (List.getElem_mem hj')
      intro p m c e
      rw [q1.1] at e
      injection e with _ e1 e2
      have := q1.2
      omega
end Go.Proofs.YtagkgneijdbkoaaDoor
/-
  Maps by texts that a call lays as a literal: an entry more, a look-up (at a key that is a text). Conditions: as each says.
-/
namespace Go.Proofs.YtagkgneijdbkoaaDoor
open Go.RowKit
set_option linter.unusedVariables false

section
variable {P : Program}
theorem obj_map (w : World) (g : Nat) (es : Array MapEntry) (c : Nat) (h : w.heap[g]? = some (.map es c)) : (getObj g).run P w = .ok (.map es c) w := by
  simp [getObj, Sem.run, h]
theorem set_map (w : World) (g : Nat) (es : Array MapEntry) (c : Nat) (h : w.heap[g]? = some (.map es c)) {o : Obj} : (setObj g o).run P w = .ok () { w with heap := w.heap.setIfInBounds g o } := by
  simp [setObj, Sem.run, h]
theorem key_str (w : World) (b : Bool) (K : TypeId) (hk : P.underlying K = some .string) (s : ByteArray) : (Instr.checkKey b 10000 K (.string s)).run P w = .ok () w := by
  unfold Instr.checkKey
  simp [run_underlying hk, Result.andThen]
theorem find_str (w : World) (K : TypeId) (hk : P.underlying K = some .string) (s : ByteArray) (es : List MapEntry) (r : Option (Nat × Value)) (hf : Instr.findNow .string (.string s) es 0 = some r) : (Instr.findKey K (.string s) es).run P w = .ok r w := by
  simp [Instr.findKey, run_underlying hk, Result.andThen, hf]
theorem push_last (h : Array Obj) (o o' : Obj) : (h.push o).setIfInBounds h.size o' = h.push o' := by
  apply Array.ext_getElem?
  intro i
  rw [Array.getElem?_setIfInBounds, Array.getElem?_push, Array.getElem?_push]
  by_cases e : h.size = i
  · subst e; simp
  · rw [if_neg e, if_neg (Ne.symm e), if_neg (Ne.symm e)]
theorem mset_last (w : World) (o o' : Obj) : ({ w.alloc o with heap := (w.alloc o).heap.setIfInBounds w.heap.size o' } : World) = w.alloc o' := by
  show ({ w with heap := (w.heap.push o).setIfInBounds w.heap.size o' } : World) = { w with heap := w.heap.push o' }
  rw [push_last]
/-- an entry more, in the block that was laid last -/
theorem insert_str (T K E : TypeId) (ht : P.underlying T = some (.map K E)) (hk : P.underlying K = some .string) (es : Array MapEntry) (c : Nat) (s : ByteArray) (v : Value) (hf : Instr.findNow .string (.string s) es.toList 0 = some none) (w : World) :
    (Instr.mapUpdate T (.map (some w.heap.size)) (.string s) v).run P (w.alloc (.map es c)) = .ok () (w.alloc (.map (es.push { key := .string s, val := v, born := c }) (c + 1))) := by
  have hb : (w.alloc (.map es c)).heap[w.heap.size]? = some (.map es c) := World.alloc_heap_new w _
  have hs : (setObj w.heap.size (.map (es.push { key := .string s, val := v, born := c }) (c + 1))).run P (w.alloc (.map es c)) = .ok () (w.alloc (.map (es.push { key := .string s, val := v, born := c }) (c + 1))) := by
    rw [set_map (w.alloc (.map es c)) _ _ _ hb, mset_last]
  unfold Instr.mapUpdate
  simp [run_underlying ht, obj_map _ _ _ _ hb, key_str _ _ _ hk, find_str _ _ hk _ _ _ hf, hs, Result.andThen]
/-- a look-up -/
theorem lookup_str (T K E : TypeId) (ht : P.underlying T = some (.map K E)) (hk : P.underlying K = some .string) (w : World) (g : Nat) (es : Array MapEntry) (c : Nat) (hb : w.heap[g]? = some (.map es c)) (s : ByteArray) (i : Nat) (v : Value) (hf : Instr.findNow .string (.string s) es.toList 0 = some (some (i, v))) :
    (Instr.lookup T (.map (some g)) (.string s) true).run P w = .ok (.tuple #[v, .bool true]) w := by
  unfold Instr.lookup
  simp [run_underlying ht, obj_map _ _ _ _ hb, key_str _ _ _ hk, find_str _ _ hk _ _ _ hf, Result.andThen]
theorem lookup_no (T K E : TypeId) (ht : P.underlying T = some (.map K E)) (hk : P.underlying K = some .string) (w : World) (g : Nat) (es : Array MapEntry) (c : Nat) (hb : w.heap[g]? = some (.map es c)) (s : ByteArray) (z : Value) (hz : (zeroValue E).run P w = .ok z w) (hf : Instr.findNow .string (.string s) es.toList 0 = some none) :
    (Instr.lookup T (.map (some g)) (.string s) true).run P w = .ok (.tuple #[z, .bool false]) w := by
  unfold Instr.lookup
  simp [run_underlying ht, obj_map _ _ _ _ hb, key_str _ _ _ hk, find_str _ _ hk _ _ _ hf, hz, Result.andThen]
end
end Go.Proofs.YtagkgneijdbkoaaDoor
/-
  What is wanted of texts and lines where Rows is walked (layer 7). No function of a program is named here. No conditions but those that each says.
-/
namespace Go.Proofs.YtagkgneijdbkoaaDoor
open Go.RowKit
set_option linter.unusedVariables false

theorem cell_two_new (w : World) (a b : Value) (t : TypeId) : ∀ j u, [a, b][j]? = some u → (w.alloc (.cells #[a, b] t)).cell? ((⟨w.heap.size, 0, none⟩ : Addr).add j) = some u := by
  intro j u hj
  match j, hj with
  | 0, hj => simp at hj; subst hj; simp [Addr.add]
  | 1, hj => simp at hj; subst hj; simp [Addr.add]
theorem info_st : (Tryd.prog.info? 9).map (fun i => (i.zero, i.size, i.bytes)) = some (some (.string ⟨#[]⟩), 1, 16) := by kernel_rfl
theorem own_one {x : World} {base : Nat} {e : TypeId} {size : Nat} {v : Value} {n : Nat} {xs : List Value} (h : x.ownsRow base e size v n xs) : v.oneCell' = true := by
  rcases own_slice h with ⟨h1, _⟩ | ⟨g, cap, h1, _⟩ <;> rw [h1] <;> rfl
theorem own_row {x : World} {base : Nat} {e : TypeId} {size : Nat} {v : Value} {n : Nat} {xs : List Value} (h : x.ownsRow base e size v n xs) (hn : 0 < n) : ∃ g cap, v = .slice (some ⟨g, 0, none⟩) n cap := by
  rcases own_slice h with ⟨_, h1⟩ | ⟨g, cap, h1, _⟩
  · omega
  · exact ⟨g, cap, h1⟩
theorem str_cell {x : World} {base : Nat} {g cap n : Nat} {ws : List Wd} {w0 : Wd} {r : List Wd} (h : x.ownsRow base 9 1 (.slice (some ⟨g, 0, none⟩) n cap) n (strV ws)) (hn : 0 < n) (hw : ws = w0 :: r) : x.cell? ⟨g, 0, none⟩ = some (.string (txt w0)) := by
  rw [World.ownsRow.cellAt h 0 (by omega), hw]; rfl
theorem str_cell2 {x : World} {base : Nat} {g cap n : Nat} {ws : List Wd} {d w0 : Wd} {r : List Wd} (h : x.ownsRow base 9 1 (.slice (some ⟨g, 0, none⟩) n cap) n (strV ws ++ [.string (txt d)])) (hn : 0 < n) (hw : ws ++ [d] = w0 :: r) : x.cell? ⟨g, 0, none⟩ = some (.string (txt w0)) := by
  have e : strV ws ++ [.string (txt d)] = strV (ws ++ [d]) := by simp
  rw [e] at h
  exact str_cell h hn hw
def WsOk (ws : List Wd) : Prop := ∀ d ∈ ws, ¬ d = []
theorem head_form {ws : List Wd} (h : WsOk ws) (hn : ¬ ws = []) : ∃ c r rest, ws = (c :: r) :: rest := by
  cases ws with
  | nil => exact absurd rfl hn
  | cons d rest =>
    cases d with
    | nil => exact absurd rfl (h [] (by simp))
    | cons c r => exact ⟨c, r, rest, rfl⟩
theorem txt_emp {d : Wd} (h : ¬ d = []) : (txt d).toList.isEmpty = false := by
  rw [ByteArray.toList_eq]
  cases d with
  | nil => exact absurd rfl h
  | cons c r => rfl
theorem txt_ne {d : Wd} (h : ¬ d = []) : ¬ (txt d).toList = [] := by
  intro e
  have := txt_emp h
  rw [e] at this
  cases this
theorem txt_get (c : UInt8) (r : Wd) (h : 0 < (txt (c :: r)).size) : (txt (c :: r))[0] = c := rfl
theorem txt_cat {s : ByteArray} {d : Wd} {k : Nat} (hk : k < s.size) : txt d ++ s.extract k (k + 1) = txt (d ++ [s[k]]) := by
  apply ByteArray.ext
  apply Array.toList_inj.1
  have e : (s.extract k (k + 1)).data.toList = [s[k]] := by
    have h1 : (s.extract k (k + 1)).data = s.data.extract k (k + 1) := by simp
    rw [h1, Array.toList_extract, List.extract_eq_take_drop]
    have hl : k < s.data.toList.length := by simpa using hk
    rw [List.drop_eq_getElem_cons hl]
    rw [show k + 1 - k = 1 by omega]
    simp
    rfl
  rw [ByteArray.data_append, Array.toList_append, e]
  rfl
theorem drop_at {s : ByteArray} {k : Nat} (hk : k < s.size) : s.data.toList.drop k = s[k] :: s.data.toList.drop (k + 1) := by
  have hl : k < s.data.toList.length := by simpa using hk
  rw [List.drop_eq_getElem_cons hl]
  rfl
theorem drop_end (s : ByteArray) : s.data.toList.drop s.size = [] := List.drop_eq_nil_of_le (by simp)
/-- what is left at place k, of a text of n bytes -/
def LeftK (s : ByteArray) (fs : List Dn) (l : Nat) (ws : List Wd) (d : Wd) (k : Nat) (T : Except Nat (List Ln)) : Prop :=
  if k ≤ s.size then LeftL (fs.map (·.1)) l ws d (s.data.toList.drop k) T else T = .ok (fs.map (·.1))
theorem LeftK.at {s : ByteArray} {fs : List Dn} {l : Nat} {ws : List Wd} {d : Wd} {k : Nat} {T : Except Nat (List Ln)} (h : LeftK s fs l ws d k T) (hk : k < s.size) : LeftL (fs.map (·.1)) l ws d (s[k] :: s.data.toList.drop (k + 1)) T := by
  unfold LeftK at h; rw [if_pos (by omega), drop_at hk] at h; exact h
theorem LeftK.end' {s : ByteArray} {fs : List Dn} {l : Nat} {ws : List Wd} {d : Wd} {T : Except Nat (List Ln)} (h : LeftK s fs l ws d s.size T) : T = .ok (fs.map (·.1) ++ closeL l (flushW ws d)) := by
  unfold LeftK at h; rw [if_pos (Nat.le_refl _), drop_end] at h; exact h.fin
theorem LeftK.of {s : ByteArray} {fs : List Dn} {l : Nat} {ws : List Wd} {d : Wd} {k : Nat} {T : Except Nat (List Ln)} (hk : k < s.size) (h : LeftL (fs.map (·.1)) l ws d (s.data.toList.drop (k + 1)) T) : LeftK s fs l ws d (k + 1) T := by
  unfold LeftK; rw [if_pos (by omega)]; exact h
theorem LeftK.past {s : ByteArray} {fs : List Dn} {l : Nat} {ws : List Wd} {d : Wd} {T : Except Nat (List Ln)} (h : T = .ok (fs.map (·.1))) : LeftK s fs l ws d (s.size + 1) T := by
  unfold LeftK; rw [if_neg (by omega)]; exact h
theorem LeftK.out {s : ByteArray} {fs : List Dn} {l : Nat} {ws : List Wd} {d : Wd} {T : Except Nat (List Ln)} (h : LeftK s fs l ws d (s.size + 1) T) : T = .ok (fs.map (·.1)) := by
  unfold LeftK at h; rwa [if_neg (by omega)] at h
theorem close_no {l : Nat} {c : UInt8} {r : Wd} {rest : List Wd} (h : c = 35) : closeL l ((c :: r) :: rest) = [] := by
  subst h; rfl
theorem close_yes {l : Nat} {c : UInt8} {r : Wd} {rest : List Wd} (h : ¬ c = 35) : closeL l ((c :: r) :: rest) = [(l, (c :: r) :: rest)] := by
  unfold closeL countsB
  simp [h]
theorem close_nil (l : Nat) : closeL l [] = [] := rfl
theorem flush_ne {ws : List Wd} {d : Wd} (h : ¬ d = []) : flushW ws d = ws ++ [d] := by unfold flushW; rw [if_neg h]
theorem wsok_snoc {ws : List Wd} {d : Wd} (h : WsOk ws) (hd : ¬ d = []) : WsOk (ws ++ [d]) := by
  intro x hx
  rcases List.mem_append.1 hx with h1 | h1
  · exact h x h1
  · rw [List.mem_singleton.1 h1]; exact hd
theorem u8_ne {c : UInt8} {n : Nat} (hn : n < 256) (h : ¬ c = UInt8.ofNat n) : ¬ (c.toNat : Int) = (n : Int) := by
  intro e
  apply h
  apply UInt8.toNat_inj.1
  rw [UInt8.toNat_ofNat']
  omega
theorem u8_eq {c : UInt8} {n : Nat} (hn : n < 256) (h : (c.toNat : Int) = (n : Int)) : c = UInt8.ofNat n := by
  apply UInt8.toNat_inj.1
  rw [UInt8.toNat_ofNat']
  omega
theorem map_dn (fs : List Dn) (f : Dn) : (fs ++ [f]).map (·.1) = fs.map (·.1) ++ [f.1] := by simp
end Go.Proofs.YtagkgneijdbkoaaDoor
/-
  What the document's own Rows returns (layer 7). Conditions: as each says.
-/
namespace Go.Proofs.YtagkgneijdbkoaaDoor
open Go.RowKit
set_option linter.unusedVariables false

theorem info_rrows : (Tryd.prog.info? 46).map (fun i => (i.zero, i.size, i.bytes)) = some (some (.agg #[.int .i64 0, .slice none 0 0]), 2, 32) := by kernel_rfl

set_option maxRecDepth 100000 in
set_option maxHeartbeats 16000000 in
theorem rrows_short (s : ByteArray) (w : World) (hs : (s.size : Int) ≤ 4000) (T : Except Nat (List Ln)) (hT : scanL 1 [] [] s.data.toList = T) :
    Calls Tryd.prog 9 #[.string s] w fun e w' => ∃ v, e = .returned (.tuple #[v, .int .i64 ((tLine T : Nat) : Int), .int .i64 ((tErr T : Nat) : Int)]) ∧ RowsAt w' v (tRows T) ∧ Below w.heap.size w w' := by
  obtain ⟨i0, hi, hz0, hz1, hz2⟩ := info_parts info_st
  obtain ⟨r0, hri, hr0, hr1, hr2⟩ := info_parts info_rrows
  have L0 : Hid (LeftK s [] 1 [] [] 0 T) := by
    unfold Hid LeftK
    rw [if_pos (Nat.zero_le _), ← hT]
    exact LeftL.first _
  clear hT
  go_enter Tryd.func9, Tryd.ntmps9
  go_wp2
  go_loopw [5, 6, 7, 8, 9] (fun vo vl vw vd vi wr => ∃ (k l : Nat) (fs : List Dn) (ws : List Wd) (d : Wd), (k : Int) ≤ (s.size : Int) + 1 ∧ vi = .int .i64 (k : Int) ∧ vl = .int .i64 (l : Int) ∧ vd = .string (txt d) ∧ ((l : Int) ≤ (k : Int) + 1 ∧ (ws.length : Int) ≤ (k : Int) ∧ (fs.length : Int) ≤ (k : Int) ∧ (d.length : Int) ≤ (k : Int)) ∧ Hid (WsOk ws) ∧ Hid (LxSt w wr 46 vo vw fs ws) ∧ Hid (LeftK s fs l ws d k T)) (fun _ _ _ _ vi _ => s.size + 1 - (intOf vi).toNat)
  case atStart => exact ⟨0, 1, [], [], [], by omega, rfl, rfl, rfl, ⟨by omega, by simp, by simp, by simp⟩, (fun d hd => by cases hd), LxSt.first w _, L0⟩
  case round =>
    obtain ⟨k, l, fs, ws, d, hk, rfl, rfl, rfl, ⟨bl, bw, bf, bd⟩, wok, st, left⟩ := hrel
    clear L0
    by_cases hlt : k < s.size
    · have hki : (k : Int) < (s.size : Int) := by omega
      have hke : ((k : Int) == (s.size : Int)) = false := beq_eq_false_iff_ne.2 (by omega)
      by_cases h10 : (s[k].toNat : Int) = 10
      · have hc10 : s[k] = 10 := u8_eq (n := 10) (by omega) h10
        have hw63 : ws.length + 1 ≤ maxLen := by unfold maxLen; omega
        have hwby : (ws.length + 1) * 16 ≤ 140737488355328 := by omega
        have hf63 : fs.length + 1 ≤ maxLen := by unfold maxLen; omega
        have hfby : (fs.length + 1) * 32 ≤ 140737488355328 := by omega
        have lf := (LeftL.line (hc10 ▸ left.out.at hlt))
        by_cases hd : d = []
        · subst hd
          rw [flush_nil] at lf
          have et : txt [] = ⟨#[]⟩ := rfl
          rw [et]
          by_cases hw : ws = []
          · subst hw
            have nl : Hid (LeftK s (fs) (l + 1) [] [] (k + 1) T) := LeftK.of hlt (by rw [close_nil] at lf; simpa using lf)
            rcases own_slice st.out.rw with ⟨rfl, _⟩ | ⟨g, cap, rfl, _⟩
            all_goals
              have st2 := LxSt.letGo st.out
              clear left lf wok hw63 hwby hf63 hfby
              go_wp2
              exact ⟨⟨k + 1, l + 1, fs, [], [], by omega, by simp, by simp, rfl, ⟨by omega, by simp <;> omega, by simp <;> omega, by simp <;> omega⟩, (fun d hd => by cases hd), st2, nl⟩, by simp [intOf] <;> omega⟩
          · obtain ⟨c, r, rest, heq0⟩ := head_form wok.out hw
            have heq : Hid (ws = (c :: r) :: rest) := heq0
            rw [heq0] at lf
            obtain ⟨g1, cap1, rfl⟩ := own_row st.out.rw (by rw [heq0]; simp)
            have c0 := str_cell st.out.rw (by rw [heq0]; simp) heq0
            have wl0 : 0 < (ws.length : Int) := by rw [heq0]; simp <;> omega
            have tg := txt_get c r (by rw [txt_size]; simp)
            have ts : 0 < ((txt (c :: r)).size : Int) := by rw [txt_size]; simp <;> omega
            clear heq0 hw
            by_cases hh : (c.toNat : Int) = 35
            · have c35 : c = 35 := u8_eq (n := 35) (by omega) hh
              have nl : Hid (LeftK s (fs) (l + 1) [] [] (k + 1) T) := LeftK.of hlt (by rw [close_no c35] at lf; simpa using lf)
              have st2 := LxSt.letGo st.out
              clear left lf wok heq c35 hw63 hwby hf63 hfby st
              go_wp2
              exact ⟨⟨k + 1, l + 1, fs, [], [], by omega, by simp, by simp, rfl, ⟨by omega, by simp <;> omega, by simp <;> omega, by simp <;> omega⟩, (fun d hd => by cases hd), st2, nl⟩, by simp [intOf] <;> omega⟩
            · have c35 : ¬ c = 35 := fun e => hh (by rw [e]; rfl)
              rw [close_yes c35] at lf
              rw [← heq.out] at lf
              have nl : Hid (LeftK s (fs ++ [((l, ws), .slice (some ⟨g1, 0, none⟩) ws.length cap1)]) (l + 1) [] [] (k + 1) T) := LeftK.of hlt (by rw [map_dn]; exact lf)
              clear left lf wok c35 hw63 hwby
              have hne : ¬ ws = [] := by rw [heq.out]; simp
              clear heq
              go_wp2_with (at_builtin; refine wpList_append_own_at _ rfl _ _ 30 rfl w.heap.size 46 r0 (.agg #[.int .i64 0, .slice none 0 0]) 2 32 Tryd.underlying30 hri hr0 hr1 hr2 rfl (by decide) _ _ _ rfl (World.ownsRow.alloc st.out.ro _) ⟨wr.heap.size, 0, none⟩ 1 1 [.int .i64 (l : Int), .slice (some ⟨g1, 0, none⟩) ws.length cap1] rfl rfl (cell_two_new _ _ _ _) (by simp [Value.oneCell']) hf63 hfby (by have := st.out.b.size; simp; omega) ?_; intro v2 y2 hO gO _ vO; have st2 : Hid (LxSt w y2 46 v2 (.slice none 0 0) (fs ++ [((l, ws), .slice (some ⟨g1, 0, none⟩) ws.length cap1)]) []) := LxSt.line st.out hne l hO gO vO; clear hO gO vO)
              exact ⟨⟨k + 1, l + 1, fs ++ [((l, ws), .slice (some ⟨g1, 0, none⟩) ws.length cap1)], [], [], by omega, by simp, by simp, rfl, ⟨by omega, by simp <;> omega, by simp <;> omega, by simp <;> omega⟩, (fun d hd => by cases hd), st2, nl⟩, by simp [intOf] <;> omega⟩
        · have te := txt_emp hd
          have tn := txt_ne hd
          rw [flush_ne hd] at lf
          obtain ⟨c, r, rest, heq0⟩ := head_form (wsok_snoc wok.out hd) (by simp)
          have heq : Hid (ws ++ [d] = (c :: r) :: rest) := heq0
          rw [heq0] at lf
          have wl0 : 0 ≤ (ws.length : Int) := by omega
          have tg := txt_get c r (by rw [txt_size]; simp)
          have ts : 0 < ((txt (c :: r)).size : Int) := by rw [txt_size]; simp <;> omega
          clear heq0
          by_cases hh : (c.toNat : Int) = 35
          · have c35 : c = 35 := u8_eq (n := 35) (by omega) hh
            have nl : Hid (LeftK s (fs) (l + 1) [] [] (k + 1) T) := LeftK.of hlt (by rw [close_no c35] at lf; simpa using lf)
            clear left lf wok c35 hf63 hfby
            go_wp2_with (at_builtin; refine wpList_append_own_at _ rfl _ _ 44 rfl w.heap.size 9 i0 (.string ⟨#[]⟩) 1 16 Tryd.underlying44 hi hz0 hz1 hz2 rfl (by decide) _ _ _ rfl (World.ownsRow.alloc st.out.rw _) ⟨wr.heap.size, 0, none⟩ 1 1 [.string (txt d)] rfl rfl (cell_one_new _ _ _) (by simp [Value.oneCell']) hw63 hwby (by have := st.out.b.size; simp; omega) ?_; intro v1 y1 hA gA _ vA; obtain ⟨g1, cap1, rfl⟩ := own_row hA (by omega); have c0 := str_cell2 hA (by omega) heq.out; replace st : Hid (LxSt w y1 46 u5 (.slice (some ⟨g1, 0, none⟩) (ws.length + 1) cap1) fs (ws ++ [d])) := LxSt.word st.out d hA gA vA; clear hA gA vA)
            have st2 := LxSt.letGo st.out
            exact ⟨⟨k + 1, l + 1, fs, [], [], by omega, by simp, by simp, rfl, ⟨by omega, by simp <;> omega, by simp <;> omega, by simp <;> omega⟩, (fun d hd => by cases hd), st2, nl⟩, by simp [intOf] <;> omega⟩
          · have c35 : ¬ c = 35 := fun e => hh (by rw [e]; rfl)
            rw [close_yes c35] at lf
            rw [← heq.out] at lf
            clear left wok c35
            replace lf : Hid (LeftL (fs.map (·.1) ++ [(l, ws ++ [d])]) (l + 1) [] [] (s.data.toList.drop (k + 1)) T) := lf
            go_wp2_with (first
              | (at_builtin; refine wpList_append_own_at _ rfl _ _ 44 rfl w.heap.size 9 i0 (.string ⟨#[]⟩) 1 16 Tryd.underlying44 hi hz0 hz1 hz2 rfl (by decide) _ _ _ rfl (World.ownsRow.alloc st.out.rw _) ⟨wr.heap.size, 0, none⟩ 1 1 [.string (txt d)] rfl rfl (cell_one_new _ _ _) (by simp [Value.oneCell']) hw63 hwby (by have := st.out.b.size; simp; omega) ?_; intro v1 y1 hA gA _ vA; obtain ⟨g1, cap1, rfl⟩ := own_row hA (by omega); have c0 := str_cell2 hA (by omega) heq.out; replace st : Hid (LxSt w y1 46 u5 (.slice (some ⟨g1, 0, none⟩) (ws.length + 1) cap1) fs (ws ++ [d])) := LxSt.word st.out d hA gA vA; clear hA gA vA)
              | (at_builtin; refine wpList_append_own_at _ rfl _ _ 30 rfl w.heap.size 46 r0 (.agg #[.int .i64 0, .slice none 0 0]) 2 32 Tryd.underlying30 hri hr0 hr1 hr2 rfl (by decide) _ _ _ rfl (World.ownsRow.alloc st.out.ro _) ⟨y1.heap.size, 0, none⟩ 1 1 [.int .i64 (l : Int), .slice (some ⟨g1, 0, none⟩) (ws.length + 1) cap1] rfl rfl (cell_two_new _ _ _ _) (by simp [Value.oneCell']) hf63 hfby (by have := st.out.b.size; simp; omega) ?_; intro v2 y2 hO gO _ vO; have st2 : Hid (LxSt w y2 46 v2 (.slice none 0 0) (fs ++ [((l, ws ++ [d]), .slice (some ⟨g1, 0, none⟩) (ws.length + 1) cap1)]) []) := LxSt.line st.out (by simp) l hO gO vO; clear hO gO vO))
            have nl : Hid (LeftK s (fs ++ [((l, ws ++ [d]), .slice (some ⟨g1, 0, none⟩) (ws.length + 1) cap1)]) (l + 1) [] [] (k + 1) T) := LeftK.of hlt (by rw [map_dn]; exact lf.out)
            exact ⟨⟨k + 1, l + 1, fs ++ [((l, ws ++ [d]), .slice (some ⟨g1, 0, none⟩) (ws.length + 1) cap1)], [], [], by omega, by simp, by simp, rfl, ⟨by omega, by simp <;> omega, by simp <;> omega, by simp <;> omega⟩, (fun d hd => by cases hd), st2, nl⟩, by simp [intOf] <;> omega⟩
      · have hc10 : ¬ s[k] = 10 := fun e => h10 (by rw [e]; rfl)
        have hq10 : ((s[k].toNat : Int) == 10) = false := beq_eq_false_iff_ne.2 h10
        by_cases h32 : (s[k].toNat : Int) = 32
        · have hc32 : s[k] = 32 := u8_eq (n := 32) (by omega) h32
          have lf := LeftL.blank (hc32 ▸ left.out.at hlt)
          have hw63 : ws.length + 1 ≤ maxLen := by unfold maxLen; omega
          have hwby : (ws.length + 1) * 16 ≤ 140737488355328 := by omega
          by_cases hd : d = []
          · subst hd
            rw [flush_nil] at lf
            have et : txt [] = ⟨#[]⟩ := rfl
            rw [et]
            have nl : Hid (LeftK s fs l ws [] (k + 1) T) := LeftK.of hlt lf
            clear left lf hw63 hwby hc32 hc10
            go_wp2
            exact ⟨⟨k + 1, l, fs, ws, [], by omega, by simp, rfl, rfl, ⟨by omega, by omega, by omega, by simp <;> omega⟩, wok, st, nl⟩, by simp [intOf] <;> omega⟩
          · have te := txt_emp hd
            have tn := txt_ne hd
            rw [flush_ne hd] at lf
            have nl : Hid (LeftK s fs l (ws ++ [d]) [] (k + 1) T) := LeftK.of hlt lf
            replace wok : Hid (WsOk (ws ++ [d])) := wsok_snoc wok.out hd
            clear left lf hc32 hc10
            go_wp2_with (at_builtin; refine wpList_append_own_at _ rfl _ _ 44 rfl w.heap.size 9 i0 (.string ⟨#[]⟩) 1 16 Tryd.underlying44 hi hz0 hz1 hz2 rfl (by decide) _ _ _ rfl (World.ownsRow.alloc st.out.rw _) ⟨wr.heap.size, 0, none⟩ 1 1 [.string (txt d)] rfl rfl (cell_one_new _ _ _) (by simp [Value.oneCell']) hw63 hwby (by have := st.out.b.size; simp; omega) ?_; intro v1 y1 hA gA _ vA; obtain ⟨g1, cap1, rfl⟩ := own_row hA (by omega); replace st : Hid (LxSt w y1 46 u5 (.slice (some ⟨g1, 0, none⟩) (ws.length + 1) cap1) fs (ws ++ [d])) := LxSt.word st.out d hA gA vA; clear hA gA vA)
            exact ⟨⟨k + 1, l, fs, ws ++ [d], [], by omega, by simp, rfl, rfl, ⟨by omega, by simp <;> omega, by omega, by simp <;> omega⟩, wok, st, nl⟩, by simp [intOf] <;> omega⟩
        · have hc32 : ¬ s[k] = 32 := fun e => h32 (by rw [e]; rfl)
          have hq32 : ((s[k].toNat : Int) == 32) = false := beq_eq_false_iff_ne.2 h32
          by_cases hlo : (s[k].toNat : Int) < 32
          · have fin : Hid (T = .error l) := (left.out.at hlt).bad hc10 hc32 (by omega)
            have B : Hid (Below w.heap.size w wr) := st.out.b
            clear left hc32 hc10 st wok
            go_wp2
            go_ret3
            exact ⟨_, by rw [fin.out]; rfl, by rw [fin.out]; exact .inl ⟨rfl, rfl⟩, B.out⟩
          · by_cases hhi : (126 : Int) < (s[k].toNat : Int)
            · have fin : Hid (T = .error l) := (left.out.at hlt).bad hc10 hc32 (by omega)
              have B : Hid (Below w.heap.size w wr) := st.out.b
              have q1 : (32 : Int) ≤ (s[k].toNat : Int) := by omega
              clear left hc32 hc10 st wok
              go_wp2
              go_ret3
              exact ⟨_, by rw [fin.out]; rfl, by rw [fin.out]; exact .inl ⟨rfl, rfl⟩, B.out⟩
            · have nl : Hid (LeftK s fs l ws (d ++ [s[k]]) (k + 1) T) := LeftK.of hlt ((left.out.at hlt).byte hc10 hc32 (by omega))
              have q1 : (32 : Int) ≤ (s[k].toNat : Int) := by omega
              have q2 : (s[k].toNat : Int) ≤ 126 := by omega
              have hk1 : (k : Int) + 1 ≤ (s.size : Int) := by omega
              have hadd : ∀ x : World, (Op.stringOp .add (txt d) (s.extract k (k + 1))).run Tryd.prog x = .ok (.string (txt (d ++ [s[k]]))) x := fun x => by
                rw [run_string_add_sum x (txt d) (s.extract k (k + 1)) (by rw [txt_size, ByteArray.size_extract]; omega), txt_cat hlt]
              have dl : Hid (((d ++ [s[k]]).length : Int) ≤ (k : Int) + 1) := by unfold Hid; simp; omega
              clear left hc32 hc10
              generalize d ++ [s[k]] = d' at *
              go_wp2
              exact ⟨⟨k + 1, l, fs, ws, d', by omega, by simp, rfl, rfl, ⟨by omega, by omega, by omega, by have := dl.out; omega⟩, wok, st, nl⟩, by simp [intOf] <;> omega⟩
    · by_cases heq' : k = s.size
      · subst heq'
        have hw63 : ws.length + 1 ≤ maxLen := by unfold maxLen; omega
        have hwby : (ws.length + 1) * 16 ≤ 140737488355328 := by omega
        have hf63 : fs.length + 1 ≤ maxLen := by unfold maxLen; omega
        have hfby : (fs.length + 1) * 32 ≤ 140737488355328 := by omega
        have lf := left.out.end'
        by_cases hd : d = []
        · subst hd
          rw [flush_nil] at lf
          have et : txt [] = ⟨#[]⟩ := rfl
          rw [et]
          by_cases hw : ws = []
          · subst hw
            have nl : Hid (LeftK s (fs) (l + 1) [] [] (s.size + 1) T) := LeftK.past (by rw [close_nil] at lf; rw [lf]; simp)
            rcases own_slice st.out.rw with ⟨rfl, _⟩ | ⟨g, cap, rfl, _⟩
            all_goals
              have st2 := LxSt.letGo st.out
              clear left lf wok hw63 hwby hf63 hfby
              go_wp2
              exact ⟨⟨s.size + 1, l + 1, fs, [], [], by omega, by simp, by simp, rfl, ⟨by omega, by simp <;> omega, by simp <;> omega, by simp <;> omega⟩, (fun d hd => by cases hd), st2, nl⟩, by simp [intOf] <;> omega⟩
          · obtain ⟨c, r, rest, heq0⟩ := head_form wok.out hw
            have heq : Hid (ws = (c :: r) :: rest) := heq0
            rw [heq0] at lf
            obtain ⟨g1, cap1, rfl⟩ := own_row st.out.rw (by rw [heq0]; simp)
            have c0 := str_cell st.out.rw (by rw [heq0]; simp) heq0
            have wl0 : 0 < (ws.length : Int) := by rw [heq0]; simp <;> omega
            have tg := txt_get c r (by rw [txt_size]; simp)
            have ts : 0 < ((txt (c :: r)).size : Int) := by rw [txt_size]; simp <;> omega
            clear heq0 hw
            by_cases hh : (c.toNat : Int) = 35
            · have c35 : c = 35 := u8_eq (n := 35) (by omega) hh
              have nl : Hid (LeftK s (fs) (l + 1) [] [] (s.size + 1) T) := LeftK.past (by rw [close_no c35] at lf; rw [lf]; simp)
              have st2 := LxSt.letGo st.out
              clear left lf wok heq c35 hw63 hwby hf63 hfby st
              go_wp2
              exact ⟨⟨s.size + 1, l + 1, fs, [], [], by omega, by simp, by simp, rfl, ⟨by omega, by simp <;> omega, by simp <;> omega, by simp <;> omega⟩, (fun d hd => by cases hd), st2, nl⟩, by simp [intOf] <;> omega⟩
            · have c35 : ¬ c = 35 := fun e => hh (by rw [e]; rfl)
              rw [close_yes c35] at lf
              rw [← heq.out] at lf
              have nl : Hid (LeftK s (fs ++ [((l, ws), .slice (some ⟨g1, 0, none⟩) ws.length cap1)]) (l + 1) [] [] (s.size + 1) T) := LeftK.past (by rw [lf, map_dn])
              clear left lf wok c35 hw63 hwby
              have hne : ¬ ws = [] := by rw [heq.out]; simp
              clear heq
              go_wp2_with (at_builtin; refine wpList_append_own_at _ rfl _ _ 30 rfl w.heap.size 46 r0 (.agg #[.int .i64 0, .slice none 0 0]) 2 32 Tryd.underlying30 hri hr0 hr1 hr2 rfl (by decide) _ _ _ rfl (World.ownsRow.alloc st.out.ro _) ⟨wr.heap.size, 0, none⟩ 1 1 [.int .i64 (l : Int), .slice (some ⟨g1, 0, none⟩) ws.length cap1] rfl rfl (cell_two_new _ _ _ _) (by simp [Value.oneCell']) hf63 hfby (by have := st.out.b.size; simp; omega) ?_; intro v2 y2 hO gO _ vO; have st2 : Hid (LxSt w y2 46 v2 (.slice none 0 0) (fs ++ [((l, ws), .slice (some ⟨g1, 0, none⟩) ws.length cap1)]) []) := LxSt.line st.out hne l hO gO vO; clear hO gO vO)
              exact ⟨⟨s.size + 1, l + 1, fs ++ [((l, ws), .slice (some ⟨g1, 0, none⟩) ws.length cap1)], [], [], by omega, by simp, by simp, rfl, ⟨by omega, by simp <;> omega, by simp <;> omega, by simp <;> omega⟩, (fun d hd => by cases hd), st2, nl⟩, by simp [intOf] <;> omega⟩
        · have te := txt_emp hd
          have tn := txt_ne hd
          rw [flush_ne hd] at lf
          obtain ⟨c, r, rest, heq0⟩ := head_form (wsok_snoc wok.out hd) (by simp)
          have heq : Hid (ws ++ [d] = (c :: r) :: rest) := heq0
          rw [heq0] at lf
          have wl0 : 0 ≤ (ws.length : Int) := by omega
          have tg := txt_get c r (by rw [txt_size]; simp)
          have ts : 0 < ((txt (c :: r)).size : Int) := by rw [txt_size]; simp <;> omega
          clear heq0
          by_cases hh : (c.toNat : Int) = 35
          · have c35 : c = 35 := u8_eq (n := 35) (by omega) hh
            have nl : Hid (LeftK s (fs) (l + 1) [] [] (s.size + 1) T) := LeftK.past (by rw [close_no c35] at lf; rw [lf]; simp)
            clear left lf wok c35 hf63 hfby
            go_wp2_with (at_builtin; refine wpList_append_own_at _ rfl _ _ 44 rfl w.heap.size 9 i0 (.string ⟨#[]⟩) 1 16 Tryd.underlying44 hi hz0 hz1 hz2 rfl (by decide) _ _ _ rfl (World.ownsRow.alloc st.out.rw _) ⟨wr.heap.size, 0, none⟩ 1 1 [.string (txt d)] rfl rfl (cell_one_new _ _ _) (by simp [Value.oneCell']) hw63 hwby (by have := st.out.b.size; simp; omega) ?_; intro v1 y1 hA gA _ vA; obtain ⟨g1, cap1, rfl⟩ := own_row hA (by omega); have c0 := str_cell2 hA (by omega) heq.out; replace st : Hid (LxSt w y1 46 u5 (.slice (some ⟨g1, 0, none⟩) (ws.length + 1) cap1) fs (ws ++ [d])) := LxSt.word st.out d hA gA vA; clear hA gA vA)
            have st2 := LxSt.letGo st.out
            exact ⟨⟨s.size + 1, l + 1, fs, [], [], by omega, by simp, by simp, rfl, ⟨by omega, by simp <;> omega, by simp <;> omega, by simp <;> omega⟩, (fun d hd => by cases hd), st2, nl⟩, by simp [intOf] <;> omega⟩
          · have c35 : ¬ c = 35 := fun e => hh (by rw [e]; rfl)
            rw [close_yes c35] at lf
            rw [← heq.out] at lf
            clear left wok c35
            replace lf : Hid (T = .ok (fs.map (·.1) ++ [(l, ws ++ [d])])) := lf
            go_wp2_with (first
              | (at_builtin; refine wpList_append_own_at _ rfl _ _ 44 rfl w.heap.size 9 i0 (.string ⟨#[]⟩) 1 16 Tryd.underlying44 hi hz0 hz1 hz2 rfl (by decide) _ _ _ rfl (World.ownsRow.alloc st.out.rw _) ⟨wr.heap.size, 0, none⟩ 1 1 [.string (txt d)] rfl rfl (cell_one_new _ _ _) (by simp [Value.oneCell']) hw63 hwby (by have := st.out.b.size; simp; omega) ?_; intro v1 y1 hA gA _ vA; obtain ⟨g1, cap1, rfl⟩ := own_row hA (by omega); have c0 := str_cell2 hA (by omega) heq.out; replace st : Hid (LxSt w y1 46 u5 (.slice (some ⟨g1, 0, none⟩) (ws.length + 1) cap1) fs (ws ++ [d])) := LxSt.word st.out d hA gA vA; clear hA gA vA)
              | (at_builtin; refine wpList_append_own_at _ rfl _ _ 30 rfl w.heap.size 46 r0 (.agg #[.int .i64 0, .slice none 0 0]) 2 32 Tryd.underlying30 hri hr0 hr1 hr2 rfl (by decide) _ _ _ rfl (World.ownsRow.alloc st.out.ro _) ⟨y1.heap.size, 0, none⟩ 1 1 [.int .i64 (l : Int), .slice (some ⟨g1, 0, none⟩) (ws.length + 1) cap1] rfl rfl (cell_two_new _ _ _ _) (by simp [Value.oneCell']) hf63 hfby (by have := st.out.b.size; simp; omega) ?_; intro v2 y2 hO gO _ vO; have st2 : Hid (LxSt w y2 46 v2 (.slice none 0 0) (fs ++ [((l, ws ++ [d]), .slice (some ⟨g1, 0, none⟩) (ws.length + 1) cap1)]) []) := LxSt.line st.out (by simp) l hO gO vO; clear hO gO vO))
            have nl : Hid (LeftK s (fs ++ [((l, ws ++ [d]), .slice (some ⟨g1, 0, none⟩) (ws.length + 1) cap1)]) (l + 1) [] [] (s.size + 1) T) := LeftK.past (by rw [lf.out, map_dn])
            exact ⟨⟨s.size + 1, l + 1, fs ++ [((l, ws ++ [d]), .slice (some ⟨g1, 0, none⟩) (ws.length + 1) cap1)], [], [], by omega, by simp, by simp, rfl, ⟨by omega, by simp <;> omega, by simp <;> omega, by simp <;> omega⟩, (fun d hd => by cases hd), st2, nl⟩, by simp [intOf] <;> omega⟩
      · obtain rfl : k = s.size + 1 := by omega
        have fin : Hid (T = .ok (fs.map (·.1))) := left.out.out
        have X : Hid (RowsAt wr u5 (fs.map (·.1))) := st.out.rows
        have B : Hid (Below w.heap.size w wr) := st.out.b
        clear left st wok hlt heq'
        go_wp2
        go_ret3
        exact ⟨_, by rw [fin.out]; rfl, by rw [fin.out]; exact X.out, B.out⟩

set_option maxRecDepth 100000 in
set_option maxHeartbeats 2000000 in
theorem rrows_long (s : ByteArray) (w : World) (hs : 4000 < (s.size : Int)) :
    Calls Tryd.prog 9 #[.string s] w fun e w' => e = .returned (.tuple #[.slice none 0 0, .int .i64 0, .int .i64 7]) ∧ w' = w := by
  go_enter Tryd.func9, Tryd.ntmps9
  go_wp2
  go_ret3
  exact ⟨rfl, rfl⟩
theorem rrows_any (s : ByteArray) (w : World) :
    Calls Tryd.prog 9 #[.string s] w fun e w' => ∃ v, e = .returned (.tuple #[v, .int .i64 ((lexLine s.data.toList : Nat) : Int), .int .i64 ((lexErr s.data.toList : Nat) : Int)]) ∧ RowsAt w' v (lexRows s.data.toList) ∧ Below w.heap.size w w' := by
  have hl : s.data.toList.length = s.size := by simp
  by_cases hs : (s.size : Int) ≤ 4000
  · have k := rrows_short s w hs _ rfl
    unfold lexLine lexErr lexRows
    rw [hl, if_pos (by omega), if_pos (by omega), if_pos (by omega)]
    exact k
  · refine (rrows_long s w (by omega)).mono ?_
    rintro e w' ⟨rfl, rfl⟩
    unfold lexLine lexErr lexRows
    rw [hl, if_neg (by omega), if_neg (by omega), if_neg (by omega)]
    exact ⟨_, rfl, .inl ⟨rfl, rfl⟩, Below.refl _ _⟩
end Go.Proofs.YtagkgneijdbkoaaDoor
