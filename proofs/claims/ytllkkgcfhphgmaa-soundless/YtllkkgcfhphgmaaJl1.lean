/-
  Texts that belong together, one behind the other: SnLe0, SnLe. Conditions: as each says.
-/
import Derived.Maps.AppendAt
import Derived.Test.YtllkkgcfhphgmaaJs25
import Derived.Test.YtllkkgcfhphgmaaJs27
/-
  What SoundLess' appends do: rows of fields that the law makes (layer 9). Conditions: as each says.
-/
namespace Go.Proofs.Ytllkkgcfhphgmaa
open Go.RowKit
set_option linter.unusedVariables false

theorem info_rf : (Try.prog.info? 41).map (fun i => (i.zero, i.size, i.bytes)) = some (some (.agg #[.string ⟨#[]⟩, .int .i64 0, .string ⟨#[]⟩, .int .i64 0, .int .i64 0, .int .i64 0, .int .i64 0, .int .i64 0, .string ⟨#[]⟩]), 9, 96) := by kernel_rfl
/-- append of a slice, of none too -/
theorem wp_append_at {P : Program} {w : World} {o : Oper} {a : Act} {K : Act → World → Prop} {Q : Exit → Act → World → Prop} (s x : Operand) (t : TypeId)
    (ho : o.op = .call { callee := .builtin .append, args := #[s, x], argTypes := #[t, t] })
    (base : Nat) (e : TypeId) (i : TypeInfo) (z : Value) (size bytes : Nat) (ht : P.underlying t = some (.slice e)) (hi : P.info? e = some i) (hz : i.zero = some z)
    (hsize : i.size = size) (hby : i.bytes = bytes) (hzs : z.cells.size = size) (hsz : 0 < size)
    (v : Value) (n : Nat) (xs : List Value) (hs : a.eval s = v) (hown : w.ownsRow base e size v n xs)
    (ad : Addr) (m c : Nat) (news : List Value) (hx : a.eval x = .slice (some ad) m c) (hl : news.length = m * size) (hnews : ∀ j u, news[j]? = some u → w.cell? (ad.add j) = some u) (h1 : ∀ u ∈ news, u.oneCell' = true)
    (h63 : n + m ≤ maxLen) (hbytes : (n + m) * bytes ≤ 140737488355328) (hbase : base ≤ w.heap.size)
    (h : ∀ v' w', w'.ownsRow base e size v' (n + m) (xs ++ news) → w.grownBy w' v.ownBlock → (v'.ownBlock = v.ownBlock ∨ v'.ownBlock = some w.heap.size) → K (a.put o.dst v') w') : o.wp P a w K Q := by
  obtain ⟨v', w', hr, h2, h3, _, h5⟩ := run_append_own_at (P := P) w base t o.type e i z size bytes ht hi hz hsize hby hzs hsz v n xs hown ad m c news hl hnews h1 h63 hbytes hbase
  unfold Oper.wp execOp
  simp only [ho, resolve, invoke, builtin, Sem.run_bind, Sem.run_pure, Result.andThen_ok, List.map_toArray, List.map_cons, List.map_nil, hs, hx, hr]
  exact h v' w' h2 h3 h5
theorem own_fldsV {x : World} {N : Nat} {e : TypeId} {v : Value} {fs : List Fd} (h : x.ownsRow N e 9 v fs.length (fdCs fs)) : FldsV x v fs := by
  rcases own_slice h with ⟨e, hn⟩ | ⟨gg, cp, e, hgb, hgl⟩
  · exact .inl ⟨none, 0, by rw [e], List.length_eq_zero_iff.1 hn⟩
  · have hroom := own_room h _ _ _ e
    refine .inr ⟨gg, 0, cp, e, hroom, fun j hj i u hu => ?_, hgl⟩
    have hi9 : i < 9 := by
      rcases Nat.lt_or_ge i 9 with h | h
      · exact h
      · rw [List.getElem?_eq_none (by rw [fdC_len]; exact h)] at hu; cases hu
    have hc := h
    rw [e] at hc
    have k1 := World.ownsRow.cellAt hc (9 * j + i) (by omega)
    rw [Nat.zero_add, k1, fdCs_get fs j i hj hi9]
    exact hu
/-- the cells of fields from a place on -/
theorem news_from {x : World} {g o : Nat} {fs : List Fd} (h : FldsIn x g o fs) (k : Nat) : ∀ j u, (fdCs (fs.drop k))[j]? = some u → x.cell? ((⟨g, o + k * 9, none⟩ : Addr).add j) = some u := by
  intro j u hu
  have hj : j < (fs.length - k) * 9 := by
    rcases Nat.lt_or_ge j ((fs.length - k) * 9) with h | h
    · exact h
    · rw [List.getElem?_eq_none (by rw [fdCs_len, List.length_drop]; exact h)] at hu; cases hu
  have hq : k + j / 9 < fs.length := by omega
  have e1 : (fdCs (fs.drop k))[9 * (j / 9) + j % 9]? = (fdC ((fs.drop k)[j / 9]'(by rw [List.length_drop]; omega)))[j % 9]? := fdCs_get _ _ _ _ (Nat.mod_lt _ (by omega))
  rw [Nat.div_add_mod] at e1
  rw [e1, List.getElem_drop] at hu
  have c := h (k + j / 9) hq (j % 9) u hu
  rw [addr_add]
  have e2 : o + k * 9 + j = o + 9 * (k + j / 9) + j % 9 := by
    have := Nat.div_add_mod j 9
    omega
  rw [e2]; exact c
theorem news_first {x : World} {g o : Nat} {fs : List Fd} (h : FldsIn x g o fs) (k : Nat) : ∀ j u, (fdCs (fs.take k))[j]? = some u → x.cell? ((⟨g, o, none⟩ : Addr).add j) = some u := by
  have h2 := news_from (h.take k) 0
  simpa using h2
theorem one_cell (fs : List Fd) : ∀ u ∈ fdCs fs, u.oneCell' = true := by
  intro u hu
  unfold fdCs at hu
  obtain ⟨f, _, hf⟩ := List.mem_flatMap.1 hu
  unfold fdC at hf
  simp only [List.mem_cons, List.not_mem_nil, or_false] at hf
  rcases hf with rfl | rfl | rfl | rfl | rfl | rfl | rfl | rfl | rfl <;> rfl
theorem below_own {w x y : World} {B : Nat} {e : TypeId} {v : Value} {n : Nat} {xs : List Value} (hB : B ≤ w.heap.size) (hb : Below B w x) (ho : x.ownsRow B e 9 v n xs) (hg : x.grownBy y v.ownBlock) : Below B w y := by
  refine hb.trans ⟨hg.os, hg.tape, hg.output, hg.size, fun j hj => hg.block j ?_ ?_⟩
  · have := hb.size
    rcases Nat.lt_or_ge j x.heap.size with h | h
    · exact h
    · exact absurd h (by omega)
  · intro e
    have := (World.ownsRow.lt ho j e.symm).1
    omega
end Go.Proofs.Ytllkkgcfhphgmaa
/-
  SoundLess, out of what its callees return (layer 9). Conditions: the device's fields lie in memory that was there; numbers are of their kinds.
-/
namespace Go.Proofs.Ytllkkgcfhphgmaa
open Go.RowKit
set_option linter.unusedVariables false

structure LeG where
  v4 : Value
  v9 : Value
/-- what the first appends' operations yield -/
def leV (b0 H g o k len cap : Nat) (v8 : Value) (γ : LeG) (i : Nat) : Value :=
  (#[.slice (some ⟨H, 0, none⟩) 0 0, .slice (some ⟨g, o, none⟩) len cap, .int .i64 (k : Int), .slice (some ⟨g, o, none⟩) k cap, γ.v4, .slice (some ⟨g, o, none⟩) len cap, .int .i64 (k : Int), .int .i64 ((k : Int) + 1), v8, γ.v9, .pointer (some ⟨b0, 6, none⟩), undef] : Array Value).getD i undef
theorem leV_4 {b0 H g o k len cap : Nat} {v8 : Value} {γ : LeG} {v : Value} {j : Nat} (h : j ≠ 4) : leV b0 H g o k len cap v8 γ j = leV b0 H g o k len cap v8 ⟨v, γ.v9⟩ j := by
  unfold leV
  match j, h with
  | 0, _ => rfl
  | 1, _ => rfl
  | 2, _ => rfl
  | 3, _ => rfl
  | 4, h => exact absurd rfl h
  | 5, _ => rfl
  | 6, _ => rfl
  | 7, _ => rfl
  | 8, _ => rfl
  | 9, _ => rfl
  | 10, _ => rfl
  | 11, _ => rfl
  | (n + 12), _ => rfl
theorem leV_9 {b0 H g o k len cap : Nat} {v8 : Value} {γ : LeG} {v : Value} {j : Nat} (h : j ≠ 9) : leV b0 H g o k len cap v8 γ j = leV b0 H g o k len cap v8 ⟨γ.v4, v⟩ j := by
  unfold leV
  match j, h with
  | 0, _ => rfl
  | 1, _ => rfl
  | 2, _ => rfl
  | 3, _ => rfl
  | 4, _ => rfl
  | 5, _ => rfl
  | 6, _ => rfl
  | 7, _ => rfl
  | 8, _ => rfl
  | 9, h => exact absurd rfl h
  | 10, _ => rfl
  | 11, _ => rfl
  | (n + 12), _ => rfl
/-- memory, by what has come up -/
structure LeW (W0 : World) (b0 k n : Nat) (A L : List Value) (γ : LeG) (x : Array Bool) (z : World) : Prop where
  f0 : x.getD 0 false = false → z = W0.drew
  f1 : x.getD 0 false = true → x.getD 4 false = false → z = W0.drew.alloc (.cells #[] 41)
  f4 : x.getD 4 false = true → x.getD 9 false = false → Below W0.heap.size W0 z ∧ z.ownsRow W0.heap.size 41 9 γ.v4 k A
  f9 : x.getD 9 false = true → x.getD 11 false = false → Below W0.heap.size W0 z ∧ z.ownsRow W0.heap.size 41 9 γ.v9 n L
  i4 : x.getD 4 false = true → x.getD 0 false = true
  i9 : x.getD 9 false = true → x.getD 4 false = true
  i11 : x.getD 11 false = true → x.getD 9 false = true
  fin : x.getD 11 false = true → ∃ y, Below W0.heap.size W0 y ∧ y.ownsRow W0.heap.size 41 9 γ.v9 n L ∧ z = y.setCell ⟨b0, 6, none⟩ γ.v9
theorem LeW.other {W0 : World} {b0 k n : Nat} {A L : List Value} {γ : LeG} {x : Array Bool} {z : World} (h : LeW W0 b0 k n A L γ x z) {i : Nat} (h0 : i ≠ 0) (h4 : i ≠ 4) (h9 : i ≠ 9) (h11 : i ≠ 11) : LeW W0 b0 k n A L γ (x.setIfInBounds i true) z := by
  obtain ⟨f0, f1, f4, f9, i4, i9, i11, fin⟩ := h
  have e0 : (x.setIfInBounds i true).getD 0 false = x.getD 0 false := getD_set_ne false h0
  have e4 : (x.setIfInBounds i true).getD 4 false = x.getD 4 false := getD_set_ne false h4
  have e9 : (x.setIfInBounds i true).getD 9 false = x.getD 9 false := getD_set_ne false h9
  have e11 : (x.setIfInBounds i true).getD 11 false = x.getD 11 false := getD_set_ne false h11
  exact ⟨by rw [e0]; exact f0, by rw [e0, e4]; exact f1, by rw [e4, e9]; exact f4, by rw [e9, e11]; exact f9, by rw [e4, e0]; exact i4, by rw [e9, e4]; exact i9, by rw [e11, e9]; exact i11, by rw [e11]; exact fin⟩
theorem getD_qL {x : Array Bool} {j : Nat} (h : x[j]?.getD false = true) : x.getD j false = true := by rw [Array.getD_eq_getD_getElem?]; exact h
theorem not_yetL {x : Array Bool} {i j : Nat} (h : x.getD i false = true → x.getD j false = true) (hj : x.getD j false = false) : x.getD i false = false := by
  cases e : x.getD i false
  · rfl
  · rw [h e] at hj; cases hj
structure L8G where
  h0 : Nat
  h4 : Nat
  v2 : Value
  v5 : Value
/-- what the second appends' operations yield -/
def l8V (b0 g o len cap : Nat) (f : Fd) (γ : L8G) (i : Nat) : Value :=
  (#[.slice (some ⟨γ.h0, 0, none⟩) 0 0, .slice (some ⟨g, o, none⟩) len cap, γ.v2, fdV f, .slice (some ⟨γ.h4, 0, none⟩) 1 1, γ.v5, .pointer (some ⟨b0, 6, none⟩), undef] : Array Value).getD i undef
theorem l8V_0 {b0 g o len cap : Nat} {f : Fd} {γ : L8G} {v : Nat} {j : Nat} (h : j ≠ 0) : l8V b0 g o len cap f γ j = l8V b0 g o len cap f ⟨v, γ.h4, γ.v2, γ.v5⟩ j := by
  unfold l8V
  match j, h with
  | 0, h => exact absurd rfl h
  | 1, _ => rfl
  | 2, _ => rfl
  | 3, _ => rfl
  | 4, _ => rfl
  | 5, _ => rfl
  | 6, _ => rfl
  | 7, _ => rfl
  | (n + 8), _ => rfl
theorem l8V_4 {b0 g o len cap : Nat} {f : Fd} {γ : L8G} {v : Nat} {j : Nat} (h : j ≠ 4) : l8V b0 g o len cap f γ j = l8V b0 g o len cap f ⟨γ.h0, v, γ.v2, γ.v5⟩ j := by
  unfold l8V
  match j, h with
  | 0, _ => rfl
  | 1, _ => rfl
  | 2, _ => rfl
  | 3, _ => rfl
  | 4, h => exact absurd rfl h
  | 5, _ => rfl
  | 6, _ => rfl
  | 7, _ => rfl
  | (n + 8), _ => rfl
theorem l8V_2 {b0 g o len cap : Nat} {f : Fd} {γ : L8G} {v : Value} {j : Nat} (h : j ≠ 2) : l8V b0 g o len cap f γ j = l8V b0 g o len cap f ⟨γ.h0, γ.h4, v, γ.v5⟩ j := by
  unfold l8V
  match j, h with
  | 0, _ => rfl
  | 1, _ => rfl
  | 2, h => exact absurd rfl h
  | 3, _ => rfl
  | 4, _ => rfl
  | 5, _ => rfl
  | 6, _ => rfl
  | 7, _ => rfl
  | (n + 8), _ => rfl
theorem l8V_5 {b0 g o len cap : Nat} {f : Fd} {γ : L8G} {v : Value} {j : Nat} (h : j ≠ 5) : l8V b0 g o len cap f γ j = l8V b0 g o len cap f ⟨γ.h0, γ.h4, γ.v2, v⟩ j := by
  unfold l8V
  match j, h with
  | 0, _ => rfl
  | 1, _ => rfl
  | 2, _ => rfl
  | 3, _ => rfl
  | 4, _ => rfl
  | 5, h => exact absurd rfl h
  | 6, _ => rfl
  | 7, _ => rfl
  | (n + 8), _ => rfl
/-- memory, by what has come up -/
structure L8W (W0 : World) (b0 Fb n : Nat) (L : List Value) (f : Fd) (γ : L8G) (x : Array Bool) (z : World) : Prop where
  fd : FdB z Fb f
  low : x.getD 7 false = false → Below W0.heap.size W0 z
  r0 : x.getD 0 false = true → x.getD 2 false = false → z.ownsRow W0.heap.size 41 9 (.slice (some ⟨γ.h0, 0, none⟩) 0 0) 0 []
  r2 : x.getD 2 false = true → x.getD 5 false = false → z.ownsRow W0.heap.size 41 9 γ.v2 n L
  b4 : x.getD 4 false = true → x.getD 5 false = false → z.heap[γ.h4]? = some (.cells #[.string (txt f.nm), .int .i64 f.pl, .string (txt f.kd), .int .i64 f.wd, .int .i64 f.sn, .int .i64 f.sd, .int .i64 f.on, .int .i64 f.od, .string (txt f.un)] 41 (0, 0)) ∧ (x.getD 0 false = true → x.getD 2 false = false → γ.h4 ≠ γ.h0) ∧ (x.getD 2 false = true → some γ.h4 ≠ γ.v2.ownBlock)
  r5 : x.getD 5 false = true → x.getD 7 false = false → z.ownsRow W0.heap.size 41 9 γ.v5 (n + 1) (L ++ fdC f)
  i2 : x.getD 2 false = true → x.getD 0 false = true
  i5 : x.getD 5 false = true → x.getD 2 false = true
  i54 : x.getD 5 false = true → x.getD 4 false = true
  i7 : x.getD 7 false = true → x.getD 5 false = true
  fin : x.getD 7 false = true → ∃ y, Below W0.heap.size W0 y ∧ y.ownsRow W0.heap.size 41 9 γ.v5 (n + 1) (L ++ fdC f) ∧ z = y.setCell ⟨b0, 6, none⟩ γ.v5
theorem L8W.first {W0 : World} {b0 Fb n : Nat} {L : List Value} {f : Fd} {γ : L8G} (h : FdB W0 Fb f) : L8W W0 b0 Fb n L f γ (Array.replicate 8 false) { W0 with drawn := W0.drawn + 1 } :=
  ⟨h.below (Below.refl _ _).drew, fun _ => (Below.refl _ _).drew, fun h => (by simp at h), fun h => (by simp at h), fun h => (by simp at h), fun h => (by simp at h), fun h => (by simp at h), fun h => (by simp at h), fun h => (by simp at h), fun h => (by simp at h), fun h => (by simp at h)⟩
theorem L8W.other {W0 : World} {b0 Fb n : Nat} {L : List Value} {f : Fd} {γ : L8G} {x : Array Bool} {z : World} (h : L8W W0 b0 Fb n L f γ x z) {i : Nat} (h0 : i ≠ 0) (h2 : i ≠ 2) (h4 : i ≠ 4) (h5 : i ≠ 5) (h7 : i ≠ 7) : L8W W0 b0 Fb n L f γ (x.setIfInBounds i true) z := by
  obtain ⟨fd, low, r0, r2, b4, r5, i2, i5, i54, i7, fin⟩ := h
  have e0 : (x.setIfInBounds i true).getD 0 false = x.getD 0 false := getD_set_ne false h0
  have e2 : (x.setIfInBounds i true).getD 2 false = x.getD 2 false := getD_set_ne false h2
  have e4 : (x.setIfInBounds i true).getD 4 false = x.getD 4 false := getD_set_ne false h4
  have e5 : (x.setIfInBounds i true).getD 5 false = x.getD 5 false := getD_set_ne false h5
  have e7 : (x.setIfInBounds i true).getD 7 false = x.getD 7 false := getD_set_ne false h7
  exact ⟨fd, by rw [e7]; exact low, by rw [e0, e2]; exact r0, by rw [e2, e5]; exact r2, by rw [e4, e5, e0, e2]; exact b4, by rw [e5, e7]; exact r5, by rw [e2, e0]; exact i2, by rw [e5, e2]; exact i5, by rw [e5, e4]; exact i54, by rw [e7, e5]; exact i7, by rw [e7]; exact fin⟩
section
variable {W0 : World} {b0 Fb n : Nat} {L : List Value} {f : Fd} {γ : L8G} {x : Array Bool} {z : World} (h : L8W W0 b0 Fb n L f γ x z)
include h
theorem L8W.step0 (hb : Below z.heap.size z (z.alloc (.cells #[] 41))) (x2 : x.getD 2 false = false) (x5 : x.getD 5 false = false) (x7 : x.getD 7 false = false)
    (hO : (z.alloc (.cells #[] 41)).ownsRow W0.heap.size 41 9 (.slice (some ⟨z.heap.size, 0, none⟩) 0 0) 0 []) (hs : 0 < x.size) : L8W W0 b0 Fb n L f ⟨z.heap.size, γ.h4, γ.v2, γ.v5⟩ (x.setIfInBounds 0 true) (z.alloc (.cells #[] 41)) := by
  have s0 : (x.setIfInBounds 0 true).getD 0 false = true := getD_set_at hs
  have s2 : (x.setIfInBounds 0 true).getD 2 false = false := (getD_set_ne false (by decide)).trans x2
  have s5 : (x.setIfInBounds 0 true).getD 5 false = false := (getD_set_ne false (by decide)).trans x5
  have s7 : (x.setIfInBounds 0 true).getD 7 false = false := (getD_set_ne false (by decide)).trans x7
  have e4 : (x.setIfInBounds 0 true).getD 4 false = x.getD 4 false := getD_set_ne false (by decide)
  have lw := h.low x7
  refine ⟨h.fd.below hb, fun _ => lw.trans (hb.mono lw.size), fun _ _ => hO, fun c => ?_, fun c _ => ?_, fun c => ?_, fun c => ?_, fun c => ?_, fun c => ?_, fun c => ?_, fun c => ?_⟩
  · rw [s2] at c; cases c
  · rw [e4] at c
    have b := h.b4 c x5
    have hlt := (Array.getElem?_eq_some_iff.1 b.1).1
    exact ⟨(hb.block _ hlt).trans b.1, fun _ _ => by show γ.h4 ≠ z.heap.size; omega, fun k => (by rw [s2] at k; cases k)⟩
  · rw [s5] at c; cases c
  · rw [s2] at c; cases c
  · rw [s5] at c; cases c
  · rw [s5] at c; cases c
  · rw [s7] at c; cases c
  · rw [s7] at c; cases c
theorem L8W.step2 {v : Value} {y : World} (x0 : x.getD 0 false = true) (x2 : x.getD 2 false = false) (x5 : x.getD 5 false = false) (x7 : x.getD 7 false = false)
    (hO : y.ownsRow W0.heap.size 41 9 v n L) (hg : z.grownBy y (Value.slice (some ⟨γ.h0, 0, none⟩) 0 0).ownBlock) (hat : v.ownBlock = (Value.slice (some ⟨γ.h0, 0, none⟩) 0 0).ownBlock ∨ v.ownBlock = some z.heap.size) (hF : FdB y Fb f) (hs : 2 < x.size) : L8W W0 b0 Fb n L f ⟨γ.h0, γ.h4, v, γ.v5⟩ (x.setIfInBounds 2 true) y := by
  have s0 : (x.setIfInBounds 2 true).getD 0 false = true := getD_set_true x0
  have s2 : (x.setIfInBounds 2 true).getD 2 false = true := getD_set_at hs
  have s5 : (x.setIfInBounds 2 true).getD 5 false = false := (getD_set_ne false (by decide)).trans x5
  have s7 : (x.setIfInBounds 2 true).getD 7 false = false := (getD_set_ne false (by decide)).trans x7
  have e4 : (x.setIfInBounds 2 true).getD 4 false = x.getD 4 false := getD_set_ne false (by decide)
  have lw := h.low x7
  have hO0 := h.r0 x0 x2
  have lw' : Below W0.heap.size W0 y := below_own (Nat.le_refl _) lw hO0 hg
  refine ⟨hF, fun _ => lw', fun _ c => ?_, fun _ _ => hO, fun c _ => ?_, fun c => ?_, fun _ => s0, fun c => ?_, fun c => ?_, fun c => ?_, fun c => ?_⟩
  · rw [s2] at c; cases c
  · rw [e4] at c
    have b := h.b4 c x5
    have hlt := (Array.getElem?_eq_some_iff.1 b.1).1
    have hne := b.2.1 x0 x2
    have hne2 : some γ.h4 ≠ (Value.slice (some ⟨γ.h0, 0, none⟩) 0 0).ownBlock := fun e => hne (by simpa [Value.ownBlock] using e)
    refine ⟨(hg.block _ hlt hne2).trans b.1, fun _ _ => hne, fun _ => ?_⟩
    rcases hat with e | e
    · show some γ.h4 ≠ v.ownBlock; rw [e]; exact hne2
    · show some γ.h4 ≠ v.ownBlock; rw [e]; intro c; injection c with c; omega
  · rw [s5] at c; cases c
  · rw [s5] at c; cases c
  · rw [s5] at c; cases c
  · rw [s7] at c; cases c
  · rw [s7] at c; cases c
theorem L8W.step4 (x4 : x.getD 4 false = false) (x5 : x.getD 5 false = false) (x7 : x.getD 7 false = false) (hs : 4 < x.size) : L8W W0 b0 Fb n L f ⟨γ.h0, z.heap.size, γ.v2, γ.v5⟩ (x.setIfInBounds 4 true) (z.alloc (.cells #[.string (txt f.nm), .int .i64 f.pl, .string (txt f.kd), .int .i64 f.wd, .int .i64 f.sn, .int .i64 f.sd, .int .i64 f.on, .int .i64 f.od, .string (txt f.un)] 41)) := by
  have s4 : (x.setIfInBounds 4 true).getD 4 false = true := getD_set_at hs
  have s5 : (x.setIfInBounds 4 true).getD 5 false = false := (getD_set_ne false (by decide)).trans x5
  have s7 : (x.setIfInBounds 4 true).getD 7 false = false := (getD_set_ne false (by decide)).trans x7
  have e0 : (x.setIfInBounds 4 true).getD 0 false = x.getD 0 false := getD_set_ne false (by decide)
  have e2 : (x.setIfInBounds 4 true).getD 2 false = x.getD 2 false := getD_set_ne false (by decide)
  have hb : Below z.heap.size z (z.alloc (.cells #[.string (txt f.nm), .int .i64 f.pl, .string (txt f.kd), .int .i64 f.wd, .int .i64 f.sn, .int .i64 f.sd, .int .i64 f.on, .int .i64 f.od, .string (txt f.un)] 41)) := (Below.refl _ _).alloc (Nat.le_refl _) _
  have lw := h.low x7
  refine ⟨h.fd.below hb, fun _ => lw.trans (hb.mono lw.size), fun c k => ?_, fun c k => ?_, fun _ _ => ⟨World.alloc_heap_new z _, fun c k => ?_, fun c => ?_⟩, fun c => ?_, fun c => ?_, fun c => ?_, fun c => ?_, fun c => ?_, fun c => ?_⟩
  · rw [e0] at c; rw [e2] at k; exact ownsRow_below hb (h.r0 c k)
  · rw [e2] at c; exact ownsRow_below hb (h.r2 c x5)
  · rw [e0] at c
    show z.heap.size ≠ γ.h0
    rw [e2] at k
    have := (World.ownsRow.lt (h.r0 c k) γ.h0 rfl).2
    omega
  · rw [e2] at c
    show some z.heap.size ≠ γ.v2.ownBlock
    intro e
    have := (World.ownsRow.lt (h.r2 c x5) z.heap.size e.symm).2
    omega
  · rw [s5] at c; cases c
  · rw [e2] at c; rw [e0]; exact h.i2 c
  · rw [s5] at c; cases c
  · rw [s5] at c; cases c
  · rw [s7] at c; cases c
  · rw [s7] at c; cases c
theorem L8W.step5 {v : Value} {y : World} (x2 : x.getD 2 false = true) (x4 : x.getD 4 false = true) (x5 : x.getD 5 false = false) (x7 : x.getD 7 false = false)
    (hO : y.ownsRow W0.heap.size 41 9 v (n + 1) (L ++ fdC f)) (hg : z.grownBy y γ.v2.ownBlock) (hF : FdB y Fb f) (hs : 5 < x.size) : L8W W0 b0 Fb n L f ⟨γ.h0, γ.h4, γ.v2, v⟩ (x.setIfInBounds 5 true) y := by
  have s5 : (x.setIfInBounds 5 true).getD 5 false = true := getD_set_at hs
  have s2 : (x.setIfInBounds 5 true).getD 2 false = true := getD_set_true x2
  have s4 : (x.setIfInBounds 5 true).getD 4 false = true := getD_set_true x4
  have s0 : (x.setIfInBounds 5 true).getD 0 false = true := getD_set_true (h.i2 x2)
  have s7 : (x.setIfInBounds 5 true).getD 7 false = false := (getD_set_ne false (by decide)).trans x7
  have lw' : Below W0.heap.size W0 y := below_own (Nat.le_refl _) (h.low x7) (h.r2 x2 x5) hg
  refine ⟨hF, fun _ => lw', fun _ c => ?_, fun _ c => ?_, fun _ c => ?_, fun _ _ => hO, fun _ => s0, fun _ => s2, fun _ => s4, fun c => ?_, fun c => ?_⟩
  · rw [s2] at c; cases c
  · rw [s5] at c; cases c
  · rw [s5] at c; cases c
  · rw [s7] at c; cases c
  · rw [s7] at c; cases c
theorem L8W.step7 (x5 : x.getD 5 false = true) (x7 : x.getD 7 false = false) (hne : Fb ≠ b0) (hs : 7 < x.size) : L8W W0 b0 Fb n L f γ (x.setIfInBounds 7 true) (z.setCell ⟨b0, 6, none⟩ γ.v5) := by
  have s7 : (x.setIfInBounds 7 true).getD 7 false = true := getD_set_at hs
  have s5 : (x.setIfInBounds 7 true).getD 5 false = true := getD_set_true x5
  have s2 : (x.setIfInBounds 7 true).getD 2 false = true := getD_set_true (h.i5 x5)
  have s4 : (x.setIfInBounds 7 true).getD 4 false = true := getD_set_true (h.i54 x5)
  have s0 : (x.setIfInBounds 7 true).getD 0 false = true := getD_set_true (h.i2 (h.i5 x5))
  refine ⟨⟨fun i u hu => ?_, by rw [World.size_setCell]; exact h.fd.lt⟩, fun c => ?_, fun _ c => ?_, fun _ c => ?_, fun _ c => ?_, fun _ c => ?_, fun _ => s0, fun _ => s2, fun _ => s4, fun _ => s5, fun _ => ⟨z, h.low x7, h.r5 x5 x7, rfl⟩⟩
  · rw [World.cell?_setCell_other _ _ _ _ (by intro e; have := congrArg Addr.block e; simp only at this; omega)]
    exact h.fd.c i u hu
  · rw [s7] at c; cases c
  · rw [s2] at c; cases c
  · rw [s5] at c; cases c
  · rw [s5] at c; cases c
  · rw [s7] at c; cases c
end
set_option maxRecDepth 100000 in
set_option maxHeartbeats 8000000 in
theorem sless_any (w : World) (d : Dv) (fv : Value) (pq : Option Addr) (cq : Nat) (a1 : Nat) (ha : a1 < 256) (hd : DvH w (dvV d fv (.slice pq d.rq.length cq)) d fv pq cq) :
    Calls Try.prog 5 #[dvV d fv (.slice pq d.rq.length cq), .int .u8 (a1 : Int)] w fun e w' => e = .returned (.bool true) ∧ Below w.heap.size w w' := by
  obtain ⟨r0, hri, hr0, hr1, hr2⟩ := info_parts info_rf
  have hai : (0 : Int) ≤ (a1 : Int) ∧ (a1 : Int) < 256 := by omega
  have aw : Hid AwC9 := awC9
  have fw : Hid (FwC w d fv pq cq (fewD d)) := fwC hd.fl
  have D0 : Hid (DvO (w.alloc (.cells #[.string (txt d.nm), .int .i64 d.st, .int .i64 d.es, .int .i64 d.mx, .int .i64 d.sz, .string (txt d.sm), fv, .slice pq d.rq.length cq, .int .i64 d.po, .int .i64 d.ti, .int .i64 d.re, .int .i64 d.ag] 25)) w.heap.size d fv (.slice pq d.rq.length cq)) := DvO.new hd.fl
  have B0 : Hid (Below w.heap.size w (w.alloc (.cells #[.string (txt d.nm), .int .i64 d.st, .int .i64 d.es, .int .i64 d.mx, .int .i64 d.sz, .string (txt d.sm), fv, .slice pq d.rq.length cq, .int .i64 d.po, .int .i64 d.ti, .int .i64 d.re, .int .i64 d.ag] 25))) := (Below.refl _ _).alloc (Nat.le_refl _) _
  have dvi : Hid (fewD d = true → DvI d) := fun h => dvi_of h hd.fn hd.sz
  have hfl : Hid (FldsV w fv d.fs) := hd.fl
  have fewl : Hid (fewD d = true → (d.fs.length : Int) ≤ 20) := fun h => (few_bdS h).2.2.2.1
  obtain ⟨pf, cf, rfl⟩ := hd.fl.form
  clear hd
  obtain ⟨len, hlen⟩ : ∃ len, d.fs.length = len := ⟨_, rfl⟩
  rw [hlen] at fw D0 B0 hfl fewl ⊢
  replace hlen : Hid (d.fs.length = len) := hlen
  obtain ⟨hai1, hai2⟩ := hai
  go_enter Try.func5, Try.ntmps5
  go_wp2_with fail
  refine (aw.out _).mono ?_
  rintro e y1 ⟨rfl, hb⟩
  have D1 : Hid (DvO y1 w.heap.size d (.slice pf len cf) (.slice pq d.rq.length cq)) := D0.out.below hb
  have B1 : Hid (Below w.heap.size w y1) := B0.out.trans (hb.mono B0.out.size)
  clear hb D0 B0
  obtain ⟨z0, z1, z2, z3, z4, z5, z6, z7, z8, z9, z10, z11⟩ := D1.out.cells
  have fk : Hid (Calls Try.prog 7 #[.agg #[.string (txt d.nm), .int .i64 d.st, .int .i64 d.es, .int .i64 d.mx, .int .i64 d.sz, .string (txt d.sm), (.slice pf len cf), .slice pq d.rq.length cq, .int .i64 d.po, .int .i64 d.ti, .int .i64 d.re, .int .i64 d.ag]] y1 (QA y1 (oneI (fewD d)))) := fw.out y1 B1.out
  clear fw
  obtain ⟨T, hT⟩ : ∃ T, fewD d = T := ⟨_, rfl⟩
  rw [hT] at fk dvi fewl
  clear hT
  go_wp2_with fail
  refine fk.out.mono ?_
  rintro e y2 ⟨rfl, hb⟩
  have D2 : Hid (DvO y2 w.heap.size d (.slice pf len cf) (.slice pq d.rq.length cq)) := D1.out.below hb
  have B2 : Hid (Below w.heap.size w y2) := B1.out.trans (hb.mono B1.out.size)
  clear hb D1 B1 fk z0 z1 z2 z3 z4 z5 z6 z7 z8 z9 z10 z11
  cases T
  · have e0 : oneI false = 0 := rfl
    rw [e0]
    clear D2 dvi fewl
    go_wp2_with fail
    refine (aw.out _).mono ?_
    rintro e y3 ⟨rfl, hb⟩
    have B3 : Hid (Below w.heap.size w y3) := B2.out.trans (hb.mono B2.out.size)
    clear hb B2 aw
    go_wp2
    go_ret
    exact ⟨rfl, B3.out⟩
  have e0 : oneI true = 1 := rfl
  rw [e0]
  clear e0
  have hi : Hid (DvI d) := dvi.out rfl
  have hl20 := fewl.out rfl
  clear dvi fewl
  obtain ⟨z0, z1, z2, z3, z4, z5, z6, z7, z8, z9, z10, z11⟩ := D2.out.cells
  by_cases h0 : len = 0
  · have n0 : ((len : Int) == 0) = true := by rw [h0]; rfl
    clear D2 hi
    go_wp2_with fail
    refine (aw.out _).mono ?_
    rintro e y3 ⟨rfl, hb⟩
    have B3 : Hid (Below w.heap.size w y3) := B2.out.trans (hb.mono B2.out.size)
    clear hb B2 aw z0 z1 z2 z3 z4 z5 z6 z7 z8 z9 z10 z11
    go_wp2
    go_ret
    exact ⟨rfl, B3.out⟩
  have n0 : ((len : Int) == 0) = false := beq_eq_false_iff_ne.2 (by omega)
  have hln : Hid (DvI d ∧ d.fs.length = len) := ⟨hi.out, hlen.out⟩
  have lo : Hid (Calls Try.prog 10 #[.agg #[.string (txt d.nm), .int .i64 d.st, .int .i64 d.es, .int .i64 d.mx, .int .i64 d.sz, .string (txt d.sm), (.slice pf len cf), .slice pq d.rq.length cq, .int .i64 d.po, .int .i64 d.ti, .int .i64 d.re, .int .i64 d.ag]] y2 fun e w' => ∃ ov, e = .returned (dvV d ov (.slice pq d.rq.length cq)) ∧ FldsV w' ov d.fs ∧ Below y2.heap.size y2 w') := lof_any d _ pq _ cq y2 D2.out.fl hi.out.ln
  go_wp2_with fail
  refine lo.out.mono ?_
  rintro e y3 ⟨ov, rfl, hov, hb⟩
  have D3 : Hid (DvO y3 w.heap.size d (.slice pf len cf) (.slice pq d.rq.length cq)) := D2.out.below hb
  have B3 : Hid (Below w.heap.size w y3) := B2.out.trans (hb.mono B2.out.size)
  have ck : Hid (Calls Try.prog 9 #[dvV d ov (.slice pq d.rq.length cq)] y3 (QA y3 (ckE d))) := check_any d ov _ y3 hi.out ⟨pq, cq, rfl⟩ hov
  clear hb lo D2 B2 hov z0 z1 z2 z3 z4 z5 z6 z7 z8 z9 z10 z11
  obtain ⟨E, hE⟩ : ∃ E, ckE d = E := ⟨_, rfl⟩
  rw [hE] at ck
  replace hE : Hid (ckE d = E) := hE
  go_wp2_with fail
  refine ck.out.mono ?_
  rintro e y4 ⟨rfl, hb⟩
  have D4 : Hid (DvO y4 w.heap.size d (.slice pf len cf) (.slice pq d.rq.length cq)) := D3.out.below hb
  have B4 : Hid (Below w.heap.size w y4) := B3.out.trans (hb.mono B3.out.size)
  clear hb ck D3 B3
  by_cases hE0 : E = 0
  rotate_left
  · have ne : (E != 0) = true := by simpa using hE0
    clear D4 hi hE
    go_wp2_with fail
    refine (aw.out _).mono ?_
    rintro e y5 ⟨rfl, hb⟩
    have B5 : Hid (Below w.heap.size w y5) := B4.out.trans (hb.mono B4.out.size)
    clear hb B4 aw
    go_wp2
    go_ret
    exact ⟨rfl, B5.out⟩
  subst hE0
  obtain ⟨k, hk⟩ : ∃ k : Nat, (a1 : Int) % (len : Int) = (k : Int) := ⟨((a1 : Int) % (len : Int)).toNat, by
    have := Int.emod_nonneg (a1 : Int) (show (len : Int) ≠ 0 by omega)
    omega⟩
  have hkl : (k : Int) < (len : Int) := by
    have := Int.emod_lt_of_pos (a1 : Int) (show (0 : Int) < (len : Int) by omega)
    omega
  have hkl' : k < d.fs.length := by have := hlen.out; omega
  have hl0 : (0 : Int) < (len : Int) := by omega
  rcases D4.out.fl with ⟨_, _, _, e⟩ | ⟨g, o, cap, e, hcap, hin, hg⟩
  · rw [e] at hkl'; cases hkl'
  injection e with e1 e2 e3
  subst e1
  subst e3
  obtain ⟨f, hf⟩ : ∃ f, d.fs[k] = f := ⟨_, rfl⟩
  obtain ⟨c0, c1, c2, c3, c4, c5, c6, c7, c8⟩ := hin.cells hkl' hf
  have z6 := D4.out.cells.2.2.2.2.2.2.1
  have hbF : Hid (w.heap.size < y4.heap.size) := D4.out.lt
  have hb1 : Below y4.heap.size y4 (y4.alloc (.cells #[.string (txt f.nm), .int .i64 f.pl, .string (txt f.kd), .int .i64 f.wd, .int .i64 f.sn, .int .i64 f.sd, .int .i64 f.on, .int .i64 f.od, .string (txt f.un)] 41)) := (Below.refl _ _).alloc (Nat.le_refl _) _
  have D5 : Hid (DvO (y4.alloc (.cells #[.string (txt f.nm), .int .i64 f.pl, .string (txt f.kd), .int .i64 f.wd, .int .i64 f.sn, .int .i64 f.sd, .int .i64 f.on, .int .i64 f.od, .string (txt f.un)] 41)) w.heap.size d (.slice (some ⟨g, o, none⟩) len cf) (.slice pq d.rq.length cq)) := D4.out.below hb1
  have F5 : Hid (FdB (y4.alloc (.cells #[.string (txt f.nm), .int .i64 f.pl, .string (txt f.kd), .int .i64 f.wd, .int .i64 f.sn, .int .i64 f.sd, .int .i64 f.on, .int .i64 f.od, .string (txt f.un)] 41)) y4.heap.size f) := FdB.new y4 f _
  have B5 : Hid (Below w.heap.size w (y4.alloc (.cells #[.string (txt f.nm), .int .i64 f.pl, .string (txt f.kd), .int .i64 f.wd, .int .i64 f.sn, .int .i64 f.sd, .int .i64 f.on, .int .i64 f.od, .string (txt f.un)] 41))) := B4.out.trans (hb1.mono B4.out.size)
  have z6' : (y4.alloc (.cells #[.string (txt f.nm), .int .i64 f.pl, .string (txt f.kd), .int .i64 f.wd, .int .i64 f.sn, .int .i64 f.sd, .int .i64 f.on, .int .i64 f.od, .string (txt f.un)] 41)).cell? ⟨w.heap.size, 6, none⟩ = some (.slice (some ⟨g, o, none⟩) len cf) := D5.out.cells.2.2.2.2.2.2.1
  have hfo : Hid (∃ h : k < d.fs.length, d.fs[k] = f) := ⟨hkl', hf⟩
  have hcf : Hid (len ≤ cf) := by unfold Hid; rw [← hlen.out]; exact hcap
  clear hb1 D4 B4 hin hg e2 hkl' hf n0 h0 hcap
  go_upto_region 6 with fail
  generalize hX : y4.alloc (.cells #[.string (txt f.nm), .int .i64 f.pl, .string (txt f.kd), .int .i64 f.wd, .int .i64 f.sn, .int .i64 f.sd, .int .i64 f.on, .int .i64 f.od, .string (txt f.un)] 41) = Y at *
  have sY : Hid (Y.heap.size = y4.heap.size + 1) := by unfold Hid; rw [← hX, World.size_alloc]
  clear hX c0 c1 c2 c3 c4 c5 c6 c7 c8 z6 z6'
  generalize y4.heap.size = Fb at *
  obtain ⟨g1, o1, cap1, e, hcap1, hin, hgY⟩ := D5.out.fl.resolve_left (fun ⟨_, _, _, e⟩ => by obtain ⟨h, _⟩ := hfo.out; rw [e] at h; cases h)
  injection e with e1 e2 e3
  injection e1 with e1
  injection e1 with e1 e4 e5
  subst e1
  subst e4
  subst e3
  clear e2
  obtain ⟨m, hm⟩ : ∃ m, len = k + 1 + m := ⟨len - (k + 1), by omega⟩
  have hkp : (0 : Int) ≤ (k : Int) + 1 := by omega
  have hk1I : (k : Int) + 1 ≤ (len : Int) := by omega
  have hk1 : k + 1 ≤ len := by omega
  replace hm : Hid (len = k + 1 + m) := hm
  have hc1 := hcf.out
  have hcI : (len : Int) ≤ (cf : Int) := by omega
  have hk20 : (k : Int) ≤ 20 := by omega
  have hkc : k ≤ cf := by omega
  have w7 : IntKind.i64.wrap ((k : Int) + 1) = (k : Int) + 1 := by simp only [IntKind.wrap_i64]; omega
  by_cases hcc : k + 1 < cf
  · have hccI : (k : Int) + 1 < (cf : Int) := by omega
    have hne : ¬ cf = k + 1 := by omega
    refine region_props3 (fun γ x i v z => v = leV w.heap.size Y.heap.size g o k len cf (.slice (some ⟨g, o + (k + 1) * 9, none⟩) m (cf - (k + 1))) γ i) (LeW Y w.heap.size k (k + m) (fdCs (d.fs.take k)) (fdCs (d.fs.take k) ++ fdCs (d.fs.drop (k + 1)))) ⟨undef, undef⟩ (by kernel_rfl) (by kernel_rfl) ?_ ?_ ?_
    · intro γ x a z i op ho hI haf hx hxi hW
      have hi : i < 12 := (List.getElem?_eq_some_iff.1 ho).1
      match i, hi with
      | 0, _ =>
        obtain rfl := Option.some.inj (show some _ = some op from ho)
        have x0 := getD_false hxi
        have x4 := not_yetL hW.i4 x0
        have x9 := not_yetL hW.i9 x4
        have x11 := not_yetL hW.i11 x9
        have hz : Hid (z = Y.drew) := hW.f0 x0
        have hzs : Hid (z.heap.size = Y.heap.size) := by unfold Hid; rw [hz.out]; rfl
        have s0 : (x.setIfInBounds 0 true).getD 0 false = true := getD_set_at (by rw [hx]; decide)
        have s4 : (x.setIfInBounds 0 true).getD 4 false = false := (getD_set_ne false (by decide)).trans x4
        have s9 : (x.setIfInBounds 0 true).getD 9 false = false := (getD_set_ne false (by decide)).trans x9
        have s11 : (x.setIfInBounds 0 true).getD 11 false = false := (getD_set_ne false (by decide)).trans x11
        go_simp
        refine ⟨_, rfl, γ, by rw [hzs.out]; rfl, fun j _ => rfl, fun h => ?_, fun _ _ => by rw [hz.out], fun h => ?_, fun h => ?_, fun h => ?_, fun h => ?_, fun h => ?_, fun h => ?_⟩
        · rw [s0] at h; cases h
        · rw [s4] at h; cases h
        · rw [s9] at h; cases h
        · rw [s4] at h; cases h
        · rw [s9] at h; cases h
        · rw [s11] at h; cases h
        · rw [s11] at h; cases h
      | 1, _ =>
        obtain rfl := Option.some.inj (show some _ = some op from ho)
        have e1 : a.tmps.getD 7 undef = .slice (some ⟨g, o, none⟩) len cf := (hI.was (by kernel_rfl)).trans rfl
        go_simp
        exact ⟨_, rfl, γ, rfl, fun j _ => rfl, hW.other (by decide) (by decide) (by decide) (by decide)⟩
      | 2, _ =>
        obtain rfl := Option.some.inj (show some _ = some op from ho)
        have e1 : a.tmps.getD 5 undef = .int .i64 (k : Int) := (hI.was (by kernel_rfl)).trans (congrArg (Value.int .i64) hk)
        go_simp
        exact ⟨_, rfl, γ, rfl, fun j _ => rfl, hW.other (by decide) (by decide) (by decide) (by decide)⟩
      | 3, _ =>
        obtain rfl := Option.some.inj (show some _ = some op from ho)
        have e1 : a.tmps.getD 44 undef = .slice (some ⟨g, o, none⟩) len cf := (hI.val 1 _ 44 rfl rfl (dep_at haf (by kernel_rfl))).trans rfl
        have e2 : a.tmps.getD 45 undef = .int .i64 (k : Int) := (hI.val 2 _ 45 rfl rfl (dep_at haf (by kernel_rfl))).trans rfl
        go_simp
        exact ⟨_, rfl, γ, rfl, fun j _ => rfl, hW.other (by decide) (by decide) (by decide) (by decide)⟩
      | 4, _ =>
        obtain rfl := Option.some.inj (show some _ = some op from ho)
        have e1 : a.tmps.getD 43 undef = .slice (some ⟨Y.heap.size, 0, none⟩) 0 0 := (hI.val 0 _ 43 rfl rfl (dep_at haf (by kernel_rfl))).trans rfl
        have e2 : a.tmps.getD 46 undef = .slice (some ⟨g, o, none⟩) k cf := (hI.val 3 _ 46 rfl rfl (dep_at haf (by kernel_rfl))).trans rfl
        have x4 := getD_false hxi
        have x0 : x.getD 0 false = true := dep_at haf (by kernel_rfl)
        have x9 := not_yetL hW.i9 x4
        have x11 := not_yetL hW.i11 x9
        have hz := hW.f1 x0 x4
        have hb : Below Y.heap.size Y z := by rw [hz]; exact ((Below.refl _ _).drew).alloc (Nat.le_refl _) _
        have hO : z.ownsRow Y.heap.size 41 9 (.slice (some ⟨Y.heap.size, 0, none⟩) 0 0) 0 [] := by
          rw [hz]
          exact World.ownsRow_made Y.drew #[] 0 (Nat.le_refl _) (Nat.zero_le _) rfl
        have hzs : Y.heap.size ≤ z.heap.size := hb.size
        refine wp_append_at (w := z) (.tmp 43) (.tmp 46) 22 rfl Y.heap.size 41 r0 (.agg #[.string ⟨#[]⟩, .int .i64 0, .string ⟨#[]⟩, .int .i64 0, .int .i64 0, .int .i64 0, .int .i64 0, .int .i64 0, .string ⟨#[]⟩]) 9 96 Try.underlying22 hri hr0 hr1 hr2 rfl (by omega) _ 0 [] e1 hO ⟨g, o, none⟩ k cf (fdCs (d.fs.take k)) e2 (by rw [fdCs_len, List.length_take]; have := hlen.out; omega) (fun j u hu => (news_first (fun j hj i u hu => (hb.cell (p := ⟨g, o + 9 * j + i, none⟩) hgY).trans (hin j hj i u hu)) k j u hu)) (one_cell _) (by unfold maxLen; omega) (by omega) hzs ?_
        intro v' w' hO' hg' hat
        rw [Nat.zero_add, List.nil_append] at hO'
        have hb' : Below Y.heap.size Y w' := below_own (Nat.le_refl _) hb hO hg'
        have s4 : (x.setIfInBounds 4 true).getD 4 false = true := getD_set_at (by rw [hx]; decide)
        have s0 : (x.setIfInBounds 4 true).getD 0 false = true := getD_set_true x0
        have s9 : (x.setIfInBounds 4 true).getD 9 false = false := (getD_set_ne false (by decide)).trans x9
        have s11 : (x.setIfInBounds 4 true).getD 11 false = false := (getD_set_ne false (by decide)).trans x11
        refine ⟨_, ⟨v', γ.v9⟩, rfl, fun d _ => rfl, fun j v hj h => Eq.trans h (leV_4 ?_), fun h => ?_, fun _ h => ?_, fun _ _ => ⟨hb', hO'⟩, fun h => ?_, fun _ => s0, fun h => ?_, fun h => ?_, fun h => ?_⟩
        · rintro rfl; rw [x4] at hj; cases hj
        · rw [s0] at h; cases h
        · rw [s4] at h; cases h
        · rw [s9] at h; cases h
        · rw [s9] at h; cases h
        · rw [s11] at h; cases h
        · rw [s11] at h; cases h
      | 5, _ =>
        obtain rfl := Option.some.inj (show some _ = some op from ho)
        have e1 : a.tmps.getD 7 undef = .slice (some ⟨g, o, none⟩) len cf := (hI.was (by kernel_rfl)).trans rfl
        go_simp
        exact ⟨_, rfl, γ, rfl, fun j _ => rfl, hW.other (by decide) (by decide) (by decide) (by decide)⟩
      | 6, _ =>
        obtain rfl := Option.some.inj (show some _ = some op from ho)
        have e1 : a.tmps.getD 5 undef = .int .i64 (k : Int) := (hI.was (by kernel_rfl)).trans (congrArg (Value.int .i64) hk)
        go_simp
        exact ⟨_, rfl, γ, rfl, fun j _ => rfl, hW.other (by decide) (by decide) (by decide) (by decide)⟩
      | 7, _ =>
        obtain rfl := Option.some.inj (show some _ = some op from ho)
        have e1 : a.tmps.getD 49 undef = .int .i64 (k : Int) := (hI.val 6 _ 49 rfl rfl (dep_at haf (by kernel_rfl))).trans rfl
        go_simp
        exact ⟨_, rfl, γ, rfl, fun j _ => rfl, hW.other (by decide) (by decide) (by decide) (by decide)⟩
      | 8, _ =>
        obtain rfl := Option.some.inj (show some _ = some op from ho)
        have e1 : a.tmps.getD 48 undef = .slice (some ⟨g, o, none⟩) len cf := (hI.val 5 _ 48 rfl rfl (dep_at haf (by kernel_rfl))).trans rfl
        have e2 : a.tmps.getD 50 undef = .int .i64 ((k : Int) + 1) := (hI.val 7 _ 50 rfl rfl (dep_at haf (by kernel_rfl))).trans rfl
        go_simp
        refine ⟨_, rfl, γ, ?_, fun j _ => rfl, hW.other (by decide) (by decide) (by decide) (by decide)⟩
        first | (rw [show len - (k + 1) = m by have := hm.out; omega]; rfl) | rfl
      | 9, _ =>
        obtain rfl := Option.some.inj (show some _ = some op from ho)
        have e1 : a.tmps.getD 47 undef = γ.v4 := (hI.val 4 _ 47 rfl rfl (dep_at haf (by kernel_rfl))).trans rfl
        have e2 : a.tmps.getD 51 undef = .slice (some ⟨g, o + (k + 1) * 9, none⟩) m (cf - (k + 1)) := (hI.val 8 _ 51 rfl rfl (dep_at haf (by kernel_rfl))).trans rfl
        have x9 := getD_false hxi
        have x4 : x.getD 4 false = true := dep_at haf (by kernel_rfl)
        have x11 := not_yetL hW.i11 x9
        obtain ⟨hb, hO⟩ := hW.f4 x4 x9
        have hzs : Y.heap.size ≤ z.heap.size := hb.size
        refine wp_append_at (w := z) (.tmp 47) (.tmp 51) 22 rfl Y.heap.size 41 r0 (.agg #[.string ⟨#[]⟩, .int .i64 0, .string ⟨#[]⟩, .int .i64 0, .int .i64 0, .int .i64 0, .int .i64 0, .int .i64 0, .string ⟨#[]⟩]) 9 96 Try.underlying22 hri hr0 hr1 hr2 rfl (by omega) _ k (fdCs (d.fs.take k)) e1 hO ⟨g, o + (k + 1) * 9, none⟩ m (cf - (k + 1)) (fdCs (d.fs.drop (k + 1))) e2 (by rw [fdCs_len, List.length_drop]; have := hlen.out; have := hm.out; omega) (fun j u hu => (news_from (fun j hj i u hu => (hb.cell (p := ⟨g, o + 9 * j + i, none⟩) hgY).trans (hin j hj i u hu)) (k + 1) j u hu)) (one_cell _) (by have := hm.out; unfold maxLen; omega) (by have := hm.out; omega) hzs ?_
        intro v' w' hO' hg' hat
        have hb' : Below Y.heap.size Y w' := below_own (Nat.le_refl _) hb hO hg'
        have s9 : (x.setIfInBounds 9 true).getD 9 false = true := getD_set_at (by rw [hx]; decide)
        have s4 : (x.setIfInBounds 9 true).getD 4 false = true := getD_set_true x4
        have s0 : (x.setIfInBounds 9 true).getD 0 false = true := getD_set_true (hW.i4 x4)
        have s11 : (x.setIfInBounds 9 true).getD 11 false = false := (getD_set_ne false (by decide)).trans x11
        refine ⟨_, ⟨γ.v4, v'⟩, rfl, fun d _ => rfl, fun j v hj h => Eq.trans h (leV_9 ?_), fun h => ?_, fun _ h => ?_, fun _ h => ?_, fun _ _ => ⟨hb', hO'⟩, fun _ => s0, fun _ => s4, fun h => ?_, fun h => ?_⟩
        · rintro rfl; rw [x9] at hj; cases hj
        · rw [s0] at h; cases h
        · rw [s4] at h; cases h
        · rw [s9] at h; cases h
        · rw [s11] at h; cases h
        · rw [s11] at h; cases h
      | 10, _ =>
        obtain rfl := Option.some.inj (show some _ = some op from ho)
        have e1 : a.tmps.getD 2 undef = .pointer (some ⟨w.heap.size, 0, none⟩) := (hI.was (by kernel_rfl)).trans rfl
        go_simp
        exact ⟨_, rfl, γ, rfl, fun j _ => rfl, hW.other (by decide) (by decide) (by decide) (by decide)⟩
      | 11, _ =>
        obtain rfl := Option.some.inj (show some _ = some op from ho)
        have e1 : a.tmps.getD 53 undef = .pointer (some ⟨w.heap.size, 6, none⟩) := (hI.val 10 _ 53 rfl rfl (dep_at haf (by kernel_rfl))).trans rfl
        have x11 := getD_false hxi
        have x9 : x.getD 9 false = true := dep_at haf (by kernel_rfl)
        have x4 := hW.i9 x9
        have x0 := hW.i4 x4
        obtain ⟨hb, hO⟩ := hW.f9 x9 x11
        have D6 := D5.out.below hb
        have fc1 := D6.cells.2.2.2.2.2.2.1
        have fc2 := D6.frozen 6
        have e2 : a.tmps.getD 52 undef = γ.v9 := (hI.val 9 _ 52 rfl rfl x9).trans rfl
        have s11 : (x.setIfInBounds 11 true).getD 11 false = true := getD_set_at (by rw [hx]; decide)
        obtain ⟨pv, cv, hv9⟩ : ∃ p c, γ.v9 = .slice p (k + m) c := by
          rcases own_slice hO with ⟨e, hn⟩ | ⟨gg, cp, e, _⟩
          · exact ⟨none, 0, by rw [e, hn]⟩
          · exact ⟨_, _, e⟩
        rw [hv9] at e2
        go_simp
        refine ⟨γ, fun j _ => rfl, fun h => ?_, fun _ h => ?_, fun _ h => ?_, fun _ h => ?_, fun _ => getD_set_true x0, fun _ => getD_set_true x4, fun _ => getD_set_true x9, fun _ => ⟨z, hb, hO, by first | (rw [hv9]; done) | (rw [hv9]; rfl)⟩⟩
        · rw [getD_set_true x0] at h; cases h
        · rw [getD_set_true x4] at h; cases h
        · rw [getD_set_true x9] at h; cases h
        · rw [s11] at h; cases h
    · intro γ x a z hx hall hI hW
      obtain ⟨y, hb, hO, rfl⟩ := hW.fin (hall 11 (by decide))
      obtain ⟨hkl0, hf0⟩ := hfo.out
      have e6 : fdCs (d.fs.take k) ++ fdCs (d.fs.drop (k + 1)) = fdCs (d.fs.take k ++ d.fs.drop (k + 1)) := by unfold fdCs; rw [List.flatMap_append]
      have l6 : (d.fs.take k ++ d.fs.drop (k + 1)).length = k + m := by rw [List.length_append, List.length_take, List.length_drop]; have := hlen.out; have := hm.out; omega
      have efs : d.fs = d.fs.take k ++ f :: d.fs.drop (k + 1) := by rw [← hf0, ← List.drop_eq_getElem_cons hkl0, List.take_append_drop]
      have K7 : Hid (ckE { d with fs := d.fs.take k ++ d.fs.drop (k + 1) } = 0) := ck_less efs hE.out
      have K9 : Hid (ckE { d with fs := d.fs ++ [f] } = 8 ∨ d.fs.length = 8 ∧ ckE { d with fs := d.fs ++ [f] } = 6) := ck_more (by rw [← hf0]; exact List.getElem_mem hkl0) hE.out
      have I7 : Hid (DvI { d with fs := d.fs.take k ++ d.fs.drop (k + 1) }) := ⟨hi.out.nm, fun q hq => hi.out.fs q (by
        rcases List.mem_append.1 hq with hq | hq
        · exact List.mem_of_mem_take hq
        · exact List.mem_of_mem_drop hq), hi.out.sz, by show ((d.fs.take k ++ d.fs.drop (k + 1)).length : Int) ≤ 100; rw [l6]; have := hm.out; omega⟩
      have I9 : Hid (DvI { d with fs := d.fs ++ [f] }) := ⟨hi.out.nm, fun q hq => hi.out.fs q (by
        rcases List.mem_append.1 hq with hq | hq
        · exact hq
        · obtain rfl : q = f := by simpa using hq
          rw [← hf0]; exact List.getElem_mem hkl0), hi.out.sz, by show ((d.fs ++ [f]).length : Int) ≤ 100; rw [List.length_append]; have := hlen.out; simp; omega⟩
      rw [e6, ← l6] at hO
      have V9 := own_fldsV hO
      obtain ⟨p9, c9, hv9⟩ := V9.form
      have lt9 := World.ownsRow.lt hO
      have D7 : Hid (DvO (y.setCell ⟨w.heap.size, 6, none⟩ γ.v9) w.heap.size { d with fs := d.fs.take k ++ d.fs.drop (k + 1) } γ.v9 (.slice pq d.rq.length cq)) := (D5.out.below hb).put V9 (fun q hq => by have := (lt9 q hq).1; have := D5.out.lt; omega)
      have F7 : Hid (FdB (y.setCell ⟨w.heap.size, 6, none⟩ γ.v9) Fb f) := ⟨fun i v hv => by
        rw [World.cell?_setCell_other _ _ _ _ (by intro e; have := congrArg Addr.block e; simp only at this; have := hbF.out; omega)]
        exact (F5.out.below hb).c i v hv, by rw [World.size_setCell]; exact (F5.out.below hb).lt⟩
      have B7 : Hid (Below w.heap.size w (y.setCell ⟨w.heap.size, 6, none⟩ γ.v9)) := Below.setCell (B5.out.trans (hb.mono B5.out.size)) (Nat.le_refl _) _
      obtain ⟨VV, hV⟩ := hI.slots (by kernel_rfl) hall
      clear hI hW hall hb hO V9 lt9 D5 F5 B5 hin hgY sY e6 efs hf0 hkl0 hcap1 hx
      simp only [putsL, List.setIfInBounds_toArray, List.set_cons_zero, List.set_cons_succ] at hV
      subst hV
      generalize y.setCell ⟨w.heap.size, 6, none⟩ γ.v9 = Z7 at *
      obtain ⟨v4_, v9_⟩ := γ
      simp only at hv9 D7
      subst hv9
      replace l6 : Hid ((d.fs.take k ++ d.fs.drop (k + 1)).length = k + m) := l6
      obtain ⟨L7, hL7⟩ : ∃ L7, d.fs.take k ++ d.fs.drop (k + 1) = L7 := ⟨_, rfl⟩
      rw [hL7] at D7 K7 I7 l6
      clear hL7
      obtain ⟨n7, hn7⟩ : ∃ n7, L7.length = n7 := ⟨_, rfl⟩
      rw [hn7] at D7
      replace hn7 : Hid (L7.length = n7) := hn7
      obtain ⟨z0, z1, z2, z3, z4, z5, z6, z7, z8, z9, z10, z11⟩ := D7.out.cells
      simp only at z0 z1 z2 z3 z4 z5 z6 z7 z8 z9 z10 z11
      have lo7 : Hid (Calls Try.prog 10 #[.agg #[.string (txt d.nm), .int .i64 d.st, .int .i64 d.es, .int .i64 d.mx, .int .i64 d.sz, .string (txt d.sm), (.slice p9 n7 c9), .slice pq d.rq.length cq, .int .i64 d.po, .int .i64 d.ti, .int .i64 d.re, .int .i64 d.ag]] Z7 fun e w' => ∃ ov, e = .returned (dvV { d with fs := L7 } ov (.slice pq d.rq.length cq)) ∧ FldsV w' ov L7 ∧ Below Z7.heap.size Z7 w') := lof_any { d with fs := L7 } (.slice p9 n7 c9) pq d.rq.length cq Z7 D7.out.fl I7.out.ln
      go_wp2_with fail
      refine lo7.out.mono ?_
      rintro e Z8 ⟨ov7, rfl, hov7, hb⟩
      have ck7 : Hid (Calls Try.prog 9 #[dvV { d with fs := L7 } ov7 (.slice pq d.rq.length cq)] Z8 (QA Z8 0)) := by
        have k0 := check_any { d with fs := L7 } ov7 (.slice pq d.rq.length cq) Z8 I7.out ⟨pq, cq, rfl⟩ hov7
        rw [K7.out] at k0
        exact k0
      have D8 : Hid (DvO Z8 w.heap.size { d with fs := L7 } (.slice p9 n7 c9) (.slice pq d.rq.length cq)) := D7.out.below hb
      have F8 : Hid (FdB Z8 Fb f) := F7.out.below hb
      have B8 : Hid (Below w.heap.size w Z8) := B7.out.trans (hb.mono B7.out.size)
      clear hb lo7 D7 F7 B7 K7 hov7 I7 z0 z1 z2 z3 z4 z5 z6 z7 z8 z9 z10 z11
      go_wp2_with fail
      refine ck7.out.mono ?_
      rintro e Z9 ⟨rfl, hb⟩
      have D9 : Hid (DvO Z9 w.heap.size { d with fs := L7 } (.slice p9 n7 c9) (.slice pq d.rq.length cq)) := D8.out.below hb
      have F9 : Hid (FdB Z9 Fb f) := F8.out.below hb
      have B9 : Hid (Below w.heap.size w Z9) := B8.out.trans (hb.mono B8.out.size)
      clear hb ck7 D8 F8 B8
      go_upto_region 8 with fail
      obtain ⟨g2, o2, cap2, e, _, hin, hgY⟩ := (hfl.out.below B9.out).resolve_left (fun ⟨_, _, _, e⟩ => by obtain ⟨h, _⟩ := hfo.out; rw [e] at h; cases h)
      injection e with e1 e2 e3
      injection e1 with e1
      injection e1 with e1 e4 e5
      subst e1
      subst e4
      clear e2 e3
      refine region_props3 (fun γ x i v z => v = l8V w.heap.size g o len cf f γ i) (L8W Z9 w.heap.size Fb len (fdCs d.fs) f) ⟨0, 0, undef, undef⟩ (by kernel_rfl) (by kernel_rfl) ?_ ?_ ?_
      · intro γ x a z i op ho hI haf hx hxi hW
        have hi : i < 8 := (List.getElem?_eq_some_iff.1 ho).1
        match i, hi with
        | 0, _ =>
          obtain rfl := Option.some.inj (show some _ = some op from ho)
          have x0 := getD_false hxi
          have x2 := not_yetL hW.i2 x0
          have x5 := not_yetL hW.i5 x2
          have x7 := not_yetL hW.i7 x5
          have hb : Below z.heap.size z (z.alloc (.cells #[] 41)) := (Below.refl _ _).alloc (Nat.le_refl _) _
          have lw := hW.low x7
          have hO : (z.alloc (.cells #[] 41)).ownsRow Z9.heap.size 41 9 (.slice (some ⟨z.heap.size, 0, none⟩) 0 0) 0 [] := World.ownsRow_made z #[] 0 lw.size (Nat.zero_le _) rfl
          have W' := hW.step0 hb x2 x5 x7 hO (by rw [hx]; decide)
          go_simp
          exact ⟨_, rfl, ⟨z.heap.size, γ.h4, γ.v2, γ.v5⟩, rfl, fun j hj => l8V_0 (by rintro rfl; have hj := getD_qL hj; rw [x0] at hj; cases hj), W'⟩
        | 1, _ =>
          obtain rfl := Option.some.inj (show some _ = some op from ho)
          have e1 : a.tmps.getD 7 undef = .slice (some ⟨g, o, none⟩) len cf := (hI.was (by kernel_rfl)).trans rfl
          go_simp
          exact ⟨_, rfl, γ, rfl, fun j _ => rfl, hW.other (by decide) (by decide) (by decide) (by decide) (by decide)⟩
        | 2, _ =>
          obtain rfl := Option.some.inj (show some _ = some op from ho)
          have e1 : a.tmps.getD 57 undef = .slice (some ⟨γ.h0, 0, none⟩) 0 0 := (hI.val 0 _ 57 rfl rfl (dep_at haf (by kernel_rfl))).trans rfl
          have e2 : a.tmps.getD 58 undef = .slice (some ⟨g, o, none⟩) len cf := (hI.val 1 _ 58 rfl rfl (dep_at haf (by kernel_rfl))).trans rfl
          have x2 := getD_false hxi
          have x0 : x.getD 0 false = true := dep_at haf (by kernel_rfl)
          have x5 := not_yetL hW.i5 x2
          have x7 := not_yetL hW.i7 x5
          have lw := hW.low x7
          have hO := hW.r0 x0 x2
          refine wp_append_at (w := z) (.tmp 57) (.tmp 58) 22 rfl Z9.heap.size 41 r0 (.agg #[.string ⟨#[]⟩, .int .i64 0, .string ⟨#[]⟩, .int .i64 0, .int .i64 0, .int .i64 0, .int .i64 0, .int .i64 0, .string ⟨#[]⟩]) 9 96 Try.underlying22 hri hr0 hr1 hr2 rfl (by omega) _ 0 [] e1 hO ⟨g, o, none⟩ len cf (fdCs d.fs) e2 (by rw [fdCs_len, hlen.out]) (fun j u hu => by
            have := news_from (fun j hj i u hu => (lw.cell (p := ⟨g, o + 9 * j + i, none⟩) hgY).trans (hin j hj i u hu)) 0 j u (by simpa using hu)
            simpa using this) (one_cell _) (by unfold maxLen; omega) (by omega) lw.size ?_
          intro v' w' hO' hg' hat
          rw [Nat.zero_add, List.nil_append] at hO'
          exact ⟨_, ⟨γ.h0, γ.h4, v', γ.v5⟩, rfl, fun d _ => rfl, fun j v hj h => Eq.trans h (l8V_2 (by rintro rfl; rw [x2] at hj; cases hj)), hW.step2 x0 x2 x5 x7 hO' hg' hat (F9.out.below (below_own (Nat.le_refl _) lw hO hg')) (by rw [hx]; decide)⟩
        | 3, _ =>
          obtain rfl := Option.some.inj (show some _ = some op from ho)
          have e1 : a.tmps.getD 6 undef = .pointer (some ⟨Fb, 0, none⟩) := (hI.was (by kernel_rfl)).trans rfl
          have hFz : FdB z Fb f := hW.fd
          obtain ⟨c0, c1, c2, c3, c4, c5, c6, c7, c8⟩ := hFz.cells
          go_simp
          exact ⟨_, rfl, γ, rfl, fun j _ => rfl, hW.other (by decide) (by decide) (by decide) (by decide) (by decide)⟩
        | 4, _ =>
          obtain rfl := Option.some.inj (show some _ = some op from ho)
          have e1 : a.tmps.getD 60 undef = fdV f := (hI.val 3 _ 60 rfl rfl (dep_at haf (by kernel_rfl))).trans rfl
          have x4 := getD_false hxi
          have x5 := not_yetL hW.i54 x4
          have x7 := not_yetL hW.i7 x5
          have W' := hW.step4 x4 x5 x7 (by rw [hx]; decide)
          go_simp
          simp only [← Array.getD_eq_getD_getElem?, e1]
          go_simp
          exact ⟨_, rfl, ⟨γ.h0, z.heap.size, γ.v2, γ.v5⟩, rfl, fun j hj => l8V_4 (by rintro rfl; have hj := getD_qL hj; rw [x4] at hj; cases hj), W'⟩
        | 5, _ =>
          obtain rfl := Option.some.inj (show some _ = some op from ho)
          have e1 : a.tmps.getD 59 undef = γ.v2 := (hI.val 2 _ 59 rfl rfl (dep_at haf (by kernel_rfl))).trans rfl
          have e2 : a.tmps.getD 61 undef = .slice (some ⟨γ.h4, 0, none⟩) 1 1 := (hI.val 4 _ 61 rfl rfl (dep_at haf (by kernel_rfl))).trans rfl
          have x5 := getD_false hxi
          have x2 : x.getD 2 false = true := dep_at haf (by kernel_rfl)
          have x4 : x.getD 4 false = true := dep_at haf (by kernel_rfl)
          have x7 := not_yetL hW.i7 x5
          have lw := hW.low x7
          have hO := hW.r2 x2 x5
          have hb4 := hW.b4 x4 x5
          refine wp_append_at (w := z) (.tmp 59) (.tmp 61) 22 rfl Z9.heap.size 41 r0 (.agg #[.string ⟨#[]⟩, .int .i64 0, .string ⟨#[]⟩, .int .i64 0, .int .i64 0, .int .i64 0, .int .i64 0, .int .i64 0, .string ⟨#[]⟩]) 9 96 Try.underlying22 hri hr0 hr1 hr2 rfl (by omega) _ len (fdCs d.fs) e1 hO ⟨γ.h4, 0, none⟩ 1 1 (fdC f) e2 rfl (World.news_of_block (cs := #[.string (txt f.nm), .int .i64 f.pl, .string (txt f.kd), .int .i64 f.wd, .int .i64 f.sn, .int .i64 f.sd, .int .i64 f.on, .int .i64 f.od, .string (txt f.un)]) (t := 41) (fr := (0, 0)) hb4.1) (by simp [Value.oneCell', fdC]) (by unfold maxLen; omega) (by omega) lw.size ?_
          intro v' w' hO' hg' hat
          exact ⟨_, ⟨γ.h0, γ.h4, γ.v2, v'⟩, rfl, fun d _ => rfl, fun j v hj h => Eq.trans h (l8V_5 (by rintro rfl; rw [x5] at hj; cases hj)), hW.step5 x2 x4 x5 x7 hO' hg' (F9.out.below (below_own (Nat.le_refl _) lw hO hg')) (by rw [hx]; decide)⟩
        | 6, _ =>
          obtain rfl := Option.some.inj (show some _ = some op from ho)
          have e1 : a.tmps.getD 2 undef = .pointer (some ⟨w.heap.size, 0, none⟩) := (hI.was (by kernel_rfl)).trans rfl
          go_simp
          exact ⟨_, rfl, γ, rfl, fun j _ => rfl, hW.other (by decide) (by decide) (by decide) (by decide) (by decide)⟩
        | 7, _ =>
          obtain rfl := Option.some.inj (show some _ = some op from ho)
          have e1 : a.tmps.getD 63 undef = .pointer (some ⟨w.heap.size, 6, none⟩) := (hI.val 6 _ 63 rfl rfl (dep_at haf (by kernel_rfl))).trans rfl
          have x7 := getD_false hxi
          have x5 : x.getD 5 false = true := dep_at haf (by kernel_rfl)
          have lw := hW.low x7
          have hO := hW.r5 x5 x7
          have Dz := D9.out.below lw
          have fc1 := Dz.cells.2.2.2.2.2.2.1
          have fc2 := Dz.frozen 6
          have e2 : a.tmps.getD 62 undef = γ.v5 := (hI.val 5 _ 62 rfl rfl x5).trans rfl
          obtain ⟨pv, cv, hv5⟩ : ∃ p c, γ.v5 = .slice p (len + 1) c := by
            rcases own_slice hO with ⟨_, hn⟩ | ⟨gg, cp, e, _⟩
            · omega
            · exact ⟨_, _, e⟩
          have W' := hW.step7 (b0 := w.heap.size) x5 x7 (by have := hbF.out; omega) (by rw [hx]; decide)
          rw [hv5] at e2 W'
          go_simp
          exact ⟨γ, fun j _ => rfl, W'⟩
      · intro γ x a z hx hall hI hW
        obtain ⟨y, hb, hO, rfl⟩ := hW.fin (hall 7 (by decide))
        have e8 : fdCs d.fs ++ fdC f = fdCs (d.fs ++ [f]) := (fdCs_snoc d.fs f).symm
        have l8 : (d.fs ++ [f]).length = len + 1 := by rw [List.length_append, hlen.out]; rfl
        rw [e8, ← l8] at hO
        have V5 := own_fldsV hO
        obtain ⟨p5, c5, hv5⟩ := V5.form
        have lt5 := World.ownsRow.lt hO
        have D10 : Hid (DvO (y.setCell ⟨w.heap.size, 6, none⟩ γ.v5) w.heap.size { d with fs := d.fs ++ [f] } γ.v5 (.slice pq d.rq.length cq)) := by
          have k0 := (D9.out.below hb).put V5 (fun q hq => by have := (lt5 q hq).1; have := D9.out.lt; omega)
          exact k0
        have B10 : Hid (Below w.heap.size w (y.setCell ⟨w.heap.size, 6, none⟩ γ.v5)) := Below.setCell (B9.out.trans (hb.mono B9.out.size)) (Nat.le_refl _) _
        obtain ⟨VV, hV⟩ := hI.slots (by kernel_rfl) hall
        clear hI hW hall hb hO V5 lt5 D9 F9 B9 hin hgY e8 hx
        simp only [putsL, List.setIfInBounds_toArray, List.set_cons_zero, List.set_cons_succ] at hV
        subst hV
        generalize y.setCell ⟨w.heap.size, 6, none⟩ γ.v5 = Z10 at *
        obtain ⟨h0_, h4_, v2_, v5_⟩ := γ
        simp only at hv5 D10
        subst hv5
        obtain ⟨L9, hL9⟩ : ∃ L9, d.fs ++ [f] = L9 := ⟨_, rfl⟩
        rw [hL9] at D10 K9 I9 l8
        clear hL9
        obtain ⟨n9, hn9⟩ : ∃ n9, L9.length = n9 := ⟨_, rfl⟩
        rw [hn9] at D10
        clear l8 hn9
        obtain ⟨E9, hE9⟩ : ∃ E9, ckE { d with fs := L9 } = E9 := ⟨_, rfl⟩
        rw [hE9] at K9
        replace hE9 : Hid (ckE { d with fs := L9 } = E9) := hE9
        obtain ⟨z0, z1, z2, z3, z4, z5, z6, z7, z8, z9, z10, z11⟩ := D10.out.cells
        simp only at z0 z1 z2 z3 z4 z5 z6 z7 z8 z9 z10 z11
        have lo9 : Hid (Calls Try.prog 10 #[.agg #[.string (txt d.nm), .int .i64 d.st, .int .i64 d.es, .int .i64 d.mx, .int .i64 d.sz, .string (txt d.sm), (.slice p5 n9 c5), .slice pq d.rq.length cq, .int .i64 d.po, .int .i64 d.ti, .int .i64 d.re, .int .i64 d.ag]] Z10 fun e w' => ∃ ov, e = .returned (dvV { d with fs := L9 } ov (.slice pq d.rq.length cq)) ∧ FldsV w' ov L9 ∧ Below Z10.heap.size Z10 w') := lof_any { d with fs := L9 } (.slice p5 n9 c5) pq d.rq.length cq Z10 D10.out.fl I9.out.ln
        go_wp2_with fail
        refine lo9.out.mono ?_
        rintro e Z11 ⟨ov9, rfl, hov9, hb⟩
        have ck9 : Hid (Calls Try.prog 9 #[dvV { d with fs := L9 } ov9 (.slice pq d.rq.length cq)] Z11 (QA Z11 E9)) := by
          have k0 := check_any { d with fs := L9 } ov9 (.slice pq d.rq.length cq) Z11 I9.out ⟨pq, cq, rfl⟩ hov9
          rw [hE9.out] at k0
          exact k0
        have B11 : Hid (Below w.heap.size w Z11) := B10.out.trans (hb.mono B10.out.size)
        clear hb lo9 D10 B10 hov9 I9 hE9 z0 z1 z2 z3 z4 z5 z6 z7 z8 z9 z10 z11
        go_wp2_with fail
        refine ck9.out.mono ?_
        rintro e Z12 ⟨rfl, hb⟩
        have B12 : Hid (Below w.heap.size w Z12) := B11.out.trans (hb.mono B11.out.size)
        clear hb ck9 B11
        rcases K9.out with h8 | ⟨hl8, h6⟩
        · subst h8
          clear K9
          go_wp2
          go_ret
          exact ⟨rfl, B12.out⟩
        · subst h6
          have q8 : ((len : Int) == 8) = true := by rw [← hlen.out, hl8]; rfl
          clear K9
          go_wp2
          go_ret
          exact ⟨rfl, B12.out⟩
      · exact L8W.first F9.out
    · exact ⟨fun _ => rfl, fun h => (by simp at h), fun h => (by simp at h), fun h => (by simp at h), fun h => (by simp at h), fun h => (by simp at h), fun h => (by simp at h), fun h => (by simp at h)⟩
  · have hce : Hid (cf = k + 1) := by unfold Hid; omega
    have m0 : m = 0 := by have := hm.out; omega
    subst m0
    refine region_props3 (fun γ x i v z => v = leV w.heap.size Y.heap.size g o k len cf (.slice (some ⟨g, o, none⟩) 0 0) γ i) (LeW Y w.heap.size k (k + 0) (fdCs (d.fs.take k)) (fdCs (d.fs.take k) ++ fdCs (d.fs.drop (k + 1)))) ⟨undef, undef⟩ (by kernel_rfl) (by kernel_rfl) ?_ ?_ ?_
    · intro γ x a z i op ho hI haf hx hxi hW
      have hi : i < 12 := (List.getElem?_eq_some_iff.1 ho).1
      match i, hi with
      | 0, _ =>
        obtain rfl := Option.some.inj (show some _ = some op from ho)
        have x0 := getD_false hxi
        have x4 := not_yetL hW.i4 x0
        have x9 := not_yetL hW.i9 x4
        have x11 := not_yetL hW.i11 x9
        have hz : Hid (z = Y.drew) := hW.f0 x0
        have hzs : Hid (z.heap.size = Y.heap.size) := by unfold Hid; rw [hz.out]; rfl
        have s0 : (x.setIfInBounds 0 true).getD 0 false = true := getD_set_at (by rw [hx]; decide)
        have s4 : (x.setIfInBounds 0 true).getD 4 false = false := (getD_set_ne false (by decide)).trans x4
        have s9 : (x.setIfInBounds 0 true).getD 9 false = false := (getD_set_ne false (by decide)).trans x9
        have s11 : (x.setIfInBounds 0 true).getD 11 false = false := (getD_set_ne false (by decide)).trans x11
        go_simp
        refine ⟨_, rfl, γ, by rw [hzs.out]; rfl, fun j _ => rfl, fun h => ?_, fun _ _ => by rw [hz.out], fun h => ?_, fun h => ?_, fun h => ?_, fun h => ?_, fun h => ?_, fun h => ?_⟩
        · rw [s0] at h; cases h
        · rw [s4] at h; cases h
        · rw [s9] at h; cases h
        · rw [s4] at h; cases h
        · rw [s9] at h; cases h
        · rw [s11] at h; cases h
        · rw [s11] at h; cases h
      | 1, _ =>
        obtain rfl := Option.some.inj (show some _ = some op from ho)
        have e1 : a.tmps.getD 7 undef = .slice (some ⟨g, o, none⟩) len cf := (hI.was (by kernel_rfl)).trans rfl
        go_simp
        exact ⟨_, rfl, γ, rfl, fun j _ => rfl, hW.other (by decide) (by decide) (by decide) (by decide)⟩
      | 2, _ =>
        obtain rfl := Option.some.inj (show some _ = some op from ho)
        have e1 : a.tmps.getD 5 undef = .int .i64 (k : Int) := (hI.was (by kernel_rfl)).trans (congrArg (Value.int .i64) hk)
        go_simp
        exact ⟨_, rfl, γ, rfl, fun j _ => rfl, hW.other (by decide) (by decide) (by decide) (by decide)⟩
      | 3, _ =>
        obtain rfl := Option.some.inj (show some _ = some op from ho)
        have e1 : a.tmps.getD 44 undef = .slice (some ⟨g, o, none⟩) len cf := (hI.val 1 _ 44 rfl rfl (dep_at haf (by kernel_rfl))).trans rfl
        have e2 : a.tmps.getD 45 undef = .int .i64 (k : Int) := (hI.val 2 _ 45 rfl rfl (dep_at haf (by kernel_rfl))).trans rfl
        go_simp
        exact ⟨_, rfl, γ, rfl, fun j _ => rfl, hW.other (by decide) (by decide) (by decide) (by decide)⟩
      | 4, _ =>
        obtain rfl := Option.some.inj (show some _ = some op from ho)
        have e1 : a.tmps.getD 43 undef = .slice (some ⟨Y.heap.size, 0, none⟩) 0 0 := (hI.val 0 _ 43 rfl rfl (dep_at haf (by kernel_rfl))).trans rfl
        have e2 : a.tmps.getD 46 undef = .slice (some ⟨g, o, none⟩) k cf := (hI.val 3 _ 46 rfl rfl (dep_at haf (by kernel_rfl))).trans rfl
        have x4 := getD_false hxi
        have x0 : x.getD 0 false = true := dep_at haf (by kernel_rfl)
        have x9 := not_yetL hW.i9 x4
        have x11 := not_yetL hW.i11 x9
        have hz := hW.f1 x0 x4
        have hb : Below Y.heap.size Y z := by rw [hz]; exact ((Below.refl _ _).drew).alloc (Nat.le_refl _) _
        have hO : z.ownsRow Y.heap.size 41 9 (.slice (some ⟨Y.heap.size, 0, none⟩) 0 0) 0 [] := by
          rw [hz]
          exact World.ownsRow_made Y.drew #[] 0 (Nat.le_refl _) (Nat.zero_le _) rfl
        have hzs : Y.heap.size ≤ z.heap.size := hb.size
        refine wp_append_at (w := z) (.tmp 43) (.tmp 46) 22 rfl Y.heap.size 41 r0 (.agg #[.string ⟨#[]⟩, .int .i64 0, .string ⟨#[]⟩, .int .i64 0, .int .i64 0, .int .i64 0, .int .i64 0, .int .i64 0, .string ⟨#[]⟩]) 9 96 Try.underlying22 hri hr0 hr1 hr2 rfl (by omega) _ 0 [] e1 hO ⟨g, o, none⟩ k cf (fdCs (d.fs.take k)) e2 (by rw [fdCs_len, List.length_take]; have := hlen.out; omega) (fun j u hu => (news_first (fun j hj i u hu => (hb.cell (p := ⟨g, o + 9 * j + i, none⟩) hgY).trans (hin j hj i u hu)) k j u hu)) (one_cell _) (by unfold maxLen; omega) (by omega) hzs ?_
        intro v' w' hO' hg' hat
        rw [Nat.zero_add, List.nil_append] at hO'
        have hb' : Below Y.heap.size Y w' := below_own (Nat.le_refl _) hb hO hg'
        have s4 : (x.setIfInBounds 4 true).getD 4 false = true := getD_set_at (by rw [hx]; decide)
        have s0 : (x.setIfInBounds 4 true).getD 0 false = true := getD_set_true x0
        have s9 : (x.setIfInBounds 4 true).getD 9 false = false := (getD_set_ne false (by decide)).trans x9
        have s11 : (x.setIfInBounds 4 true).getD 11 false = false := (getD_set_ne false (by decide)).trans x11
        refine ⟨_, ⟨v', γ.v9⟩, rfl, fun d _ => rfl, fun j v hj h => Eq.trans h (leV_4 ?_), fun h => ?_, fun _ h => ?_, fun _ _ => ⟨hb', hO'⟩, fun h => ?_, fun _ => s0, fun h => ?_, fun h => ?_, fun h => ?_⟩
        · rintro rfl; rw [x4] at hj; cases hj
        · rw [s0] at h; cases h
        · rw [s4] at h; cases h
        · rw [s9] at h; cases h
        · rw [s9] at h; cases h
        · rw [s11] at h; cases h
        · rw [s11] at h; cases h
      | 5, _ =>
        obtain rfl := Option.some.inj (show some _ = some op from ho)
        have e1 : a.tmps.getD 7 undef = .slice (some ⟨g, o, none⟩) len cf := (hI.was (by kernel_rfl)).trans rfl
        go_simp
        exact ⟨_, rfl, γ, rfl, fun j _ => rfl, hW.other (by decide) (by decide) (by decide) (by decide)⟩
      | 6, _ =>
        obtain rfl := Option.some.inj (show some _ = some op from ho)
        have e1 : a.tmps.getD 5 undef = .int .i64 (k : Int) := (hI.was (by kernel_rfl)).trans (congrArg (Value.int .i64) hk)
        go_simp
        exact ⟨_, rfl, γ, rfl, fun j _ => rfl, hW.other (by decide) (by decide) (by decide) (by decide)⟩
      | 7, _ =>
        obtain rfl := Option.some.inj (show some _ = some op from ho)
        have e1 : a.tmps.getD 49 undef = .int .i64 (k : Int) := (hI.val 6 _ 49 rfl rfl (dep_at haf (by kernel_rfl))).trans rfl
        go_simp
        exact ⟨_, rfl, γ, rfl, fun j _ => rfl, hW.other (by decide) (by decide) (by decide) (by decide)⟩
      | 8, _ =>
        obtain rfl := Option.some.inj (show some _ = some op from ho)
        have e1 : a.tmps.getD 48 undef = .slice (some ⟨g, o, none⟩) len cf := (hI.val 5 _ 48 rfl rfl (dep_at haf (by kernel_rfl))).trans rfl
        have e2 : a.tmps.getD 50 undef = .int .i64 ((k : Int) + 1) := (hI.val 7 _ 50 rfl rfl (dep_at haf (by kernel_rfl))).trans rfl
        have hceq : (cf = k + 1) = True := eq_true hce.out
        go_simp
        refine ⟨_, rfl, γ, ?_, fun j _ => rfl, hW.other (by decide) (by decide) (by decide) (by decide)⟩
        first | (rw [show len - (k + 1) = 0 by have := hm.out; omega, show cf - (k + 1) = 0 by have := hce.out; omega]; rfl) | rfl
      | 9, _ =>
        obtain rfl := Option.some.inj (show some _ = some op from ho)
        have e1 : a.tmps.getD 47 undef = γ.v4 := (hI.val 4 _ 47 rfl rfl (dep_at haf (by kernel_rfl))).trans rfl
        have e2 : a.tmps.getD 51 undef = .slice (some ⟨g, o, none⟩) 0 0 := (hI.val 8 _ 51 rfl rfl (dep_at haf (by kernel_rfl))).trans rfl
        have x9 := getD_false hxi
        have x4 : x.getD 4 false = true := dep_at haf (by kernel_rfl)
        have x11 := not_yetL hW.i11 x9
        obtain ⟨hb, hO⟩ := hW.f4 x4 x9
        have hzs : Y.heap.size ≤ z.heap.size := hb.size
        refine wp_append_at (w := z) (.tmp 47) (.tmp 51) 22 rfl Y.heap.size 41 r0 (.agg #[.string ⟨#[]⟩, .int .i64 0, .string ⟨#[]⟩, .int .i64 0, .int .i64 0, .int .i64 0, .int .i64 0, .int .i64 0, .string ⟨#[]⟩]) 9 96 Try.underlying22 hri hr0 hr1 hr2 rfl (by omega) _ k (fdCs (d.fs.take k)) e1 hO ⟨g, o, none⟩ 0 0 (fdCs (d.fs.drop (k + 1))) e2 (by rw [fdCs_len, List.length_drop]; have := hlen.out; have := hm.out; omega) (fun j u hu => (by rw [List.drop_of_length_le (by have := hlen.out; have := hm.out; omega)] at hu; cases hu)) (one_cell _) (by have := hm.out; unfold maxLen; omega) (by have := hm.out; omega) hzs ?_
        intro v' w' hO' hg' hat
        have hb' : Below Y.heap.size Y w' := below_own (Nat.le_refl _) hb hO hg'
        have s9 : (x.setIfInBounds 9 true).getD 9 false = true := getD_set_at (by rw [hx]; decide)
        have s4 : (x.setIfInBounds 9 true).getD 4 false = true := getD_set_true x4
        have s0 : (x.setIfInBounds 9 true).getD 0 false = true := getD_set_true (hW.i4 x4)
        have s11 : (x.setIfInBounds 9 true).getD 11 false = false := (getD_set_ne false (by decide)).trans x11
        refine ⟨_, ⟨γ.v4, v'⟩, rfl, fun d _ => rfl, fun j v hj h => Eq.trans h (leV_9 ?_), fun h => ?_, fun _ h => ?_, fun _ h => ?_, fun _ _ => ⟨hb', hO'⟩, fun _ => s0, fun _ => s4, fun h => ?_, fun h => ?_⟩
        · rintro rfl; rw [x9] at hj; cases hj
        · rw [s0] at h; cases h
        · rw [s4] at h; cases h
        · rw [s9] at h; cases h
        · rw [s11] at h; cases h
        · rw [s11] at h; cases h
      | 10, _ =>
        obtain rfl := Option.some.inj (show some _ = some op from ho)
        have e1 : a.tmps.getD 2 undef = .pointer (some ⟨w.heap.size, 0, none⟩) := (hI.was (by kernel_rfl)).trans rfl
        go_simp
        exact ⟨_, rfl, γ, rfl, fun j _ => rfl, hW.other (by decide) (by decide) (by decide) (by decide)⟩
      | 11, _ =>
        obtain rfl := Option.some.inj (show some _ = some op from ho)
        have e1 : a.tmps.getD 53 undef = .pointer (some ⟨w.heap.size, 6, none⟩) := (hI.val 10 _ 53 rfl rfl (dep_at haf (by kernel_rfl))).trans rfl
        have x11 := getD_false hxi
        have x9 : x.getD 9 false = true := dep_at haf (by kernel_rfl)
        have x4 := hW.i9 x9
        have x0 := hW.i4 x4
        obtain ⟨hb, hO⟩ := hW.f9 x9 x11
        have D6 := D5.out.below hb
        have fc1 := D6.cells.2.2.2.2.2.2.1
        have fc2 := D6.frozen 6
        have e2 : a.tmps.getD 52 undef = γ.v9 := (hI.val 9 _ 52 rfl rfl x9).trans rfl
        have s11 : (x.setIfInBounds 11 true).getD 11 false = true := getD_set_at (by rw [hx]; decide)
        obtain ⟨pv, cv, hv9⟩ : ∃ p c, γ.v9 = .slice p (k + 0) c := by
          rcases own_slice hO with ⟨e, hn⟩ | ⟨gg, cp, e, _⟩
          · exact ⟨none, 0, by rw [e, hn]⟩
          · exact ⟨_, _, e⟩
        rw [hv9] at e2
        go_simp
        refine ⟨γ, fun j _ => rfl, fun h => ?_, fun _ h => ?_, fun _ h => ?_, fun _ h => ?_, fun _ => getD_set_true x0, fun _ => getD_set_true x4, fun _ => getD_set_true x9, fun _ => ⟨z, hb, hO, by first | (rw [hv9]; done) | (rw [hv9]; rfl)⟩⟩
        · rw [getD_set_true x0] at h; cases h
        · rw [getD_set_true x4] at h; cases h
        · rw [getD_set_true x9] at h; cases h
        · rw [s11] at h; cases h
    · intro γ x a z hx hall hI hW
      obtain ⟨y, hb, hO, rfl⟩ := hW.fin (hall 11 (by decide))
      obtain ⟨hkl0, hf0⟩ := hfo.out
      have e6 : fdCs (d.fs.take k) ++ fdCs (d.fs.drop (k + 1)) = fdCs (d.fs.take k ++ d.fs.drop (k + 1)) := by unfold fdCs; rw [List.flatMap_append]
      have l6 : (d.fs.take k ++ d.fs.drop (k + 1)).length = k + 0 := by rw [List.length_append, List.length_take, List.length_drop]; have := hlen.out; have := hm.out; omega
      have efs : d.fs = d.fs.take k ++ f :: d.fs.drop (k + 1) := by rw [← hf0, ← List.drop_eq_getElem_cons hkl0, List.take_append_drop]
      have K7 : Hid (ckE { d with fs := d.fs.take k ++ d.fs.drop (k + 1) } = 0) := ck_less efs hE.out
      have K9 : Hid (ckE { d with fs := d.fs ++ [f] } = 8 ∨ d.fs.length = 8 ∧ ckE { d with fs := d.fs ++ [f] } = 6) := ck_more (by rw [← hf0]; exact List.getElem_mem hkl0) hE.out
      have I7 : Hid (DvI { d with fs := d.fs.take k ++ d.fs.drop (k + 1) }) := ⟨hi.out.nm, fun q hq => hi.out.fs q (by
        rcases List.mem_append.1 hq with hq | hq
        · exact List.mem_of_mem_take hq
        · exact List.mem_of_mem_drop hq), hi.out.sz, by show ((d.fs.take k ++ d.fs.drop (k + 1)).length : Int) ≤ 100; rw [l6]; have := hm.out; omega⟩
      have I9 : Hid (DvI { d with fs := d.fs ++ [f] }) := ⟨hi.out.nm, fun q hq => hi.out.fs q (by
        rcases List.mem_append.1 hq with hq | hq
        · exact hq
        · obtain rfl : q = f := by simpa using hq
          rw [← hf0]; exact List.getElem_mem hkl0), hi.out.sz, by show ((d.fs ++ [f]).length : Int) ≤ 100; rw [List.length_append]; have := hlen.out; simp; omega⟩
      rw [e6, ← l6] at hO
      have V9 := own_fldsV hO
      obtain ⟨p9, c9, hv9⟩ := V9.form
      have lt9 := World.ownsRow.lt hO
      have D7 : Hid (DvO (y.setCell ⟨w.heap.size, 6, none⟩ γ.v9) w.heap.size { d with fs := d.fs.take k ++ d.fs.drop (k + 1) } γ.v9 (.slice pq d.rq.length cq)) := (D5.out.below hb).put V9 (fun q hq => by have := (lt9 q hq).1; have := D5.out.lt; omega)
      have F7 : Hid (FdB (y.setCell ⟨w.heap.size, 6, none⟩ γ.v9) Fb f) := ⟨fun i v hv => by
        rw [World.cell?_setCell_other _ _ _ _ (by intro e; have := congrArg Addr.block e; simp only at this; have := hbF.out; omega)]
        exact (F5.out.below hb).c i v hv, by rw [World.size_setCell]; exact (F5.out.below hb).lt⟩
      have B7 : Hid (Below w.heap.size w (y.setCell ⟨w.heap.size, 6, none⟩ γ.v9)) := Below.setCell (B5.out.trans (hb.mono B5.out.size)) (Nat.le_refl _) _
      obtain ⟨VV, hV⟩ := hI.slots (by kernel_rfl) hall
      clear hI hW hall hb hO V9 lt9 D5 F5 B5 hin hgY sY e6 efs hf0 hkl0 hcap1 hx
      simp only [putsL, List.setIfInBounds_toArray, List.set_cons_zero, List.set_cons_succ] at hV
      subst hV
      generalize y.setCell ⟨w.heap.size, 6, none⟩ γ.v9 = Z7 at *
      obtain ⟨v4_, v9_⟩ := γ
      simp only at hv9 D7
      subst hv9
      replace l6 : Hid ((d.fs.take k ++ d.fs.drop (k + 1)).length = k + 0) := l6
      obtain ⟨L7, hL7⟩ : ∃ L7, d.fs.take k ++ d.fs.drop (k + 1) = L7 := ⟨_, rfl⟩
      rw [hL7] at D7 K7 I7 l6
      clear hL7
      obtain ⟨n7, hn7⟩ : ∃ n7, L7.length = n7 := ⟨_, rfl⟩
      rw [hn7] at D7
      replace hn7 : Hid (L7.length = n7) := hn7
      obtain ⟨z0, z1, z2, z3, z4, z5, z6, z7, z8, z9, z10, z11⟩ := D7.out.cells
      simp only at z0 z1 z2 z3 z4 z5 z6 z7 z8 z9 z10 z11
      have lo7 : Hid (Calls Try.prog 10 #[.agg #[.string (txt d.nm), .int .i64 d.st, .int .i64 d.es, .int .i64 d.mx, .int .i64 d.sz, .string (txt d.sm), (.slice p9 n7 c9), .slice pq d.rq.length cq, .int .i64 d.po, .int .i64 d.ti, .int .i64 d.re, .int .i64 d.ag]] Z7 fun e w' => ∃ ov, e = .returned (dvV { d with fs := L7 } ov (.slice pq d.rq.length cq)) ∧ FldsV w' ov L7 ∧ Below Z7.heap.size Z7 w') := lof_any { d with fs := L7 } (.slice p9 n7 c9) pq d.rq.length cq Z7 D7.out.fl I7.out.ln
      go_wp2_with fail
      refine lo7.out.mono ?_
      rintro e Z8 ⟨ov7, rfl, hov7, hb⟩
      have ck7 : Hid (Calls Try.prog 9 #[dvV { d with fs := L7 } ov7 (.slice pq d.rq.length cq)] Z8 (QA Z8 0)) := by
        have k0 := check_any { d with fs := L7 } ov7 (.slice pq d.rq.length cq) Z8 I7.out ⟨pq, cq, rfl⟩ hov7
        rw [K7.out] at k0
        exact k0
      have D8 : Hid (DvO Z8 w.heap.size { d with fs := L7 } (.slice p9 n7 c9) (.slice pq d.rq.length cq)) := D7.out.below hb
      have F8 : Hid (FdB Z8 Fb f) := F7.out.below hb
      have B8 : Hid (Below w.heap.size w Z8) := B7.out.trans (hb.mono B7.out.size)
      clear hb lo7 D7 F7 B7 K7 hov7 I7 z0 z1 z2 z3 z4 z5 z6 z7 z8 z9 z10 z11
      go_wp2_with fail
      refine ck7.out.mono ?_
      rintro e Z9 ⟨rfl, hb⟩
      have D9 : Hid (DvO Z9 w.heap.size { d with fs := L7 } (.slice p9 n7 c9) (.slice pq d.rq.length cq)) := D8.out.below hb
      have F9 : Hid (FdB Z9 Fb f) := F8.out.below hb
      have B9 : Hid (Below w.heap.size w Z9) := B8.out.trans (hb.mono B8.out.size)
      clear hb ck7 D8 F8 B8
      go_upto_region 8 with fail
      obtain ⟨g2, o2, cap2, e, _, hin, hgY⟩ := (hfl.out.below B9.out).resolve_left (fun ⟨_, _, _, e⟩ => by obtain ⟨h, _⟩ := hfo.out; rw [e] at h; cases h)
      injection e with e1 e2 e3
      injection e1 with e1
      injection e1 with e1 e4 e5
      subst e1
      subst e4
      clear e2 e3
      refine region_props3 (fun γ x i v z => v = l8V w.heap.size g o len cf f γ i) (L8W Z9 w.heap.size Fb len (fdCs d.fs) f) ⟨0, 0, undef, undef⟩ (by kernel_rfl) (by kernel_rfl) ?_ ?_ ?_
      · intro γ x a z i op ho hI haf hx hxi hW
        have hi : i < 8 := (List.getElem?_eq_some_iff.1 ho).1
        match i, hi with
        | 0, _ =>
          obtain rfl := Option.some.inj (show some _ = some op from ho)
          have x0 := getD_false hxi
          have x2 := not_yetL hW.i2 x0
          have x5 := not_yetL hW.i5 x2
          have x7 := not_yetL hW.i7 x5
          have hb : Below z.heap.size z (z.alloc (.cells #[] 41)) := (Below.refl _ _).alloc (Nat.le_refl _) _
          have lw := hW.low x7
          have hO : (z.alloc (.cells #[] 41)).ownsRow Z9.heap.size 41 9 (.slice (some ⟨z.heap.size, 0, none⟩) 0 0) 0 [] := World.ownsRow_made z #[] 0 lw.size (Nat.zero_le _) rfl
          have W' := hW.step0 hb x2 x5 x7 hO (by rw [hx]; decide)
          go_simp
          exact ⟨_, rfl, ⟨z.heap.size, γ.h4, γ.v2, γ.v5⟩, rfl, fun j hj => l8V_0 (by rintro rfl; have hj := getD_qL hj; rw [x0] at hj; cases hj), W'⟩
        | 1, _ =>
          obtain rfl := Option.some.inj (show some _ = some op from ho)
          have e1 : a.tmps.getD 7 undef = .slice (some ⟨g, o, none⟩) len cf := (hI.was (by kernel_rfl)).trans rfl
          go_simp
          exact ⟨_, rfl, γ, rfl, fun j _ => rfl, hW.other (by decide) (by decide) (by decide) (by decide) (by decide)⟩
        | 2, _ =>
          obtain rfl := Option.some.inj (show some _ = some op from ho)
          have e1 : a.tmps.getD 57 undef = .slice (some ⟨γ.h0, 0, none⟩) 0 0 := (hI.val 0 _ 57 rfl rfl (dep_at haf (by kernel_rfl))).trans rfl
          have e2 : a.tmps.getD 58 undef = .slice (some ⟨g, o, none⟩) len cf := (hI.val 1 _ 58 rfl rfl (dep_at haf (by kernel_rfl))).trans rfl
          have x2 := getD_false hxi
          have x0 : x.getD 0 false = true := dep_at haf (by kernel_rfl)
          have x5 := not_yetL hW.i5 x2
          have x7 := not_yetL hW.i7 x5
          have lw := hW.low x7
          have hO := hW.r0 x0 x2
          refine wp_append_at (w := z) (.tmp 57) (.tmp 58) 22 rfl Z9.heap.size 41 r0 (.agg #[.string ⟨#[]⟩, .int .i64 0, .string ⟨#[]⟩, .int .i64 0, .int .i64 0, .int .i64 0, .int .i64 0, .int .i64 0, .string ⟨#[]⟩]) 9 96 Try.underlying22 hri hr0 hr1 hr2 rfl (by omega) _ 0 [] e1 hO ⟨g, o, none⟩ len cf (fdCs d.fs) e2 (by rw [fdCs_len, hlen.out]) (fun j u hu => by
            have := news_from (fun j hj i u hu => (lw.cell (p := ⟨g, o + 9 * j + i, none⟩) hgY).trans (hin j hj i u hu)) 0 j u (by simpa using hu)
            simpa using this) (one_cell _) (by unfold maxLen; omega) (by omega) lw.size ?_
          intro v' w' hO' hg' hat
          rw [Nat.zero_add, List.nil_append] at hO'
          exact ⟨_, ⟨γ.h0, γ.h4, v', γ.v5⟩, rfl, fun d _ => rfl, fun j v hj h => Eq.trans h (l8V_2 (by rintro rfl; rw [x2] at hj; cases hj)), hW.step2 x0 x2 x5 x7 hO' hg' hat (F9.out.below (below_own (Nat.le_refl _) lw hO hg')) (by rw [hx]; decide)⟩
        | 3, _ =>
          obtain rfl := Option.some.inj (show some _ = some op from ho)
          have e1 : a.tmps.getD 6 undef = .pointer (some ⟨Fb, 0, none⟩) := (hI.was (by kernel_rfl)).trans rfl
          have hFz : FdB z Fb f := hW.fd
          obtain ⟨c0, c1, c2, c3, c4, c5, c6, c7, c8⟩ := hFz.cells
          go_simp
          exact ⟨_, rfl, γ, rfl, fun j _ => rfl, hW.other (by decide) (by decide) (by decide) (by decide) (by decide)⟩
        | 4, _ =>
          obtain rfl := Option.some.inj (show some _ = some op from ho)
          have e1 : a.tmps.getD 60 undef = fdV f := (hI.val 3 _ 60 rfl rfl (dep_at haf (by kernel_rfl))).trans rfl
          have x4 := getD_false hxi
          have x5 := not_yetL hW.i54 x4
          have x7 := not_yetL hW.i7 x5
          have W' := hW.step4 x4 x5 x7 (by rw [hx]; decide)
          go_simp
          simp only [← Array.getD_eq_getD_getElem?, e1]
          go_simp
          exact ⟨_, rfl, ⟨γ.h0, z.heap.size, γ.v2, γ.v5⟩, rfl, fun j hj => l8V_4 (by rintro rfl; have hj := getD_qL hj; rw [x4] at hj; cases hj), W'⟩
        | 5, _ =>
          obtain rfl := Option.some.inj (show some _ = some op from ho)
          have e1 : a.tmps.getD 59 undef = γ.v2 := (hI.val 2 _ 59 rfl rfl (dep_at haf (by kernel_rfl))).trans rfl
          have e2 : a.tmps.getD 61 undef = .slice (some ⟨γ.h4, 0, none⟩) 1 1 := (hI.val 4 _ 61 rfl rfl (dep_at haf (by kernel_rfl))).trans rfl
          have x5 := getD_false hxi
          have x2 : x.getD 2 false = true := dep_at haf (by kernel_rfl)
          have x4 : x.getD 4 false = true := dep_at haf (by kernel_rfl)
          have x7 := not_yetL hW.i7 x5
          have lw := hW.low x7
          have hO := hW.r2 x2 x5
          have hb4 := hW.b4 x4 x5
          refine wp_append_at (w := z) (.tmp 59) (.tmp 61) 22 rfl Z9.heap.size 41 r0 (.agg #[.string ⟨#[]⟩, .int .i64 0, .string ⟨#[]⟩, .int .i64 0, .int .i64 0, .int .i64 0, .int .i64 0, .int .i64 0, .string ⟨#[]⟩]) 9 96 Try.underlying22 hri hr0 hr1 hr2 rfl (by omega) _ len (fdCs d.fs) e1 hO ⟨γ.h4, 0, none⟩ 1 1 (fdC f) e2 rfl (World.news_of_block (cs := #[.string (txt f.nm), .int .i64 f.pl, .string (txt f.kd), .int .i64 f.wd, .int .i64 f.sn, .int .i64 f.sd, .int .i64 f.on, .int .i64 f.od, .string (txt f.un)]) (t := 41) (fr := (0, 0)) hb4.1) (by simp [Value.oneCell', fdC]) (by unfold maxLen; omega) (by omega) lw.size ?_
          intro v' w' hO' hg' hat
          exact ⟨_, ⟨γ.h0, γ.h4, γ.v2, v'⟩, rfl, fun d _ => rfl, fun j v hj h => Eq.trans h (l8V_5 (by rintro rfl; rw [x5] at hj; cases hj)), hW.step5 x2 x4 x5 x7 hO' hg' (F9.out.below (below_own (Nat.le_refl _) lw hO hg')) (by rw [hx]; decide)⟩
        | 6, _ =>
          obtain rfl := Option.some.inj (show some _ = some op from ho)
          have e1 : a.tmps.getD 2 undef = .pointer (some ⟨w.heap.size, 0, none⟩) := (hI.was (by kernel_rfl)).trans rfl
          go_simp
          exact ⟨_, rfl, γ, rfl, fun j _ => rfl, hW.other (by decide) (by decide) (by decide) (by decide) (by decide)⟩
        | 7, _ =>
          obtain rfl := Option.some.inj (show some _ = some op from ho)
          have e1 : a.tmps.getD 63 undef = .pointer (some ⟨w.heap.size, 6, none⟩) := (hI.val 6 _ 63 rfl rfl (dep_at haf (by kernel_rfl))).trans rfl
          have x7 := getD_false hxi
          have x5 : x.getD 5 false = true := dep_at haf (by kernel_rfl)
          have lw := hW.low x7
          have hO := hW.r5 x5 x7
          have Dz := D9.out.below lw
          have fc1 := Dz.cells.2.2.2.2.2.2.1
          have fc2 := Dz.frozen 6
          have e2 : a.tmps.getD 62 undef = γ.v5 := (hI.val 5 _ 62 rfl rfl x5).trans rfl
          obtain ⟨pv, cv, hv5⟩ : ∃ p c, γ.v5 = .slice p (len + 1) c := by
            rcases own_slice hO with ⟨_, hn⟩ | ⟨gg, cp, e, _⟩
            · omega
            · exact ⟨_, _, e⟩
          have W' := hW.step7 (b0 := w.heap.size) x5 x7 (by have := hbF.out; omega) (by rw [hx]; decide)
          rw [hv5] at e2 W'
          go_simp
          exact ⟨γ, fun j _ => rfl, W'⟩
      · intro γ x a z hx hall hI hW
        obtain ⟨y, hb, hO, rfl⟩ := hW.fin (hall 7 (by decide))
        have e8 : fdCs d.fs ++ fdC f = fdCs (d.fs ++ [f]) := (fdCs_snoc d.fs f).symm
        have l8 : (d.fs ++ [f]).length = len + 1 := by rw [List.length_append, hlen.out]; rfl
        rw [e8, ← l8] at hO
        have V5 := own_fldsV hO
        obtain ⟨p5, c5, hv5⟩ := V5.form
        have lt5 := World.ownsRow.lt hO
        have D10 : Hid (DvO (y.setCell ⟨w.heap.size, 6, none⟩ γ.v5) w.heap.size { d with fs := d.fs ++ [f] } γ.v5 (.slice pq d.rq.length cq)) := by
          have k0 := (D9.out.below hb).put V5 (fun q hq => by have := (lt5 q hq).1; have := D9.out.lt; omega)
          exact k0
        have B10 : Hid (Below w.heap.size w (y.setCell ⟨w.heap.size, 6, none⟩ γ.v5)) := Below.setCell (B9.out.trans (hb.mono B9.out.size)) (Nat.le_refl _) _
        obtain ⟨VV, hV⟩ := hI.slots (by kernel_rfl) hall
        clear hI hW hall hb hO V5 lt5 D9 F9 B9 hin hgY e8 hx
        simp only [putsL, List.setIfInBounds_toArray, List.set_cons_zero, List.set_cons_succ] at hV
        subst hV
        generalize y.setCell ⟨w.heap.size, 6, none⟩ γ.v5 = Z10 at *
        obtain ⟨h0_, h4_, v2_, v5_⟩ := γ
        simp only at hv5 D10
        subst hv5
        obtain ⟨L9, hL9⟩ : ∃ L9, d.fs ++ [f] = L9 := ⟨_, rfl⟩
        rw [hL9] at D10 K9 I9 l8
        clear hL9
        obtain ⟨n9, hn9⟩ : ∃ n9, L9.length = n9 := ⟨_, rfl⟩
        rw [hn9] at D10
        clear l8 hn9
        obtain ⟨E9, hE9⟩ : ∃ E9, ckE { d with fs := L9 } = E9 := ⟨_, rfl⟩
        rw [hE9] at K9
        replace hE9 : Hid (ckE { d with fs := L9 } = E9) := hE9
        obtain ⟨z0, z1, z2, z3, z4, z5, z6, z7, z8, z9, z10, z11⟩ := D10.out.cells
        simp only at z0 z1 z2 z3 z4 z5 z6 z7 z8 z9 z10 z11
        have lo9 : Hid (Calls Try.prog 10 #[.agg #[.string (txt d.nm), .int .i64 d.st, .int .i64 d.es, .int .i64 d.mx, .int .i64 d.sz, .string (txt d.sm), (.slice p5 n9 c5), .slice pq d.rq.length cq, .int .i64 d.po, .int .i64 d.ti, .int .i64 d.re, .int .i64 d.ag]] Z10 fun e w' => ∃ ov, e = .returned (dvV { d with fs := L9 } ov (.slice pq d.rq.length cq)) ∧ FldsV w' ov L9 ∧ Below Z10.heap.size Z10 w') := lof_any { d with fs := L9 } (.slice p5 n9 c5) pq d.rq.length cq Z10 D10.out.fl I9.out.ln
        go_wp2_with fail
        refine lo9.out.mono ?_
        rintro e Z11 ⟨ov9, rfl, hov9, hb⟩
        have ck9 : Hid (Calls Try.prog 9 #[dvV { d with fs := L9 } ov9 (.slice pq d.rq.length cq)] Z11 (QA Z11 E9)) := by
          have k0 := check_any { d with fs := L9 } ov9 (.slice pq d.rq.length cq) Z11 I9.out ⟨pq, cq, rfl⟩ hov9
          rw [hE9.out] at k0
          exact k0
        have B11 : Hid (Below w.heap.size w Z11) := B10.out.trans (hb.mono B10.out.size)
        clear hb lo9 D10 B10 hov9 I9 hE9 z0 z1 z2 z3 z4 z5 z6 z7 z8 z9 z10 z11
        go_wp2_with fail
        refine ck9.out.mono ?_
        rintro e Z12 ⟨rfl, hb⟩
        have B12 : Hid (Below w.heap.size w Z12) := B11.out.trans (hb.mono B11.out.size)
        clear hb ck9 B11
        rcases K9.out with h8 | ⟨hl8, h6⟩
        · subst h8
          clear K9
          go_wp2
          go_ret
          exact ⟨rfl, B12.out⟩
        · subst h6
          have q8 : ((len : Int) == 8) = true := by rw [← hlen.out, hl8]; rfl
          clear K9
          go_wp2
          go_ret
          exact ⟨rfl, B12.out⟩
      · exact L8W.first F9.out
    · exact ⟨fun _ => rfl, fun h => (by simp at h), fun h => (by simp at h), fun h => (by simp at h), fun h => (by simp at h), fun h => (by simp at h), fun h => (by simp at h), fun h => (by simp at h)⟩
end Go.Proofs.Ytllkkgcfhphgmaa
