/-
  Texts that belong together, one behind the other: UnRef. Conditions: as each says.
-/
import Derived.BigRegion
import Derived.Deep.QuietTactic
import Derived.Great.BuildSlice
import Derived.Laws.Tables
import Derived.Test.YtllkkgcfhphgmaaJs7
import Derived.WalkKit
/-
  What the document's own Find returns, called with any text: the row of that name. No conditions.
-/
namespace Go.Proofs.Ytllkkgcfhphgmaa
open Go.RowKit
set_option linter.unusedVariables false

def namesA : Array Value := (tab.map (fun u => Value.string u.nm)).toArray
def codesA : Array Value := (tab.map (fun u => Value.int .i64 u.code)).toArray
def dimsA : Array Value := (tab.flatMap (fun u => [.int .i64 u.m, .int .i64 u.l, .int .i64 u.t, .int .i64 u.k])).toArray
def numsA : Array Value := (tab.flatMap (fun u => [.int .i64 u.fn, .int .i64 u.fd, .int .i64 u.on, .int .i64 u.od])).toArray


set_option maxRecDepth 100000 in
theorem names_at : ∀ (k : Nat) (h : k < tab.length), namesA[k]? = some (.string tab[k].nm)
  | 0, _ => by kernel_rfl
  | 1, _ => by kernel_rfl
  | 2, _ => by kernel_rfl
  | 3, _ => by kernel_rfl
  | 4, _ => by kernel_rfl
  | 5, _ => by kernel_rfl
  | 6, _ => by kernel_rfl
  | 7, _ => by kernel_rfl
  | 8, _ => by kernel_rfl
  | 9, _ => by kernel_rfl
  | 10, _ => by kernel_rfl
  | 11, _ => by kernel_rfl
  | 12, _ => by kernel_rfl
  | 13, _ => by kernel_rfl
  | 14, _ => by kernel_rfl
  | 15, _ => by kernel_rfl
  | 16, _ => by kernel_rfl
  | 17, _ => by kernel_rfl
  | 18, _ => by kernel_rfl
  | 19, _ => by kernel_rfl
  | 20, _ => by kernel_rfl
  | 21, _ => by kernel_rfl
  | 22, _ => by kernel_rfl
  | 23, _ => by kernel_rfl
  | 24, _ => by kernel_rfl
  | k + 25, h => by exfalso; have := tab_len; omega
set_option maxRecDepth 100000 in
theorem codes_at : ∀ (k : Nat) (h : k < tab.length), codesA[k]? = some (.int .i64 tab[k].code)
  | 0, _ => by kernel_rfl
  | 1, _ => by kernel_rfl
  | 2, _ => by kernel_rfl
  | 3, _ => by kernel_rfl
  | 4, _ => by kernel_rfl
  | 5, _ => by kernel_rfl
  | 6, _ => by kernel_rfl
  | 7, _ => by kernel_rfl
  | 8, _ => by kernel_rfl
  | 9, _ => by kernel_rfl
  | 10, _ => by kernel_rfl
  | 11, _ => by kernel_rfl
  | 12, _ => by kernel_rfl
  | 13, _ => by kernel_rfl
  | 14, _ => by kernel_rfl
  | 15, _ => by kernel_rfl
  | 16, _ => by kernel_rfl
  | 17, _ => by kernel_rfl
  | 18, _ => by kernel_rfl
  | 19, _ => by kernel_rfl
  | 20, _ => by kernel_rfl
  | 21, _ => by kernel_rfl
  | 22, _ => by kernel_rfl
  | 23, _ => by kernel_rfl
  | 24, _ => by kernel_rfl
  | k + 25, h => by exfalso; have := tab_len; omega
set_option maxRecDepth 100000 in
theorem dims_at : ∀ (k : Nat) (h : k < tab.length), dimsA[k * 4]? = some (.int .i64 tab[k].m) ∧ dimsA[k * 4 + 1]? = some (.int .i64 tab[k].l) ∧ dimsA[k * 4 + 2]? = some (.int .i64 tab[k].t) ∧ dimsA[k * 4 + 3]? = some (.int .i64 tab[k].k)
  | 0, _ => ⟨by kernel_rfl, by kernel_rfl, by kernel_rfl, by kernel_rfl⟩
  | 1, _ => ⟨by kernel_rfl, by kernel_rfl, by kernel_rfl, by kernel_rfl⟩
  | 2, _ => ⟨by kernel_rfl, by kernel_rfl, by kernel_rfl, by kernel_rfl⟩
  | 3, _ => ⟨by kernel_rfl, by kernel_rfl, by kernel_rfl, by kernel_rfl⟩
  | 4, _ => ⟨by kernel_rfl, by kernel_rfl, by kernel_rfl, by kernel_rfl⟩
  | 5, _ => ⟨by kernel_rfl, by kernel_rfl, by kernel_rfl, by kernel_rfl⟩
  | 6, _ => ⟨by kernel_rfl, by kernel_rfl, by kernel_rfl, by kernel_rfl⟩
  | 7, _ => ⟨by kernel_rfl, by kernel_rfl, by kernel_rfl, by kernel_rfl⟩
  | 8, _ => ⟨by kernel_rfl, by kernel_rfl, by kernel_rfl, by kernel_rfl⟩
  | 9, _ => ⟨by kernel_rfl, by kernel_rfl, by kernel_rfl, by kernel_rfl⟩
  | 10, _ => ⟨by kernel_rfl, by kernel_rfl, by kernel_rfl, by kernel_rfl⟩
  | 11, _ => ⟨by kernel_rfl, by kernel_rfl, by kernel_rfl, by kernel_rfl⟩
  | 12, _ => ⟨by kernel_rfl, by kernel_rfl, by kernel_rfl, by kernel_rfl⟩
  | 13, _ => ⟨by kernel_rfl, by kernel_rfl, by kernel_rfl, by kernel_rfl⟩
  | 14, _ => ⟨by kernel_rfl, by kernel_rfl, by kernel_rfl, by kernel_rfl⟩
  | 15, _ => ⟨by kernel_rfl, by kernel_rfl, by kernel_rfl, by kernel_rfl⟩
  | 16, _ => ⟨by kernel_rfl, by kernel_rfl, by kernel_rfl, by kernel_rfl⟩
  | 17, _ => ⟨by kernel_rfl, by kernel_rfl, by kernel_rfl, by kernel_rfl⟩
  | 18, _ => ⟨by kernel_rfl, by kernel_rfl, by kernel_rfl, by kernel_rfl⟩
  | 19, _ => ⟨by kernel_rfl, by kernel_rfl, by kernel_rfl, by kernel_rfl⟩
  | 20, _ => ⟨by kernel_rfl, by kernel_rfl, by kernel_rfl, by kernel_rfl⟩
  | 21, _ => ⟨by kernel_rfl, by kernel_rfl, by kernel_rfl, by kernel_rfl⟩
  | 22, _ => ⟨by kernel_rfl, by kernel_rfl, by kernel_rfl, by kernel_rfl⟩
  | 23, _ => ⟨by kernel_rfl, by kernel_rfl, by kernel_rfl, by kernel_rfl⟩
  | 24, _ => ⟨by kernel_rfl, by kernel_rfl, by kernel_rfl, by kernel_rfl⟩
  | k + 25, h => by exfalso; have := tab_len; omega
set_option maxRecDepth 100000 in
theorem nums_at : ∀ (k : Nat) (h : k < tab.length), numsA[k * 4]? = some (.int .i64 tab[k].fn) ∧ numsA[k * 4 + 1]? = some (.int .i64 tab[k].fd) ∧ numsA[k * 4 + 2]? = some (.int .i64 tab[k].on) ∧ numsA[k * 4 + 3]? = some (.int .i64 tab[k].od)
  | 0, _ => ⟨by kernel_rfl, by kernel_rfl, by kernel_rfl, by kernel_rfl⟩
  | 1, _ => ⟨by kernel_rfl, by kernel_rfl, by kernel_rfl, by kernel_rfl⟩
  | 2, _ => ⟨by kernel_rfl, by kernel_rfl, by kernel_rfl, by kernel_rfl⟩
  | 3, _ => ⟨by kernel_rfl, by kernel_rfl, by kernel_rfl, by kernel_rfl⟩
  | 4, _ => ⟨by kernel_rfl, by kernel_rfl, by kernel_rfl, by kernel_rfl⟩
  | 5, _ => ⟨by kernel_rfl, by kernel_rfl, by kernel_rfl, by kernel_rfl⟩
  | 6, _ => ⟨by kernel_rfl, by kernel_rfl, by kernel_rfl, by kernel_rfl⟩
  | 7, _ => ⟨by kernel_rfl, by kernel_rfl, by kernel_rfl, by kernel_rfl⟩
  | 8, _ => ⟨by kernel_rfl, by kernel_rfl, by kernel_rfl, by kernel_rfl⟩
  | 9, _ => ⟨by kernel_rfl, by kernel_rfl, by kernel_rfl, by kernel_rfl⟩
  | 10, _ => ⟨by kernel_rfl, by kernel_rfl, by kernel_rfl, by kernel_rfl⟩
  | 11, _ => ⟨by kernel_rfl, by kernel_rfl, by kernel_rfl, by kernel_rfl⟩
  | 12, _ => ⟨by kernel_rfl, by kernel_rfl, by kernel_rfl, by kernel_rfl⟩
  | 13, _ => ⟨by kernel_rfl, by kernel_rfl, by kernel_rfl, by kernel_rfl⟩
  | 14, _ => ⟨by kernel_rfl, by kernel_rfl, by kernel_rfl, by kernel_rfl⟩
  | 15, _ => ⟨by kernel_rfl, by kernel_rfl, by kernel_rfl, by kernel_rfl⟩
  | 16, _ => ⟨by kernel_rfl, by kernel_rfl, by kernel_rfl, by kernel_rfl⟩
  | 17, _ => ⟨by kernel_rfl, by kernel_rfl, by kernel_rfl, by kernel_rfl⟩
  | 18, _ => ⟨by kernel_rfl, by kernel_rfl, by kernel_rfl, by kernel_rfl⟩
  | 19, _ => ⟨by kernel_rfl, by kernel_rfl, by kernel_rfl, by kernel_rfl⟩
  | 20, _ => ⟨by kernel_rfl, by kernel_rfl, by kernel_rfl, by kernel_rfl⟩
  | 21, _ => ⟨by kernel_rfl, by kernel_rfl, by kernel_rfl, by kernel_rfl⟩
  | 22, _ => ⟨by kernel_rfl, by kernel_rfl, by kernel_rfl, by kernel_rfl⟩
  | 23, _ => ⟨by kernel_rfl, by kernel_rfl, by kernel_rfl, by kernel_rfl⟩
  | 24, _ => ⟨by kernel_rfl, by kernel_rfl, by kernel_rfl, by kernel_rfl⟩
  | k + 25, h => by exfalso; have := tab_len; omega

/-- the world behind the four lists -/
def refW (w : World) : World := ((((w.alloc (.cells #[.string ⟨#[]⟩, .int .i64 0, .int .i64 0, .int .i64 0, .int .i64 0, .int .i64 0, .int .i64 0, .int .i64 0, .int .i64 0, .int .i64 0] 69)).alloc (.cells namesA 9)).alloc (.cells dimsA 67)).alloc (.cells numsA 98)).alloc (.cells codesA 3)
theorem wp_at {P : Program} {Q : Exit → Act → World → Prop} {c : Code} {a : Act} {w w' : World} (h : w = w') (k : c.wp P Q a w') : c.wp P Q a w := h ▸ k

set_option maxRecDepth 100000 in
set_option maxHeartbeats 4000000 in
theorem rfind_any (s : ByteArray) (w : World) :
    Calls Try.prog 42 #[.string s] w fun e w' => e = .returned (.tuple #[encU (atU s), .bool (isU s)]) ∧ Below w.heap.size w w' := by
  go_enter Try.func42, Try.ntmps42
  go_wp2
  refine wp_at (w' := refW w) (by kernel_rfl) ?_
  unfold refW
  go_loop [8] (fun i => ∃ k : Nat, i = .int .i64 (k : Int) ∧ k ≤ 25 ∧ Hid (∀ j (h : j < tab.length), j < k → tab[j].nm ≠ s)) (fun i => 25 - (intOf i).toNat)
  case atStart => exact ⟨0, rfl, by omega, fun j h hj => by omega⟩
  case round =>
    obtain ⟨k, rfl, hk, hno⟩ := hrel
    by_cases hlt : (k : Int) < 25
    · have hkl : k < tab.length := by rw [tab_len]; omega
      have hnm := names_at k hkl
      have hcd := codes_at k hkl
      obtain ⟨d0, d1, d2, d3⟩ := dims_at k hkl
      obtain ⟨n0, n1, n2, n3⟩ := nums_at k hkl
      have hyes : Hid (tab[k].nm = s → isU s = true ∧ atU s = tab[k]) := fun h => atU_first (pre := tab.take k) (rest := tab.drop (k + 1)) (by rw [← List.drop_eq_getElem_cons, List.take_append_drop]) (fun x hx => by
        obtain ⟨j, hj, rfl⟩ := List.mem_iff_getElem.1 hx
        rw [List.length_take] at hj
        rw [List.getElem_take]
        exact hno.out j (by omega) (by omega)) h
      have hnext : Hid (tab[k].nm ≠ s → ∀ j (h : j < tab.length), j < k + 1 → tab[j].nm ≠ s) := fun h j hj hjk => by
        by_cases e : j = k
        · subst e; exact h
        · exact hno.out j hj (by omega)
      clear hno
      generalize tab[k] = u at *
      clear hkl
      obtain ⟨nm, um, ul, ut, uk, fn, fd, on, od, code⟩ := u
      simp only at hnm hcd d0 d1 d2 d3 n0 n1 n2 n3 hyes hnext
      by_cases hs : nm = s
      · have hq := nm_yes hs
        have Y : Hid (isU s = true ∧ atU s = ⟨s, um, ul, ut, uk, fn, fd, on, od, code⟩) := by
          have := hyes.out hs
          rw [hs] at this
          exact this
        clear hs hyes hnext
        go_wp2
        go_region
        go_wp2
        go_returns
        exact ⟨by rw [Y.out.1, Y.out.2], by go_grown⟩
      · have hq := nm_no hs
        have hn2 : Hid (∀ j (h : j < tab.length), j < k + 1 → tab[j].nm ≠ s) := hnext.out hs
        clear hs hyes hnext
        go_wp2
        exact ⟨⟨k + 1, by simp, by omega, hn2⟩, by simp [intOf]; omega⟩
    · obtain rfl : k = 25 := by omega
      have hz : Hid (isU s = false ∧ atU s = noU) := isU_not (s := s) (fun u hu => by
        obtain ⟨j, hj, rfl⟩ := List.mem_iff_getElem.1 hu
        exact hno.out j hj (by rw [tab_len] at hj; exact hj))
      clear hno
      go_wp2
      go_returns
      exact ⟨by rw [hz.out.1, hz.out.2]; rfl, by go_grown⟩
end Go.Proofs.Ytllkkgcfhphgmaa
