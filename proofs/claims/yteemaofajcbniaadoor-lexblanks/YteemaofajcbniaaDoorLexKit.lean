/-
  What is wanted of texts and lines where Rows is walked (layer 7). No function of a program is named here. No conditions but those that each says.
-/
import Derived.Maps.AppendAt
import Derived.Laws.Concat
import Derived.Test.YteemaofajcbniaaDoorLexMem
namespace Go.Proofs.YteemaofajcbniaaDoor
open Go.RowKit
set_option linter.unusedVariables false

theorem cell_two_new (w : World) (a b : Value) (t : TypeId) : ∀ j u, [a, b][j]? = some u → (w.alloc (.cells #[a, b] t)).cell? ((⟨w.heap.size, 0, none⟩ : Addr).add j) = some u := by
  intro j u hj
  match j, hj with
  | 0, hj => simp at hj; subst hj; simp [Addr.add]
  | 1, hj => simp at hj; subst hj; simp [Addr.add]
theorem info_st : (Tryd.prog.info? 9).map (fun i => (i.zero, i.size, i.bytes)) = some (some (.string ⟨#[]⟩), 1, 16) := by kernel_rfl
theorem own_one {x : World} {base : Nat} {e : TypeId} {size : Nat} {v : Value} {n : Nat} {xs : List Value} (h : x.ownsRow base e size v n xs) : v.oneCell' = true := by
  rcases own_slice h with ⟨h1, _⟩ | ⟨g, cap, h1, _⟩ <;> rw [h1] <;> rfl
theorem own_row {x : World} {base : Nat} {e : TypeId} {size : Nat} {v : Value} {n : Nat} {xs : List Value} (h : x.ownsRow base e size v n xs) (hn : 0 < n) : ∃ g cap, v = .slice (some ⟨g, 0, none⟩) n cap := by
  rcases own_slice h with ⟨_, h1⟩ | ⟨g, cap, h1, _⟩
  · omega
  · exact ⟨g, cap, h1⟩
theorem str_cell {x : World} {base : Nat} {g cap n : Nat} {ws : List Wd} {w0 : Wd} {r : List Wd} (h : x.ownsRow base 9 1 (.slice (some ⟨g, 0, none⟩) n cap) n (strV ws)) (hn : 0 < n) (hw : ws = w0 :: r) : x.cell? ⟨g, 0, none⟩ = some (.string (txt w0)) := by
  rw [World.ownsRow.cellAt h 0 (by omega), hw]; rfl
theorem str_cell2 {x : World} {base : Nat} {g cap n : Nat} {ws : List Wd} {d w0 : Wd} {r : List Wd} (h : x.ownsRow base 9 1 (.slice (some ⟨g, 0, none⟩) n cap) n (strV ws ++ [.string (txt d)])) (hn : 0 < n) (hw : ws ++ [d] = w0 :: r) : x.cell? ⟨g, 0, none⟩ = some (.string (txt w0)) := by
  have e : strV ws ++ [.string (txt d)] = strV (ws ++ [d]) := by simp
  rw [e] at h
  exact str_cell h hn hw
def WsOk (ws : List Wd) : Prop := ∀ d ∈ ws, ¬ d = []
theorem head_form {ws : List Wd} (h : WsOk ws) (hn : ¬ ws = []) : ∃ c r rest, ws = (c :: r) :: rest := by
  cases ws with
  | nil => exact absurd rfl hn
  | cons d rest =>
    cases d with
    | nil => exact absurd rfl (h [] (by simp))
    | cons c r => exact ⟨c, r, rest, rfl⟩
theorem txt_emp {d : Wd} (h : ¬ d = []) : (txt d).toList.isEmpty = false := by
  rw [ByteArray.toList_eq]
  cases d with
  | nil => exact absurd rfl h
  | cons c r => rfl
theorem txt_ne {d : Wd} (h : ¬ d = []) : ¬ (txt d).toList = [] := by
  intro e
  have := txt_emp h
  rw [e] at this
  cases this
theorem txt_get (c : UInt8) (r : Wd) (h : 0 < (txt (c :: r)).size) : (txt (c :: r))[0] = c := rfl
theorem txt_cat {s : ByteArray} {d : Wd} {k : Nat} (hk : k < s.size) : txt d ++ s.extract k (k + 1) = txt (d ++ [s[k]]) := by
  apply ByteArray.ext
  apply Array.toList_inj.1
  have e : (s.extract k (k + 1)).data.toList = [s[k]] := by
    have h1 : (s.extract k (k + 1)).data = s.data.extract k (k + 1) := by simp
    rw [h1, Array.toList_extract, List.extract_eq_take_drop]
    have hl : k < s.data.toList.length := by simpa using hk
    rw [List.drop_eq_getElem_cons hl]
    rw [show k + 1 - k = 1 by omega]
    simp
    rfl
  rw [ByteArray.data_append, Array.toList_append, e]
  rfl
theorem drop_at {s : ByteArray} {k : Nat} (hk : k < s.size) : s.data.toList.drop k = s[k] :: s.data.toList.drop (k + 1) := by
  have hl : k < s.data.toList.length := by simpa using hk
  rw [List.drop_eq_getElem_cons hl]
  rfl
theorem drop_end (s : ByteArray) : s.data.toList.drop s.size = [] := List.drop_eq_nil_of_le (by simp)
/-- what is left at place k, of a text of n bytes -/
def LeftK (s : ByteArray) (fs : List Dn) (l : Nat) (ws : List Wd) (d : Wd) (k : Nat) (T : Except Nat (List Ln)) : Prop :=
  if k ≤ s.size then LeftL (fs.map (·.1)) l ws d (s.data.toList.drop k) T else T = .ok (fs.map (·.1))
theorem LeftK.at {s : ByteArray} {fs : List Dn} {l : Nat} {ws : List Wd} {d : Wd} {k : Nat} {T : Except Nat (List Ln)} (h : LeftK s fs l ws d k T) (hk : k < s.size) : LeftL (fs.map (·.1)) l ws d (s[k] :: s.data.toList.drop (k + 1)) T := by
  unfold LeftK at h; rw [if_pos (by omega), drop_at hk] at h; exact h
theorem LeftK.end' {s : ByteArray} {fs : List Dn} {l : Nat} {ws : List Wd} {d : Wd} {T : Except Nat (List Ln)} (h : LeftK s fs l ws d s.size T) : T = .ok (fs.map (·.1) ++ closeL l (flushW ws d)) := by
  unfold LeftK at h; rw [if_pos (Nat.le_refl _), drop_end] at h; exact h.fin
theorem LeftK.of {s : ByteArray} {fs : List Dn} {l : Nat} {ws : List Wd} {d : Wd} {k : Nat} {T : Except Nat (List Ln)} (hk : k < s.size) (h : LeftL (fs.map (·.1)) l ws d (s.data.toList.drop (k + 1)) T) : LeftK s fs l ws d (k + 1) T := by
  unfold LeftK; rw [if_pos (by omega)]; exact h
theorem LeftK.past {s : ByteArray} {fs : List Dn} {l : Nat} {ws : List Wd} {d : Wd} {T : Except Nat (List Ln)} (h : T = .ok (fs.map (·.1))) : LeftK s fs l ws d (s.size + 1) T := by
  unfold LeftK; rw [if_neg (by omega)]; exact h
theorem LeftK.out {s : ByteArray} {fs : List Dn} {l : Nat} {ws : List Wd} {d : Wd} {T : Except Nat (List Ln)} (h : LeftK s fs l ws d (s.size + 1) T) : T = .ok (fs.map (·.1)) := by
  unfold LeftK at h; rwa [if_neg (by omega)] at h
theorem close_no {l : Nat} {c : UInt8} {r : Wd} {rest : List Wd} (h : c = 35) : closeL l ((c :: r) :: rest) = [] := by
  subst h; rfl
theorem close_yes {l : Nat} {c : UInt8} {r : Wd} {rest : List Wd} (h : ¬ c = 35) : closeL l ((c :: r) :: rest) = [(l, (c :: r) :: rest)] := by
  unfold closeL countsB
  simp [h]
theorem close_nil (l : Nat) : closeL l [] = [] := rfl
theorem flush_ne {ws : List Wd} {d : Wd} (h : ¬ d = []) : flushW ws d = ws ++ [d] := by unfold flushW; rw [if_neg h]
theorem wsok_snoc {ws : List Wd} {d : Wd} (h : WsOk ws) (hd : ¬ d = []) : WsOk (ws ++ [d]) := by
  intro x hx
  rcases List.mem_append.1 hx with h1 | h1
  · exact h x h1
  · rw [List.mem_singleton.1 h1]; exact hd
theorem u8_ne {c : UInt8} {n : Nat} (hn : n < 256) (h : ¬ c = UInt8.ofNat n) : ¬ (c.toNat : Int) = (n : Int) := by
  intro e
  apply h
  apply UInt8.toNat_inj.1
  rw [UInt8.toNat_ofNat']
  omega
theorem u8_eq {c : UInt8} {n : Nat} (hn : n < 256) (h : (c.toNat : Int) = (n : Int)) : c = UInt8.ofNat n := by
  apply UInt8.toNat_inj.1
  rw [UInt8.toNat_ofNat']
  omega
theorem map_dn (fs : List Dn) (f : Dn) : (fs ++ [f]).map (·.1) = fs.map (·.1) ++ [f.1] := by simp
end Go.Proofs.YteemaofajcbniaaDoor
