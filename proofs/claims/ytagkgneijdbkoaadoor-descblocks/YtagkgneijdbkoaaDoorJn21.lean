/-
  Texts that belong together, one behind the other: LexPL. Conditions: as each says.
-/
import Derived.LoopIn
import Derived.LoopNIn
import Derived.OwnWalkIn
import Derived.RangeFuncBound
import Derived.RangeFuncBox
import Derived.RangeFuncCalls
import Derived.RangeFuncLeaves
import Derived.RangeFuncNested
import Derived.Shelf.Abstract
import Derived.Shelf.RegionOpen
import Derived.TacticsInMore
import Derived.Test.YtagkgneijdbkoaaDoorJn19
import Derived.Test.YtagkgneijdbkoaaDoorJn20
import Derived.WalkKit
/-
  What the program's own lines hands on (layer 7): a text's lines, by their numbers. Conditions: as the contract of a range over a function has them; a text of at most 4000 bytes.
-/
namespace Go.Proofs.YtagkgneijdbkoaaDoor
open Go.RowKit Go.Shelf
set_option linter.unusedVariables false

attribute [local go_sem] Oper.semAt_some

/-- a box lies as it lay -/
def KeepO (a : Nat) (W W' : World) : Prop := W'.heap[a]? = W.heap[a]?
theorem KeepO.refl (a : Nat) (W : World) : KeepO a W W := rfl
theorem KeepO.trans {a : Nat} {U V W : World} (h : KeepO a U V) (k : KeepO a V W) : KeepO a U W := Eq.trans k h
theorem KeepO.put {a : Nat} {w : World} (ha : a < w.heap.size) (W : World) (l : Nat) (o o' : Obj) (hl : w.heap.size ≤ l) : KeepO a W (W.putObj l o') := World.putObj_heap_other (by omega)
theorem finL_take {L k : Nat} (h : k < L) : (List.finRange L).take (k + 1) = (List.finRange L).take k ++ [⟨k, h⟩] := by
  rw [← List.take_append_getElem (by simpa using h)]; simp
theorem grownBy_dn (W : World) (n : Nat) : W.grownBy (W.drewN n) none := ⟨rfl, rfl, rfl, Nat.le_refl _, fun _ _ _ => rfl⟩
/-- what is cut off a text, and its lines -/
theorem cut_lines {s : ByteArray} {r : List Wd} (h : linesL s.data.toList = r) : (lnB s = false ∧ r = [(lnU s).data.toList] ∧ 10 ∉ (lnU s).data.toList) ∨ (lnB s = true ∧ r = (lnU s).data.toList :: linesL (lnV s).data.toList ∧ 10 ∉ (lnU s).data.toList) := by
  rcases nl_ways s with ⟨e, hn⟩ | ⟨i, e, hi, h1, h2⟩
  · left
    have eU : lnU s = s := by unfold lnU; rw [if_pos e]
    have eB : lnB s = false := by unfold lnB; simp [e]
    rw [eU]
    exact ⟨eB, by rw [← h, lines_none _ hn], hn⟩
  · right
    have hne : ¬ Lib.indexByte s.data.toList 10 = -1 := by omega
    have eB : lnB s = true := by unfold lnB; simp [hne]
    have eU : (lnU s).data.toList = s.data.toList.take i := by
      unfold lnU
      rw [if_neg hne, e]
      simp
    have eV : (lnV s).data.toList = s.data.toList.drop (i + 1) := by
      unfold lnV
      rw [if_neg hne, e]
      exact Lib.extract_to_end s (i + 1)
    have hl : i < s.data.toList.length := by have : s.data.toList.length = s.size := by simp
                                             omega
    have es : s.data.toList = s.data.toList.take i ++ 10 :: s.data.toList.drop (i + 1) := by
      have e10 : s.data.toList[i] = 10 := by
        rw [List.getElem?_eq_getElem hl] at h1
        exact Option.some.inj h1
      rw [← e10, List.getElem_cons_drop]
      exact (List.take_append_drop i _).symm
    have hn : (10 : UInt8) ∉ s.data.toList.take i := fun hm => by
      obtain ⟨k, hk⟩ := List.mem_iff_getElem?.1 hm
      have hki : k < i := by
        rcases Nat.lt_or_ge k i with q | q
        · exact q
        · rw [List.getElem?_eq_none (by simp; omega)] at hk; cases hk
      rw [List.getElem?_take_of_lt hki] at hk
      exact h2 k hki hk
    rw [eU, eV]
    refine ⟨eB, ?_, hn⟩
    rw [← h]
    conv => lhs; rw [es]
    exact lines_cut _ _ hn
set_option maxRecDepth 100000 in
set_option maxHeartbeats 4000000 in
theorem lines_mk (w : World) (s : ByteArray) : Calls Tryd.prog 23 #[.string s] w fun e w' =>
    e = .returned (.func (.func 38) #[] #[.pointer (some ⟨w.heap.size, 0, none⟩)]) ∧ w' = w.alloc (.cells #[.string s] 9) := by
  go_enter Tryd.func23, Tryd.ntmps23
  go_wp2
  go_ret
  exact ⟨rfl, rfl⟩
set_option maxRecDepth 100000 in
set_option maxHeartbeats 4000000 in
theorem lines_in0 (F : Fence) (n : Nat) (hf : F.fn 38) (hfc : F.fn 39) (hro : F.round = none) (hn : 1 ≤ n) (cC : Hid (∀ (m : Nat) (u : ByteArray) (x : World), u.size ≤ 4000 → CallsIn F m Tryd.prog 39 #[.string u, .string ⟨#[10]⟩] x fun e w' => e = .returned (.tuple #[.string (lnU u), .string (lnV u), .bool (lnB u)]) ∧ ∃ n, w' = x.drewN n))
    (s : ByteArray) (hs : s.size ≤ 4000) (Ls : List Wd) (hLs : linesL s.data.toList = Ls) (hL4 : Ls.length ≤ 4001) (Bs l : Nat) (J Jx : List (Fin Ls.length) → World → Prop) (W : World) (hJ : AbidesFrom W.heap.size J)
    (hw : W.cell? ⟨Bs, 0, none⟩ = some (.string s))
    (hY : ∀ pre x W1, J pre W1 → pre.length < Ls.length → YieldAt F (n - 1) Tryd.prog l #[.int .i64 ((x.1 + 1 : Nat) : Int), .string (txt Ls[x.1])] W1 fun e W' =>
      (e = .returned (.bool true) ∧ J (pre ++ [x]) W' ∧ KeepO Bs W1 W') ∨ (e = .returned (.bool false) ∧ Jx (pre ++ [x]) W'))
    (h0 : J [] W) :
    CallsIn F n Tryd.prog 38 #[.func (.yield l) #[] #[], .pointer (some ⟨Bs, 0, none⟩)] W fun e W' => (∃ v, e = .returned v) ∧ ((∃ xs, xs = List.finRange Ls.length ∧ J xs W') ∨ (∃ pre, pre <+: List.finRange Ls.length ∧ Jx pre W')) := by
  refine callsIn_of_wp Tryd.func38 rfl hf ?_ hro
  simp only [Tryd.ntmps38, List.size_toArray, List.length_cons, List.length_nil, Nat.reduceAdd, Nat.reduceSub, Array.replicate_succ, Array.replicate_zero, List.push_toArray, List.append_toArray, List.nil_append, List.cons_append]
  gi_wp2
  gi_loopw [3, 4, 5] (fun vr vm vn wr => ∃ (j : Nat) (u : ByteArray) (b : Bool), j ≤ Ls.length ∧ vr = .string u ∧ vm = .bool b ∧ vn = .int .i64 ((j + 1 : Nat) : Int) ∧ u.size ≤ 4000 ∧ (b = true → linesL u.data.toList = Ls.drop j ∧ j < Ls.length) ∧ (b = false → j = Ls.length) ∧ J ((List.finRange Ls.length).take j) wr) (fun _ _ q _ => Ls.length + 1 - (intOf q).toNat)
  case atStart => exact ⟨0, s, true, Nat.zero_le _, rfl, rfl, rfl, hs, fun _ => ⟨by rw [hLs]; rfl, by rw [← hLs]; exact List.length_pos_iff.2 (lines_ne _)⟩, fun h => (by cases h), h0⟩
  case round =>
    obtain ⟨j, u, b, hj, rfl, rfl, rfl, hu, hbt, hbf, hJs⟩ := hrel
    cases b
    · obtain rfl := hbf rfl
      rw [List.take_of_length_le (by simp)] at hJs
      gi_wp2
      go_end0
      exact ⟨⟨_, rfl⟩, .inl hJs⟩
    · obtain ⟨hlu, hlt⟩ := hbt rfl
      clear hbt hbf
      have hsz := cutn_sizes u
      have hcl := cut_lines hlu
      have hcc : Hid (∀ (m : Nat) (x : World), CallsIn F m Tryd.prog 39 #[.string u, .string ⟨#[10]⟩] x fun e w' => e = .returned (.tuple #[.string (lnU u), .string (lnV u), .bool (lnB u)]) ∧ ∃ n, w' = x.drewN n) := fun m x => cC.out m u x hu
      have hLj : txt Ls[j] = lnU u := by
        rw [List.drop_eq_getElem_cons hlt] at hcl
        have e : Ls[j] = (lnU u).data.toList := by
          rcases hcl with ⟨_, e, _⟩ | ⟨_, e, _⟩ <;> exact (List.cons.inj e).1
        rw [e]; exact txt_of _
      have hnext : (lnB u = true → linesL (lnV u).data.toList = Ls.drop (j + 1) ∧ j + 1 < Ls.length) ∧ (lnB u = false → j + 1 = Ls.length) := by
        rw [List.drop_eq_getElem_cons hlt] at hcl
        constructor
        · intro hb
          rcases hcl with ⟨q, _, _⟩ | ⟨_, e, _⟩
          · rw [hb] at q; cases q
          · have e2 := (List.cons.inj e).2
            refine ⟨e2.symm, ?_⟩
            rcases Nat.lt_or_ge (j + 1) Ls.length with q | q
            · exact q
            · rw [List.drop_eq_nil_of_le q] at e2
              exact absurd e2.symm (lines_ne _)
        · intro hb
          rcases hcl with ⟨_, e, _⟩ | ⟨q, _, _⟩
          · have e2 := (List.cons.inj e).2
            have := List.drop_eq_nil_iff.1 e2
            omega
          · rw [hb] at q; cases q
      have hv4 : (lnV u).size ≤ 4000 := by omega
      replace hnext : Hid _ := hnext
      clear hcl hsz hlu hLs hw h0
      generalize lnU u = un at *
      generalize lnV u = vn at *
      generalize lnB u = bn at *
      have hYy : Hid (∀ W1, J ((List.finRange Ls.length).take j) W1 → YieldAt F (n - 1) Tryd.prog l #[.int .i64 ((j + 1 : Nat) : Int), .string un] W1 fun e W' =>
        (e = .returned (.bool true) ∧ J ((List.finRange Ls.length).take (j + 1)) W' ∧ KeepO Bs W1 W') ∨ (e = .returned (.bool false) ∧ Jx ((List.finRange Ls.length).take (j + 1)) W')) := fun W1 h1 => by
        have := hY _ ⟨j, hlt⟩ W1 h1 (by rw [List.length_take, List.length_finRange]; omega)
        rw [← finL_take hlt] at this
        rw [← hLj]
        exact this
      clear hY hLj
      gi_wp2_with (gi_at_call 39; refine (hcc.out _ _).mono ?_; rintro e w' ⟨rfl, nd, rfl⟩)
      clear hcc cC
      obtain ⟨fn, tmps, assign, body, hy, hR⟩ := hYy.out (wr.drewN nd) (hJ _ _ _ none hJs (grownBy_dn wr nd) (fun r e => by cases e))
      clear hYy
      have hj1 : (j : Int) + 1 ≤ 4001 := by omega
      rw [show ((j + 1 : Nat) : Int) = (j : Int) + 1 from by simp] at hy
      gi_wp2
      rw [hy]
      gi_wp2
      refine hR.mono ?_
      rintro e W3 (⟨rfl, hJ3, _⟩ | ⟨rfl, hJx3⟩)
      · gi_wp2
        go_roundw
        case rel => exact ⟨j + 1, vn, bn, by omega, rfl, rfl, by simp, hv4, hnext.out.1, hnext.out.2, hJ3⟩
        case measure => simp [intOf]; omega
      · gi_wp2
        refine bodyPost_ret (results_none rfl _ _ _) rfl ?_
        exact ⟨⟨_, rfl⟩, .inr ⟨_, List.take_prefix _ _, hJx3⟩⟩
theorem lines_stops (n : Nat) (hn : 1 ≤ n) (s : ByteArray) (hs : s.size ≤ 4000) (Ls : List Wd) (hLs : linesL s.data.toList = Ls) (Bs : Nat) (w : World) (hw : Boxed w Bs 9 (.string s)) :
    SeqStopsK Fence.wide n Tryd.prog 38 #[.pointer (some ⟨Bs, 0, none⟩)] (fun x : Fin Ls.length => #[.int .i64 ((x.1 + 1 : Nat) : Int), .string (txt Ls[x.1])]) (KeepO Bs) (fun xs => xs = List.finRange Ls.length) (fun pre => pre <+: List.finRange Ls.length) Ls.length w := fun l J Jx W hbl hJ _ hY h0 =>
  lines_in0 Fence.wide n trivial trivial rfl hn (fun m u x hu => callsIn_wide.2 (scutn_any u x (by unfold maxLen; omega))) s hs Ls hLs (by have h1 := lines_len s.data.toList; rw [show s.data.toList.length = s.size from by simp] at h1; rw [← hLs]; omega) Bs l J Jx W hJ ((hbl.cell (p := ⟨Bs, 0, none⟩) hw.lt).trans hw.cell) hY h0
end Go.Proofs.YtagkgneijdbkoaaDoor
