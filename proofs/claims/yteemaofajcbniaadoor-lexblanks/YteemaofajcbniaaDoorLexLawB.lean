/-
  The ways through the law on two texts, a line end between (layer 7), out of the contract. Conditions: as each says.
-/
import Derived.Laws.Concat
import Derived.Test.YteemaofajcbniaaDoorLexLawA
namespace Go.Proofs.YteemaofajcbniaaDoor
open Go.RowKit
set_option linter.unusedVariables false

/-- lines that a law copies: the words' slices are those that were there -/
structure MkSt (w x : World) (vm : Value) (fs : List Dn) : Prop where
  ro : x.ownsRow w.heap.size 41 2 vm fs.length (dnC fs)
  st : ∀ f ∈ fs, StrsAt w f.2 f.1.2
  b : Below w.heap.size w x
theorem MkSt.first (w : World) : MkSt w w (.slice none 0 0) [] := ⟨World.ownsRow_nil _ _ _ _, (fun f hf => by cases hf), Below.refl _ _⟩
theorem MkSt.add {w x y : World} {vm v' : Value} {fs : List Dn} (h : x.ownsRow w.heap.size 41 2 vm fs.length (dnC fs)) (hs : ∀ f ∈ fs, StrsAt w f.2 f.1.2) (b : Below w.heap.size w x) (f : Dn) (hf : StrsAt w f.2 f.1.2) (hown : y.ownsRow w.heap.size 41 2 v' (fs.length + 1) (dnC fs ++ [.int .i64 (f.1.1 : Int), f.2])) (hg : x.grownBy y vm.ownBlock) : MkSt w y v' (fs ++ [f]) := by
  refine ⟨?_, ?_, b.grown hg b.size (fun k e => (World.ownsRow.lt h k e).1)⟩
  · rw [List.length_append, List.length_singleton, dnC_snoc]; exact hown
  · intro q hq
    rcases List.mem_append.1 hq with hq | hq
    · exact hs q hq
    · rw [List.mem_singleton.1 hq]; exact hf
theorem MkSt.rows {w x : World} {vm : Value} {fs : List Dn} (h : MkSt w x vm fs) : RowsAt x vm (fs.map (·.1)) := by
  rcases own_slice h.ro with ⟨h1, h2⟩ | ⟨g, cap, h1, h2, h3⟩
  · exact .inl ⟨h1, by rw [List.length_eq_zero_iff.1 h2]; rfl⟩
  · refine .inr ⟨g, 0, cap, by rw [List.length_map]; exact h1, ?_, h3⟩
    intro j hj
    have hj' : j < fs.length := by rwa [List.length_map] at hj
    have k := h.ro
    rw [h1] at k
    obtain ⟨c1, c2⟩ := dnC_get hj'
    rw [List.getElem_map]
    refine ⟨?_, fs[j].2, ?_, (h.st _ (List.getElem_mem hj')).below h.b⟩
    · rw [Nat.zero_add, World.ownsRow.cellAt k _ (by omega)]; exact c1
    · rw [Nat.zero_add, World.ownsRow.cellAt k _ (by omega)]; exact c2
/-- line i of a slice of lines, as it is seen later on -/
theorem row_later {w x : World} {g o c n : Nat} {rs : List Ln} (h : RowsAt w (.slice (some ⟨g, o, none⟩) n c) rs) (hl : rs.length = n) (ok : RowsOk rs) (hb : Below w.heap.size w x) {i : Nat} (hi : i < rs.length) :
    ∃ gu ou cu, x.cell? ⟨g, o + i * 2, none⟩ = some (.int .i64 (rs[i].1 : Int)) ∧ x.cell? ⟨g, o + i * 2 + 1, none⟩ = some (.slice (some ⟨gu, ou, none⟩) rs[i].2.length cu) ∧ StrsAt w (.slice (some ⟨gu, ou, none⟩) rs[i].2.length cu) rs[i].2 := by
  rcases h with ⟨h1, _⟩ | ⟨g', o', c', h1, h2, h3⟩
  · cases h1
  · cases h1
    obtain ⟨q1, u, q2, q3⟩ := h2 i hi
    have q3' := q3
    obtain ⟨gu, ou, cu, rfl, _⟩ := strs_row q3 (ok _ (List.getElem_mem hi))
    rw [Nat.mul_comm 2 i] at q1 q2
    exact ⟨gu, ou, cu, (hb.cell (p := ⟨g, o + i * 2, none⟩) h3).trans q1, (hb.cell (p := ⟨g, o + i * 2 + 1, none⟩) h3).trans q2, q3'⟩
theorem info_rr : (Tryd.prog.info? 41).map (fun i => (i.zero, i.size, i.bytes)) = some (some (.agg #[.int .i64 0, .slice none 0 0]), 2, 32) := by kernel_rfl
theorem RowsAt.form2 {x : World} {v : Value} {rs : List Ln} {n : Nat} (h : RowsAt x v rs) (hn : rs.length = n) : (v = .slice none 0 0 ∧ n = 0) ∨ ∃ g o cap, v = .slice (some ⟨g, o, none⟩) n cap := by
  subst hn
  rcases h with ⟨h1, h2⟩ | ⟨g, o, cap, h1, _⟩
  · exact .inl ⟨h1, by rw [h2]; rfl⟩
  · exact .inr ⟨g, o, cap, h1⟩
/-- what a slice of no lines looks like -/
def NoRows (v : Value) : Prop := v = .slice none 0 0 ∨ ∃ g o cap, v = .slice (some ⟨g, o, none⟩) 0 cap
def RoNo (w : World) (s : ByteArray) (L E : Int) : Prop := ∀ x, Below w.heap.size w x → Calls Tryd.prog 8 #[.string s] x fun e w' => ∃ v, e = .returned (.tuple #[v, .int .i64 L, .int .i64 E]) ∧ NoRows v ∧ Below x.heap.size x w'
theorem roNo {w : World} {s : ByteArray} {L E : Int} (h : RoC w s L E []) : RoNo w s L E := fun x hx => (h x hx).mono fun e w' ⟨v, he, hv, hb⟩ => by
  refine ⟨v, he, ?_, hb⟩
  rcases hv with ⟨q, _⟩ | ⟨g, o, cap, q, _⟩
  · exact .inl q
  · exact .inr ⟨g, o, cap, q⟩

theorem cell_two_at (x : World) (a b : Value) (t : TypeId) (n : Nat) (hn : n = x.heap.size) : ∀ j u, [a, b][j]? = some u → (x.alloc (.cells #[a, b] t)).cell? ((⟨n, 0, none⟩ : Addr).add j) = some u := by
  subst hn; exact cell_two_new x a b t
set_option maxRecDepth 100000 in
set_option maxHeartbeats 4000000 in
theorem lparts_e (w : World) (s t : ByteArray) (hs : (s.size : Int) ≤ 1900) (ht : (t.size : Int) ≤ 1900) (N M K F : Int) (RA RB : List Ln) (aw : AwC7 w) (ca : RoC w s N 6 RA) (cb : RoC w t M F RB) (cc : RoNo w (s ++ ⟨#[10]⟩ ++ t) N 6) :
    Calls Tryd.prog 6 #[.string s, .string t] w fun e w' => e = .returned (.bool true) ∧ Below w.heap.size w w' := by
  have a1 : ∀ x : World, (Op.stringOp .add s ⟨#[10]⟩).run Tryd.prog x = .ok (.string (s ++ ⟨#[10]⟩)) x := fun x => run_string_add_sum x s ⟨#[10]⟩ (by have : (⟨#[10]⟩ : ByteArray).size = 1 := rfl; omega)
  have a2 : ∀ x : World, (Op.stringOp .add (s ++ ⟨#[10]⟩) t).run Tryd.prog x = .ok (.string (s ++ ⟨#[10]⟩ ++ t)) x := fun x => run_string_add_sum x _ t (by rw [ByteArray.size_append]; have : (⟨#[10]⟩ : ByteArray).size = 1 := rfl; omega)
  generalize s ++ ⟨#[10]⟩ = s1 at *
  generalize s1 ++ t = s2 at *
  go_enter Tryd.func6, Tryd.ntmps6
  go_wp2_with fail
  refine (aw _ (Below.refl _ _)).mono ?_
  rintro e w1 ⟨rfl, hb⟩
  have B : Hid (Below w.heap.size w w1) := hb
  clear hb aw
  go_wp2_with fail
  refine (ca _ B.out).mono ?_
  rintro e w2 ⟨v1, rfl, h1, hb⟩
  replace B : Hid (Below w.heap.size w w2) := belowT B.out hb
  clear hb ca h1
  go_wp2_with fail
  refine (cb _ B.out).mono ?_
  rintro e w3 ⟨v2, rfl, h2, hb⟩
  replace B : Hid (Below w.heap.size w w3) := belowT B.out hb
  clear hb cb h2
  go_wp2_with fail
  refine (cc _ B.out).mono ?_
  rintro e w4 ⟨v3, rfl, h3, hb⟩
  replace B : Hid (Below w.heap.size w w4) := belowT B.out hb
  clear hb cc
  rcases h3 with rfl | ⟨g3, o3, c3, rfl⟩
  all_goals
    go_wp2
    go_ret
    exact ⟨rfl, B.out⟩

set_option maxRecDepth 100000 in
set_option maxHeartbeats 4000000 in
theorem lparts_f (w : World) (s t : ByteArray) (hs : (s.size : Int) ≤ 1900) (ht : (t.size : Int) ≤ 1900) (N M K F : Int) (RA RB : List Ln) (aw : AwC7 w) (ca : RoC w s N 0 RA) (cb : RoC w t M 6 RB) (cc : RoNo w (s ++ ⟨#[10]⟩ ++ t) K 6) :
    Calls Tryd.prog 6 #[.string s, .string t] w fun e w' => e = .returned (.bool true) ∧ Below w.heap.size w w' := by
  have a1 : ∀ x : World, (Op.stringOp .add s ⟨#[10]⟩).run Tryd.prog x = .ok (.string (s ++ ⟨#[10]⟩)) x := fun x => run_string_add_sum x s ⟨#[10]⟩ (by have : (⟨#[10]⟩ : ByteArray).size = 1 := rfl; omega)
  have a2 : ∀ x : World, (Op.stringOp .add (s ++ ⟨#[10]⟩) t).run Tryd.prog x = .ok (.string (s ++ ⟨#[10]⟩ ++ t)) x := fun x => run_string_add_sum x _ t (by rw [ByteArray.size_append]; have : (⟨#[10]⟩ : ByteArray).size = 1 := rfl; omega)
  generalize s ++ ⟨#[10]⟩ = s1 at *
  generalize s1 ++ t = s2 at *
  go_enter Tryd.func6, Tryd.ntmps6
  go_wp2_with fail
  refine (aw _ (Below.refl _ _)).mono ?_
  rintro e w1 ⟨rfl, hb⟩
  have B : Hid (Below w.heap.size w w1) := hb
  clear hb aw
  go_wp2_with fail
  refine (ca _ B.out).mono ?_
  rintro e w2 ⟨v1, rfl, h1, hb⟩
  replace B : Hid (Below w.heap.size w w2) := belowT B.out hb
  clear hb ca h1
  go_wp2_with fail
  refine (cb _ B.out).mono ?_
  rintro e w3 ⟨v2, rfl, h2, hb⟩
  replace B : Hid (Below w.heap.size w w3) := belowT B.out hb
  clear hb cb h2
  go_wp2_with fail
  refine (cc _ B.out).mono ?_
  rintro e w4 ⟨v3, rfl, h3, hb⟩
  replace B : Hid (Below w.heap.size w w4) := belowT B.out hb
  clear hb cc
  rcases h3 with rfl | ⟨g3, o3, c3, rfl⟩
  all_goals
    go_wp2
    go_ret
    exact ⟨rfl, B.out⟩

set_option maxRecDepth 100000 in
set_option maxHeartbeats 4000000 in
theorem lparts_ok0 (w : World) (s t : ByteArray) (hs : (s.size : Int) ≤ 1900) (ht : (t.size : Int) ≤ 1900) (n1 n2 : Nat) (hn1 : (n1 : Int) ≤ 4100) (hn2 : (n2 : Int) ≤ 4100) (RA RB RC : List Ln) (HA : Hid (RA.length = n1 ∧ RB.length = n2)) (HK : Hid (RowsOk RA ∧ RowsOk RB)) (aw : AwC7 w) (ca : RoC w s 0 0 RA) (cb : RoC w t 0 0 RB) (cc : RoC w (s ++ ⟨#[10]⟩ ++ t) 0 0 RC) (cs : SaC false RC (RA ++ RB)) :
    Calls Tryd.prog 6 #[.string s, .string t] w fun e w' => e = .returned (.bool true) ∧ Below w.heap.size w w' := by
  obtain ⟨r0, hri, hr0, hr1, hr2⟩ := info_parts info_rr
  have a1 : ∀ x : World, (Op.stringOp .add s ⟨#[10]⟩).run Tryd.prog x = .ok (.string (s ++ ⟨#[10]⟩)) x := fun x => run_string_add_sum x s ⟨#[10]⟩ (by have : (⟨#[10]⟩ : ByteArray).size = 1 := rfl; omega)
  have a2 : ∀ x : World, (Op.stringOp .add (s ++ ⟨#[10]⟩) t).run Tryd.prog x = .ok (.string (s ++ ⟨#[10]⟩ ++ t)) x := fun x => run_string_add_sum x _ t (by rw [ByteArray.size_append]; have : (⟨#[10]⟩ : ByteArray).size = 1 := rfl; omega)
  generalize s ++ ⟨#[10]⟩ = s1 at *
  generalize s1 ++ t = s2 at *
  go_enter Tryd.func6, Tryd.ntmps6
  go_wp2_with fail
  refine (aw _ (Below.refl _ _)).mono ?_
  rintro e w1 ⟨rfl, hb⟩
  have B : Hid (Below w.heap.size w w1) := hb
  clear hb aw
  go_wp2_with fail
  refine (ca _ B.out).mono ?_
  rintro e w2 ⟨v1, rfl, h1, hb⟩
  replace B : Hid (Below w.heap.size w w2) := belowT B.out hb
  have R1 : Hid (RowsAt w2 v1 RA) := h1
  clear hb ca h1
  go_wp2_with fail
  refine (cb _ B.out).mono ?_
  rintro e w3 ⟨v2, rfl, h2, hb⟩
  replace B : Hid (Below w.heap.size w w3) := belowT B.out hb
  replace R1 : Hid (RowsAt w3 v1 RA) := R1.out.below hb
  have R2 : Hid (RowsAt w3 v2 RB) := h2
  clear hb cb h2
  go_wp2_with fail
  refine (cc _ B.out).mono ?_
  rintro e w4 ⟨v3, rfl, h3, hb⟩
  replace B : Hid (Below w.heap.size w w4) := belowT B.out hb
  replace R1 : Hid (RowsAt w4 v1 RA) := R1.out.below hb
  replace R2 : Hid (RowsAt w4 v2 RB) := R2.out.below hb
  have R3 : Hid (RowsAt w4 v3 RC) := h3
  clear hb cc h3
  have F1 := R1.out.form2 HA.out.1
  have F2 := R2.out.form2 HA.out.2
  rcases F1 with ⟨rfl, z1⟩ | ⟨g1, o1, c1, rfl⟩
  · subst z1
    rcases F2 with ⟨rfl, z2⟩ | ⟨g2, o2, c2, rfl⟩
    · subst z2
      go_wp2
      go_loopw [14, 15] (fun vm vi wr => ∃ (i : Nat) (fs : List Dn), (i : Int) ≤ 0 ∧ vi = .int .i64 (i : Int) ∧ Hid (MkSt w4 wr vm fs) ∧ Hid (fs.map (·.1) = (RA ++ RB).take i)) (fun _ vi _ => 0 - (intOf vi).toNat)
      case atStart => exact ⟨0, [], by omega, rfl, MkSt.first _, by unfold Hid; simp⟩
      case round =>
        obtain ⟨i, fs, hi, rfl, st, hfs⟩ := hrel
        obtain rfl : i = 0 := by omega
        have RM : Hid (RowsAt wr u14 (RA ++ RB)) := by
          have k := st.out.rows
          rw [hfs.out, List.take_of_length_le (by rw [List.length_append]; have := HA.out; omega)] at k
          exact k
        have R4 : Hid (RowsAt wr v3 RC) := R3.out.below st.out.b
        have B4 : Hid (Below w.heap.size w wr) := belowT B.out st.out.b
        clear st hfs R1 R2 R3 HA HK B
        go_wp2_with fail
        refine (cs _ _ _ R4.out RM.out).mono ?_
        rintro e w5 ⟨rfl, hb⟩
        replace B4 : Hid (Below w.heap.size w w5) := belowT B4.out hb
        clear hb cs R4 RM
        go_wp2
        go_ret
        exact ⟨rfl, B4.out⟩
    · skip
      go_wp2
      go_loopw [14, 15] (fun vm vi wr => ∃ (i : Nat) (fs : List Dn), (i : Int) ≤ (n2 : Int) ∧ vi = .int .i64 (i : Int) ∧ Hid (MkSt w4 wr vm fs) ∧ Hid (fs.map (·.1) = (RA ++ RB).take i)) (fun _ vi _ => n2 - (intOf vi).toNat)
      case atStart => exact ⟨0, [], by omega, rfl, MkSt.first _, by unfold Hid; simp⟩
      case round =>
        obtain ⟨i, fs, hi, rfl, st, hfs⟩ := hrel
        by_cases hlt : (i : Int) < (n2 : Int)
        · obtain ⟨j, hj⟩ : ∃ j : Nat, j = i := ⟨_, rfl⟩
          subst hj
          obtain ⟨gu, ou, cu, k0, k1, ks⟩ := row_later R2.out HA.out.2 HK.out.2 st.out.b (i := j) (by have := HA.out; omega)
          have nx : Hid ((fs ++ [(RB[j]'(by have := HA.out; omega), Value.slice (some ⟨gu, ou, none⟩) (RB[j]'(by have := HA.out; omega)).2.length cu)]).map (·.1) = (RA ++ RB).take (j + 1)) := by
            unfold Hid
            rw [map_dn, hfs.out, List.take_add_one]
            congr 1
            rw [List.getElem?_append_right (by have := HA.out; omega)]
            rw [show j - RA.length = j by have := HA.out; omega, List.getElem?_eq_getElem (by have := HA.out; omega)]
            rfl
          have fl : fs.length = j := by have h1 : (fs.map (·.1)).length = fs.length := List.length_map _; rw [hfs.out, List.length_take, List.length_append] at h1; have := HA.out; omega
          have hf63 : fs.length + 1 ≤ maxLen := by unfold maxLen; omega
          have hfby : (fs.length + 1) * 32 ≤ 140737488355328 := by omega
          generalize RB[j]'(by have := HA.out; omega) = q at *
          obtain ⟨ql, qw⟩ := q
          replace k1 : wr.cell? ⟨g2, o2 + j * 2 + 1, none⟩ = some (.slice (some ⟨gu, ou, none⟩) qw.length cu) := k1
          replace k0 : wr.cell? ⟨g2, o2 + j * 2, none⟩ = some (.int .i64 (ql : Int)) := k0
          replace ks : Hid (StrsAt w4 (.slice (some ⟨gu, ou, none⟩) qw.length cu) qw) := ks
          replace nx : Hid ((fs ++ [((ql, qw), Value.slice (some ⟨gu, ou, none⟩) qw.length cu)]).map (·.1) = (RA ++ RB).take (j + 1)) := nx
          have lt1 : g2 < wr.heap.size := block_lt_of_cell k0
          generalize qw.length = m at *
          have sb := st.out.b.size
          clear cs
          go_wp2_with (at_builtin; refine wpList_append_own_at _ rfl _ _ 27 rfl w4.heap.size 41 r0 (.agg #[.int .i64 0, .slice none 0 0]) 2 32 Tryd.underlying27 hri hr0 hr1 hr2 rfl (by decide) _ _ _ rfl (World.ownsRow.alloc (World.ownsRow.alloc st.out.ro _) _) ⟨wr.heap.size + 1, 0, none⟩ 1 1 [.int .i64 (ql : Int), .slice (some ⟨gu, ou, none⟩) m cu] rfl rfl (cell_two_at _ _ _ _ _ (by simp)) (by simp [Value.oneCell']) hf63 hfby (by simp; omega) ?_; intro v' y hO gO _ _; have st2 : Hid (MkSt w4 y v' (fs ++ [((ql, qw), .slice (some ⟨gu, ou, none⟩) m cu)])) := MkSt.add (World.ownsRow.alloc (World.ownsRow.alloc st.out.ro _) _) st.out.st ((st.out.b.alloc sb _).alloc (by simp; omega) _) _ ks.out hO gO; clear hO gO)
          exact ⟨⟨j + 1, _, by omega, by simp, st2, nx⟩, by simp [intOf]; omega⟩
        · obtain rfl : i = n2 := by omega
          have RM : Hid (RowsAt wr u14 (RA ++ RB)) := by
            have k := st.out.rows
            rw [hfs.out, List.take_of_length_le (by rw [List.length_append]; have := HA.out; omega)] at k
            exact k
          have R4 : Hid (RowsAt wr v3 RC) := R3.out.below st.out.b
          have B4 : Hid (Below w.heap.size w wr) := belowT B.out st.out.b
          clear st hfs R1 R2 R3 HA HK B
          go_wp2_with fail
          refine (cs _ _ _ R4.out RM.out).mono ?_
          rintro e w5 ⟨rfl, hb⟩
          replace B4 : Hid (Below w.heap.size w w5) := belowT B4.out hb
          clear hb cs R4 RM
          go_wp2
          go_ret
          exact ⟨rfl, B4.out⟩
  · rcases F2 with ⟨rfl, z2⟩ | ⟨g2, o2, c2, rfl⟩
    · subst z2
      go_wp2
      go_loopw [14, 15] (fun vm vi wr => ∃ (i : Nat) (fs : List Dn), (i : Int) ≤ (n1 : Int) ∧ vi = .int .i64 (i : Int) ∧ Hid (MkSt w4 wr vm fs) ∧ Hid (fs.map (·.1) = (RA ++ RB).take i)) (fun _ vi _ => n1 - (intOf vi).toNat)
      case atStart => exact ⟨0, [], by omega, rfl, MkSt.first _, by unfold Hid; simp⟩
      case round =>
        obtain ⟨i, fs, hi, rfl, st, hfs⟩ := hrel
        by_cases hlt : (i : Int) < (n1 : Int)
        · have h1 : (i : Int) < (n1 : Int) := hlt
          obtain ⟨gu, ou, cu, k0, k1, ks⟩ := row_later R1.out HA.out.1 HK.out.1 st.out.b (i := i) (by have := HA.out; omega)
          have nx : Hid ((fs ++ [(RA[i]'(by have := HA.out; omega), Value.slice (some ⟨gu, ou, none⟩) (RA[i]'(by have := HA.out; omega)).2.length cu)]).map (·.1) = (RA ++ RB).take (i + 1)) := by
            unfold Hid
            rw [map_dn, hfs.out, List.take_add_one]
            congr 1
            rw [List.getElem?_append_left (by have := HA.out; omega)]
            rw [List.getElem?_eq_getElem (by have := HA.out; omega)]
            rfl
          have fl : fs.length = i := by have h1 : (fs.map (·.1)).length = fs.length := List.length_map _; rw [hfs.out, List.length_take, List.length_append] at h1; have := HA.out; omega
          have hf63 : fs.length + 1 ≤ maxLen := by unfold maxLen; omega
          have hfby : (fs.length + 1) * 32 ≤ 140737488355328 := by omega
          generalize RA[i]'(by have := HA.out; omega) = q at *
          obtain ⟨ql, qw⟩ := q
          replace k1 : wr.cell? ⟨g1, o1 + i * 2 + 1, none⟩ = some (.slice (some ⟨gu, ou, none⟩) qw.length cu) := k1
          replace k0 : wr.cell? ⟨g1, o1 + i * 2, none⟩ = some (.int .i64 (ql : Int)) := k0
          replace ks : Hid (StrsAt w4 (.slice (some ⟨gu, ou, none⟩) qw.length cu) qw) := ks
          replace nx : Hid ((fs ++ [((ql, qw), Value.slice (some ⟨gu, ou, none⟩) qw.length cu)]).map (·.1) = (RA ++ RB).take (i + 1)) := nx
          have lt1 : g1 < wr.heap.size := block_lt_of_cell k0
          generalize qw.length = m at *
          have sb := st.out.b.size
          clear cs
          go_wp2_with (at_builtin; refine wpList_append_own_at _ rfl _ _ 27 rfl w4.heap.size 41 r0 (.agg #[.int .i64 0, .slice none 0 0]) 2 32 Tryd.underlying27 hri hr0 hr1 hr2 rfl (by decide) _ _ _ rfl (World.ownsRow.alloc (World.ownsRow.alloc st.out.ro _) _) ⟨wr.heap.size + 1, 0, none⟩ 1 1 [.int .i64 (ql : Int), .slice (some ⟨gu, ou, none⟩) m cu] rfl rfl (cell_two_at _ _ _ _ _ (by simp)) (by simp [Value.oneCell']) hf63 hfby (by simp; omega) ?_; intro v' y hO gO _ _; have st2 : Hid (MkSt w4 y v' (fs ++ [((ql, qw), .slice (some ⟨gu, ou, none⟩) m cu)])) := MkSt.add (World.ownsRow.alloc (World.ownsRow.alloc st.out.ro _) _) st.out.st ((st.out.b.alloc sb _).alloc (by simp; omega) _) _ ks.out hO gO; clear hO gO)
          exact ⟨⟨i + 1, _, by omega, by simp, st2, nx⟩, by simp [intOf]; omega⟩
        · obtain rfl : i = n1 := by omega
          have RM : Hid (RowsAt wr u14 (RA ++ RB)) := by
            have k := st.out.rows
            rw [hfs.out, List.take_of_length_le (by rw [List.length_append]; have := HA.out; omega)] at k
            exact k
          have R4 : Hid (RowsAt wr v3 RC) := R3.out.below st.out.b
          have B4 : Hid (Below w.heap.size w wr) := belowT B.out st.out.b
          clear st hfs R1 R2 R3 HA HK B
          go_wp2_with fail
          refine (cs _ _ _ R4.out RM.out).mono ?_
          rintro e w5 ⟨rfl, hb⟩
          replace B4 : Hid (Below w.heap.size w w5) := belowT B4.out hb
          clear hb cs R4 RM
          go_wp2
          go_ret
          exact ⟨rfl, B4.out⟩
    · skip
      go_wp2
      go_loopw [14, 15] (fun vm vi wr => ∃ (i : Nat) (fs : List Dn), (i : Int) ≤ (n1 : Int) + (n2 : Int) ∧ vi = .int .i64 (i : Int) ∧ Hid (MkSt w4 wr vm fs) ∧ Hid (fs.map (·.1) = (RA ++ RB).take i)) (fun _ vi _ => n1 + n2 - (intOf vi).toNat)
      case atStart => exact ⟨0, [], by omega, rfl, MkSt.first _, by unfold Hid; simp⟩
      case round =>
        obtain ⟨i, fs, hi, rfl, st, hfs⟩ := hrel
        by_cases hlt : (i : Int) < (n1 : Int) + (n2 : Int)
        · by_cases h1 : (i : Int) < (n1 : Int)
          · skip
            obtain ⟨gu, ou, cu, k0, k1, ks⟩ := row_later R1.out HA.out.1 HK.out.1 st.out.b (i := i) (by have := HA.out; omega)
            have nx : Hid ((fs ++ [(RA[i]'(by have := HA.out; omega), Value.slice (some ⟨gu, ou, none⟩) (RA[i]'(by have := HA.out; omega)).2.length cu)]).map (·.1) = (RA ++ RB).take (i + 1)) := by
              unfold Hid
              rw [map_dn, hfs.out, List.take_add_one]
              congr 1
              rw [List.getElem?_append_left (by have := HA.out; omega)]
              rw [List.getElem?_eq_getElem (by have := HA.out; omega)]
              rfl
            have fl : fs.length = i := by have h1 : (fs.map (·.1)).length = fs.length := List.length_map _; rw [hfs.out, List.length_take, List.length_append] at h1; have := HA.out; omega
            have hf63 : fs.length + 1 ≤ maxLen := by unfold maxLen; omega
            have hfby : (fs.length + 1) * 32 ≤ 140737488355328 := by omega
            generalize RA[i]'(by have := HA.out; omega) = q at *
            obtain ⟨ql, qw⟩ := q
            replace k1 : wr.cell? ⟨g1, o1 + i * 2 + 1, none⟩ = some (.slice (some ⟨gu, ou, none⟩) qw.length cu) := k1
            replace k0 : wr.cell? ⟨g1, o1 + i * 2, none⟩ = some (.int .i64 (ql : Int)) := k0
            replace ks : Hid (StrsAt w4 (.slice (some ⟨gu, ou, none⟩) qw.length cu) qw) := ks
            replace nx : Hid ((fs ++ [((ql, qw), Value.slice (some ⟨gu, ou, none⟩) qw.length cu)]).map (·.1) = (RA ++ RB).take (i + 1)) := nx
            have lt1 : g1 < wr.heap.size := block_lt_of_cell k0
            generalize qw.length = m at *
            have sb := st.out.b.size
            clear cs
            go_wp2_with (at_builtin; refine wpList_append_own_at _ rfl _ _ 27 rfl w4.heap.size 41 r0 (.agg #[.int .i64 0, .slice none 0 0]) 2 32 Tryd.underlying27 hri hr0 hr1 hr2 rfl (by decide) _ _ _ rfl (World.ownsRow.alloc (World.ownsRow.alloc st.out.ro _) _) ⟨wr.heap.size + 1, 0, none⟩ 1 1 [.int .i64 (ql : Int), .slice (some ⟨gu, ou, none⟩) m cu] rfl rfl (cell_two_at _ _ _ _ _ (by simp)) (by simp [Value.oneCell']) hf63 hfby (by simp; omega) ?_; intro v' y hO gO _ _; have st2 : Hid (MkSt w4 y v' (fs ++ [((ql, qw), .slice (some ⟨gu, ou, none⟩) m cu)])) := MkSt.add (World.ownsRow.alloc (World.ownsRow.alloc st.out.ro _) _) st.out.st ((st.out.b.alloc sb _).alloc (by simp; omega) _) _ ks.out hO gO; clear hO gO)
            exact ⟨⟨i + 1, _, by omega, by simp, st2, nx⟩, by simp [intOf]; omega⟩
          · obtain ⟨j, hj⟩ : ∃ j : Nat, j = i - n1 := ⟨_, rfl⟩
            have hj1 : (i : Int) - (n1 : Int) = (j : Int) := by omega
            have hj2 : (j : Int) < (n2 : Int) := by omega
            have h1' : (n1 : Int) ≤ (i : Int) := by omega
            obtain ⟨gu, ou, cu, k0, k1, ks⟩ := row_later R2.out HA.out.2 HK.out.2 st.out.b (i := j) (by have := HA.out; omega)
            have nx : Hid ((fs ++ [(RB[j]'(by have := HA.out; omega), Value.slice (some ⟨gu, ou, none⟩) (RB[j]'(by have := HA.out; omega)).2.length cu)]).map (·.1) = (RA ++ RB).take (i + 1)) := by
              unfold Hid
              rw [map_dn, hfs.out, List.take_add_one]
              congr 1
              rw [List.getElem?_append_right (by have := HA.out; omega)]
              rw [show i - RA.length = j by have := HA.out; omega, List.getElem?_eq_getElem (by have := HA.out; omega)]
              rfl
            have fl : fs.length = i := by have h1 : (fs.map (·.1)).length = fs.length := List.length_map _; rw [hfs.out, List.length_take, List.length_append] at h1; have := HA.out; omega
            have hf63 : fs.length + 1 ≤ maxLen := by unfold maxLen; omega
            have hfby : (fs.length + 1) * 32 ≤ 140737488355328 := by omega
            generalize RB[j]'(by have := HA.out; omega) = q at *
            obtain ⟨ql, qw⟩ := q
            replace k1 : wr.cell? ⟨g2, o2 + j * 2 + 1, none⟩ = some (.slice (some ⟨gu, ou, none⟩) qw.length cu) := k1
            replace k0 : wr.cell? ⟨g2, o2 + j * 2, none⟩ = some (.int .i64 (ql : Int)) := k0
            replace ks : Hid (StrsAt w4 (.slice (some ⟨gu, ou, none⟩) qw.length cu) qw) := ks
            replace nx : Hid ((fs ++ [((ql, qw), Value.slice (some ⟨gu, ou, none⟩) qw.length cu)]).map (·.1) = (RA ++ RB).take (i + 1)) := nx
            have lt1 : g2 < wr.heap.size := block_lt_of_cell k0
            generalize qw.length = m at *
            have sb := st.out.b.size
            clear cs hj
            go_wp2_with (at_builtin; refine wpList_append_own_at _ rfl _ _ 27 rfl w4.heap.size 41 r0 (.agg #[.int .i64 0, .slice none 0 0]) 2 32 Tryd.underlying27 hri hr0 hr1 hr2 rfl (by decide) _ _ _ rfl (World.ownsRow.alloc (World.ownsRow.alloc st.out.ro _) _) ⟨wr.heap.size + 1, 0, none⟩ 1 1 [.int .i64 (ql : Int), .slice (some ⟨gu, ou, none⟩) m cu] rfl rfl (cell_two_at _ _ _ _ _ (by simp)) (by simp [Value.oneCell']) hf63 hfby (by simp; omega) ?_; intro v' y hO gO _ _; have st2 : Hid (MkSt w4 y v' (fs ++ [((ql, qw), .slice (some ⟨gu, ou, none⟩) m cu)])) := MkSt.add (World.ownsRow.alloc (World.ownsRow.alloc st.out.ro _) _) st.out.st ((st.out.b.alloc sb _).alloc (by simp; omega) _) _ ks.out hO gO; clear hO gO)
            exact ⟨⟨i + 1, _, by omega, by simp, st2, nx⟩, by simp [intOf]; omega⟩
        · obtain rfl : i = n1 + n2 := by omega
          have RM : Hid (RowsAt wr u14 (RA ++ RB)) := by
            have k := st.out.rows
            rw [hfs.out, List.take_of_length_le (by rw [List.length_append]; have := HA.out; omega)] at k
            exact k
          have R4 : Hid (RowsAt wr v3 RC) := R3.out.below st.out.b
          have B4 : Hid (Below w.heap.size w wr) := belowT B.out st.out.b
          clear st hfs R1 R2 R3 HA HK B
          go_wp2_with fail
          refine (cs _ _ _ R4.out RM.out).mono ?_
          rintro e w5 ⟨rfl, hb⟩
          replace B4 : Hid (Below w.heap.size w w5) := belowT B4.out hb
          clear hb cs R4 RM
          go_wp2
          go_ret
          exact ⟨rfl, B4.out⟩

set_option maxRecDepth 100000 in
set_option maxHeartbeats 4000000 in
theorem lparts_ls (w : World) (s t : ByteArray) (hs : 1900 < (s.size : Int)) (aw : AwC7 w) :
    Calls Tryd.prog 6 #[.string s, .string t] w fun e w' => e = .returned (.bool true) ∧ Below w.heap.size w w' := by
  go_enter Tryd.func6, Tryd.ntmps6
  go_wp2_with fail
  refine (aw _ (Below.refl _ _)).mono ?_
  rintro e w1 ⟨rfl, hb⟩
  have B : Hid (Below w.heap.size w w1) := hb
  clear hb
  go_wp2_with fail
  refine (aw _ B.out).mono ?_
  rintro e w2 ⟨rfl, hb⟩
  replace B : Hid (Below w.heap.size w w2) := belowT B.out hb
  clear hb
  go_wp2
  go_ret
  exact ⟨rfl, B.out⟩

set_option maxRecDepth 100000 in
set_option maxHeartbeats 4000000 in
theorem lparts_lt (w : World) (s t : ByteArray) (hs : (s.size : Int) ≤ 1900) (ht : 1900 < (t.size : Int)) (aw : AwC7 w) :
    Calls Tryd.prog 6 #[.string s, .string t] w fun e w' => e = .returned (.bool true) ∧ Below w.heap.size w w' := by
  go_enter Tryd.func6, Tryd.ntmps6
  go_wp2_with fail
  refine (aw _ (Below.refl _ _)).mono ?_
  rintro e w1 ⟨rfl, hb⟩
  have B : Hid (Below w.heap.size w w1) := hb
  clear hb
  go_wp2_with fail
  refine (aw _ B.out).mono ?_
  rintro e w2 ⟨rfl, hb⟩
  replace B : Hid (Below w.heap.size w w2) := belowT B.out hb
  clear hb
  go_wp2
  go_ret
  exact ⟨rfl, B.out⟩

end Go.Proofs.YteemaofajcbniaaDoor
