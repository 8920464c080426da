/-
  Texts that belong together, one behind the other: DsTexts. Conditions: as each says.
-/
import Derived.Test.YtagkgneijdbkoaaDoorJn28
import Derived.Test.YtagkgneijdbkoaaDoorJn30
/-
  DescTexts, out of what its callees return (layer 8). Conditions: the library's table of white space is as laid; line's contract.
-/
namespace Go.Proofs.YtagkgneijdbkoaaDoor
open Go.RowKit
set_option linter.unusedVariables false

def AwC (w : World) : Prop := ∀ x, Below w.heap.size w x → Calls Tryd.prog 7 #[] x fun e y => e = .returned (.bool true) ∧ Below x.heap.size x y
def RrC (s : ByteArray) (L E : Int) (rs : List Ln) : Prop := ∀ x, Calls Tryd.prog 9 #[.string s] x fun e w' => ∃ v, e = .returned (.tuple #[v, .int .i64 L, .int .i64 E]) ∧ RowsAt w' v rs ∧ Below x.heap.size x w'
def RdC2 (rs : List Lr) : Prop := ∀ x v, LrsAt x v rs → Calls Tryd.prog 11 #[v] x (ReadQ x (readM rs))
theorem go_fs (rs : List Lr) : ∀ {d : Dv} {s : List Wd}, SeenOk d s → (goM d s rs).1.fs.length ≤ 8 := by
  induction rs with
  | nil =>
    intro d s h
    unfold goM
    split
    · exact Nat.zero_le _
    · exact h.le
  | cons r rs ih =>
    intro d s h
    unfold goM
    cases hs : stepM d s r.2 with
    | error n => exact Nat.zero_le _
    | ok d' => exact ih (h.step hs)
theorem parse_fs (l : List UInt8) : (parseM l).1.fs.length ≤ 8 := by
  unfold parseM
  split
  · exact go_fs _ SeenOk.first
  · exact Nat.zero_le _
set_option maxRecDepth 100000 in
set_option maxHeartbeats 8000000 in
theorem dtexts_any (P : LineP) (w : World) (T7 : Tab7 w) (s : ByteArray) : Calls Tryd.prog 3 #[.string s] w fun e y => e = .returned (.bool true) ∧ Below w.heap.size w y := by
  have aw : Hid (AwC w) := fun x hb => awake8_any x (T7.below hb)
  by_cases hl : 4100 < (s.size : Int)
  · have q1 : decide (4100 < (s.size : Int)) = true := decide_eq_true hl
    clear T7
    go_enter Tryd.func3, Tryd.ntmps3
    go_wp2_with fail
    refine (aw.out w (Below.refl _ _)).mono ?_
    rintro e y ⟨rfl, hb⟩
    replace hb : Hid (Below w.heap.size w y) := hb
    go_wp2_with fail
    refine (aw.out y hb.out).mono ?_
    rintro e y2 ⟨rfl, hb2⟩
    have hb3 : Hid (Below w.heap.size w y2) := hb.out.trans (hb2.mono hb.out.size)
    clear hb hb2
    go_wp2
    go_ret
    exact ⟨rfl, hb3.out⟩
  · have q1 : decide (4100 < (s.size : Int)) = false := decide_eq_false hl
    have pa : Hid (PaC w s (parseM s.data.toList)) := paC T7 s
    have rr : Hid (RrC s ((lexLine s.data.toList : Nat) : Int) ((lexErr s.data.toList : Nat) : Int) (lexRows s.data.toList)) := fun x => rrows_any s x
    have fs8 := parse_fs s.data.toList
    have bd := lines_bd s.data.toList
    have rd : Hid (RdC2 (lrOf (lexRows s.data.toList))) := fun x v h => rread_of P _ v x h bd.1 bd.2.1 bd.2.2
    clear bd T7 P hl
    have hE : lexErr s.data.toList ≠ 0 → parseM s.data.toList = (dv0, ((lexLine s.data.toList : Nat) : Int), lexErr s.data.toList) := fun h => by unfold parseM; rw [if_neg h]
    have hO : lexErr s.data.toList = 0 → parseM s.data.toList = readM (lrOf (lexRows s.data.toList)) := fun h => by unfold parseM; rw [if_pos h]
    generalize parseM s.data.toList = T at *
    generalize lexRows s.data.toList = rs at *
    generalize lexErr s.data.toList = E at *
    generalize ((lexLine s.data.toList : Nat) : Int) = L at *
    replace hE : Hid (E ≠ 0 → T = (dv0, L, E)) := hE
    replace hO : Hid (E = 0 → T = readM (lrOf rs)) := hO
    replace fs8 : Hid (T.1.fs.length ≤ 8) := fs8
    go_enter Tryd.func3, Tryd.ntmps3
    go_wp2_with fail
    refine (aw.out w (Below.refl _ _)).mono ?_
    rintro e y ⟨rfl, hb⟩
    replace hb : Hid (Below w.heap.size w y) := hb
    clear aw
    go_wp2_with fail
    refine (pa.out y hb.out).mono ?_
    rintro e z ⟨fv, qv, rfl, hf, hq, hb2, _, _⟩
    obtain ⟨p1, n1, c1, rfl⟩ := hf.form
    obtain ⟨p2, n2, c2, rfl⟩ := hq.form'
    obtain ⟨d, ln, en⟩ := T
    have hbz : Below w.heap.size w z := hb.out.trans (hb2.mono hb.out.size)
    have za : Below z.heap.size z (z.alloc (.cells (dvX d (.slice p1 n1 c1) (.slice p2 n2 c2)) 26)) := (Below.refl _ _).alloc (Nat.le_refl _) _
    have B2 : Hid (Below w.heap.size w (z.alloc (.cells (dvX d (.slice p1 n1 c1) (.slice p2 n2 c2)) 26))) := hbz.alloc hbz.size _
    have K2 : Hid ((z.alloc (.cells (dvX d (.slice p1 n1 c1) (.slice p2 n2 c2)) 26)).heap[z.heap.size]? = some (.cells (dvX d (.slice p1 n1 c1) (.slice p2 n2 c2)) 26 (0, 0))) := World.alloc_heap_new z _
    have F2 : Hid (FldsAt (z.alloc (.cells (dvX d (.slice p1 n1 c1) (.slice p2 n2 c2)) 26)) (.slice p1 n1 c1) d.fs) := hf.below za
    have Q2 : Hid (BytesAt (z.alloc (.cells (dvX d (.slice p1 n1 c1) (.slice p2 n2 c2)) 26)) (.slice p2 n2 c2) d.rq) := hq.below za
    clear hf hq hb2 hbz za hb pa
    simp only at fs8
    go_upto_region 4 with fail
    change Code.wp Tryd.prog _ _ _ (z.alloc (.cells (dvX d (.slice p1 n1 c1) (.slice p2 n2 c2)) 26))
    generalize z.alloc (.cells (dvX d (.slice p1 n1 c1) (.slice p2 n2 c2)) 26) = y2 at *
    generalize z.heap.size = bD at *
    clear z
    go_wp2_with fail
    refine (rr.out y2).mono ?_
    rintro e y3 ⟨v, rfl, hv, hb3⟩
    have B3 : Hid (Below w.heap.size w y3) := B2.out.trans (hb3.mono B2.out.size)
    have K3 : y3.heap[bD]? = some (.cells (dvX d (.slice p1 n1 c1) (.slice p2 n2 c2)) 26 (0, 0)) := (hb3.block _ (Array.getElem?_eq_some_iff.1 K2.out).1).trans K2.out
    have F3 : Hid (FldsAt y3 (.slice p1 n1 c1) d.fs) := F2.out.below hb3
    have Q3 : Hid (BytesAt y3 (.slice p2 n2 c2) d.rq) := Q2.out.below hb3
    clear F2 Q2 K2 hb3 B2 rr
    by_cases h0 : E = 0
    · have hT := hO.out h0
      subst h0
      have rdv : Hid (Calls Tryd.prog 11 #[v] y3 (ReadQ y3 (d, ln, en))) := by
        have k := rd.out y3 v (lrs_of hv)
        rw [← hT] at k
        exact k
      clear hT hO hE rd hv
      replace K3 : Hid (y3.heap[bD]? = some (.cells (dvX d (.slice p1 n1 c1) (.slice p2 n2 c2)) 26 (0, 0))) := K3
      go_wp2_with fail
      refine rdv.out.mono ?_
      rintro e z ⟨fv, qv, rfl, hf, hq, hb4, _, _⟩
      obtain ⟨p3, n3, c3, rfl⟩ := hf.form
      obtain ⟨p4, n4, c4, rfl⟩ := hq.form'
      have za : Below z.heap.size z (z.alloc (.cells (dvX d (.slice p3 n3 c3) (.slice p4 n4 c4)) 36)) := (Below.refl _ _).alloc (Nat.le_refl _) _
      have hbz : Below w.heap.size w z := B3.out.trans (hb4.mono B3.out.size)
      have B5 : Hid (Below w.heap.size w (z.alloc (.cells (dvX d (.slice p3 n3 c3) (.slice p4 n4 c4)) 36))) := hbz.alloc hbz.size _
      have K5 : (z.alloc (.cells (dvX d (.slice p3 n3 c3) (.slice p4 n4 c4)) 36)).heap[z.heap.size]? = some (.cells (dvX d (.slice p3 n3 c3) (.slice p4 n4 c4)) 36 (0, 0)) := World.alloc_heap_new z _
      have K3z : z.heap[bD]? = some (.cells (dvX d (.slice p1 n1 c1) (.slice p2 n2 c2)) 26 (0, 0)) := (hb4.block _ (Array.getElem?_eq_some_iff.1 K3.out).1).trans K3.out
      have K35 : (z.alloc (.cells (dvX d (.slice p3 n3 c3) (.slice p4 n4 c4)) 36)).heap[bD]? = some (.cells (dvX d (.slice p1 n1 c1) (.slice p2 n2 c2)) 26 (0, 0)) := (za.block _ (Array.getElem?_eq_some_iff.1 K3z).1).trans K3z
      have sm : Hid (Calls Tryd.prog 10 #[dvV d (.slice p1 n1 c1) (.slice p2 n2 c2), dvV d (.slice p3 n3 c3) (.slice p4 n4 c4)] (z.alloc (.cells (dvX d (.slice p3 n3 c3) (.slice p4 n4 c4)) 36)) fun e y => e = .returned (.int .i64 1) ∧ Below (z.alloc (.cells (dvX d (.slice p3 n3 c3) (.slice p4 n4 c4)) 36)).heap.size (z.alloc (.cells (dvX d (.slice p3 n3 c3) (.slice p4 n4 c4)) 36)) y) :=
        same_any d _ _ _ _ _ ((F3.out.below hb4).below za) ((Q3.out.below hb4).below za) (hf.below za) (hq.below za) (by have := fs8.out; omega)
      clear hf hq hb4 za hbz K3z rdv K3 F3 Q3 B3 fs8
      go_upto_region 8 with fail
      change Code.wp Tryd.prog _ _ _ (z.alloc (.cells (dvX d (.slice p3 n3 c3) (.slice p4 n4 c4)) 36))
      generalize z.alloc (.cells (dvX d (.slice p3 n3 c3) (.slice p4 n4 c4)) 36) = y5 at *
      generalize z.heap.size = bX at *
      clear z
      have l0 := (rd_cell K35 0).1
      have l1 := (rd_cell K35 1).1
      have l2 := (rd_cell K35 2).1
      have l3 := (rd_cell K35 3).1
      have l4 := (rd_cell K35 4).1
      have l5 := (rd_cell K35 5).1
      have l6 := (rd_cell K35 6).1
      have l7 := (rd_cell K35 7).1
      have l8 := (rd_cell K35 8).1
      have l9 := (rd_cell K35 9).1
      have l10 := (rd_cell K35 10).1
      have l11 := (rd_cell K35 11).1
      simp only [List.getElem?_toArray, List.getElem?_cons_zero, List.getElem?_cons_succ] at l0 l1 l2 l3 l4 l5 l6 l7 l8 l9 l10 l11
      have m0 := (rd_cell K5 0).1
      have m1 := (rd_cell K5 1).1
      have m2 := (rd_cell K5 2).1
      have m3 := (rd_cell K5 3).1
      have m4 := (rd_cell K5 4).1
      have m5 := (rd_cell K5 5).1
      have m6 := (rd_cell K5 6).1
      have m7 := (rd_cell K5 7).1
      have m8 := (rd_cell K5 8).1
      have m9 := (rd_cell K5 9).1
      have m10 := (rd_cell K5 10).1
      have m11 := (rd_cell K5 11).1
      simp only [List.getElem?_toArray, List.getElem?_cons_zero, List.getElem?_cons_succ] at m0 m1 m2 m3 m4 m5 m6 m7 m8 m9 m10 m11
      clear K35 K5
      go_wp2_with fail
      refine sm.out.mono ?_
      rintro e y6 ⟨rfl, hb6⟩
      have B6 : Hid (Below w.heap.size w y6) := B5.out.trans (hb6.mono B5.out.size)
      clear hb6 sm B5
      go_wp2
      go_ret
      exact ⟨rfl, B6.out⟩
    · obtain ⟨rfl, rfl, rfl⟩ : d = dv0 ∧ ln = L ∧ en = E := by
        have h := hE.out h0
        injection h with h1 h2
        injection h2 with h2 h3
        exact ⟨h1, h2, h3⟩
      have hne : ((en : Int) != 0) = true := by rw [bne_iff_ne]; omega
      have sm : Hid (Calls Tryd.prog 10 #[dvV dv0 (.slice p1 n1 c1) (.slice p2 n2 c2), dvV dv0 nilS nilS] y3 fun e y => e = .returned (.int .i64 1) ∧ Below y3.heap.size y3 y) :=
        same_any dv0 _ _ _ _ _ F3.out Q3.out (.inl ⟨rfl, rfl⟩) (.inl ⟨rfl, rfl⟩) (by decide)
      clear hO hE rd hv fs8 F3 Q3 h0
      have l0 := (rd_cell K3 0).1
      have l1 := (rd_cell K3 1).1
      have l2 := (rd_cell K3 2).1
      have l3 := (rd_cell K3 3).1
      have l4 := (rd_cell K3 4).1
      have l5 := (rd_cell K3 5).1
      have l6 := (rd_cell K3 6).1
      have l7 := (rd_cell K3 7).1
      have l8 := (rd_cell K3 8).1
      have l9 := (rd_cell K3 9).1
      have l10 := (rd_cell K3 10).1
      have l11 := (rd_cell K3 11).1
      simp only [List.getElem?_toArray, List.getElem?_cons_zero, List.getElem?_cons_succ] at l0 l1 l2 l3 l4 l5 l6 l7 l8 l9 l10 l11
      clear K3
      go_wp2_with fail
      refine sm.out.mono ?_
      rintro e y6 ⟨rfl, hb6⟩
      have B6 : Hid (Below w.heap.size w y6) := B3.out.trans (hb6.mono B3.out.size)
      clear hb6 sm B3
      go_wp2
      go_ret
      exact ⟨rfl, B6.out⟩
end Go.Proofs.YtagkgneijdbkoaaDoor
