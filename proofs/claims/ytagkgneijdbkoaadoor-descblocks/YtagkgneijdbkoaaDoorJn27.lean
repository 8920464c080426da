/-
  Texts that belong together, one behind the other: LexPR. Conditions: as each says.
-/
import Derived.Handy
import Derived.Maps.AppendAt
import Derived.Maps.OwnIn
import Derived.Test.YtagkgneijdbkoaaDoorJn21
import Derived.Test.YtagkgneijdbkoaaDoorJn22
import Derived.Test.YtagkgneijdbkoaaDoorJn24
import Derived.Test.YtagkgneijdbkoaaDoorJn25
import Derived.Test.YtagkgneijdbkoaaDoorJn26
/-
  What the program's own Rows returns (layer 7): it is the document's. Conditions: the library's table of white space is as its initialiser lays it.
-/
namespace Go.Proofs.YtagkgneijdbkoaaDoor
open Go.RowKit Go.Shelf
set_option linter.unusedVariables false

attribute [local go_sem] Oper.semAt_some

theorem info_prow : (Tryd.prog.info? 50).map (fun i => (i.zero, i.size, i.bytes)) = some (some (.agg #[.int .i64 0, .slice none 0 0]), 2, 32) := by kernel_rfl
theorem boxAt {x : World} {B : Nat} (t : TypeId) (v : Value) (h : x.heap.size = B) : Boxed (x.alloc (.cells #[v] t)) B t v := by subst h; exact Boxed.new x t v
theorem boxOwn {X Y : World} {row : Option Nat} {B : Nat} {t : TypeId} {v : Value} (h : Boxed X B t v) (hg : X.grownBy Y row) (hr : ∀ r, row = some r → ∃ o : Obj, X.heap[r]? = some o ∧ o.isCells = false) : Boxed Y B t v := boxed_own B t (fun _ : Unit => v) () X Y row h hg hr
theorem cntF_le7 : ∀ (l : List UInt8) (ws : Bool), Lib.cntF ws l ≤ l.length
  | [], _ => Nat.le_refl _
  | b :: t, ws => by
    have := cntF_le7 t (Lib.isSp b)
    simp only [Lib.cntF, List.length_cons]
    split <;> omega
/-- what Rows lays ahead of its rounds -/
theorem fiveW (w : World) (s : ByteArray) : ∃ W0, (((((w.alloc (.cells #[(.slice none 0 0)] 42)).alloc (.cells #[.int .i64 0] 3)).alloc (.cells #[.int .i64 0] 27)).alloc (.cells #[(.slice none 0 0)] 42)).alloc (.cells #[.string s] 9)) = W0 ∧
    Boxed W0 (w.heap.size) 42 (.slice none 0 0) ∧ Boxed W0 (w.heap.size + 1) 3 (.int .i64 0) ∧ Boxed W0 (w.heap.size + 1 + 1) 27 (.int .i64 0) ∧ Boxed W0 (w.heap.size + 1 + 1 + 1) 42 (.slice none 0 0) ∧ Boxed W0 (w.heap.size + 1 + 1 + 1 + 1) 9 (.string s) ∧ Below w.heap.size w W0 ∧ W0.heap.size = w.heap.size + 5 := by
  refine ⟨_, rfl, ?_, ?_, ?_, ?_, ?_, ?_, ?_⟩
  · exact (((((boxAt _ _ (by simp)).alloc _).alloc _).alloc _).alloc _)
  · exact ((((boxAt _ _ (by simp)).alloc _).alloc _).alloc _)
  · exact (((boxAt _ _ (by simp)).alloc _).alloc _)
  · exact ((boxAt _ _ (by simp)).alloc _)
  · exact (boxAt _ _ (by simp))
  · go_grown
  · simp
/-- between the rounds -/
def RwI (w : World) (s : ByteArray) (Ls : List Wd) (pre : List (Fin Ls.length)) (W : World) : Prop :=
  (∃ vo fs, Boxed W (w.heap.size + 1 + 1 + 1) 42 vo ∧ LxSt w W 50 vo (.slice none 0 0) fs [] ∧ fs.map (·.1) = rowsF Ls 1 pre ∧ ∀ y ∈ pre, priB Ls[y.1] = true) ∧ Boxed W (w.heap.size) 42 (.slice none 0 0) ∧ Boxed W (w.heap.size + 1) 3 (.int .i64 0) ∧ Boxed W (w.heap.size + 1 + 1) 27 (.int .i64 0) ∧ Boxed W (w.heap.size + 1 + 1 + 1 + 1) 9 (.string s)
/-- a round has left -/
def RwX (w : World) (Ls : List Wd) (c : Code) (pre : List (Fin Ls.length)) (W : World) : Prop :=
  (c = .ret ∧ ∃ q x, pre = q ++ [x] ∧ (∀ y ∈ q, priB Ls[y.1] = true) ∧ priB Ls[x.1] = false ∧ Boxed W (w.heap.size + 1) 3 (.int .i64 ((x.1 + 1 : Nat) : Int))) ∧ Boxed W (w.heap.size) 42 (.slice none 0 0) ∧ Boxed W (w.heap.size + 1 + 1) 27 (.int .i64 6) ∧ Below w.heap.size w W
theorem rwI_own (w : World) (s : ByteArray) (Ls : List Wd) (B : Nat) (hB : w.heap.size ≤ B) : OwnFrom B (RwI w s Ls) := fun pre X Y row ⟨⟨vo, fs, h1, h2, h3, h4⟩, b0, b1, b2, b4⟩ hg hr =>
  have hr2 : ∀ r, row = some r → ∃ o : Obj, X.heap[r]? = some o ∧ o.isCells = false := fun r e => (hr r e).2
  ⟨⟨vo, fs, boxOwn h1 hg hr2, h2.own hg (fun r e => ⟨Nat.le_trans hB (hr r e).1, (hr r e).2⟩), h3, h4⟩, boxOwn b0 hg hr2, boxOwn b1 hg hr2, boxOwn b2 hg hr2, boxOwn b4 hg hr2⟩
theorem rwX_own (w : World) (Ls : List Wd) (B : Nat) (hB : w.heap.size ≤ B) (c : Code) : OwnFrom B (RwX w Ls c) := fun pre X Y row ⟨⟨hc, q, x, e, h1, h2, b1⟩, b0, b2, hb⟩ hg hr =>
  have hr2 : ∀ r, row = some r → ∃ o : Obj, X.heap[r]? = some o ∧ o.isCells = false := fun r e => (hr r e).2
  ⟨⟨hc, q, x, e, h1, h2, boxOwn b1 hg hr2⟩, boxOwn b0 hg hr2, boxOwn b2 hg hr2, hb.grown hg hb.size (fun k e => Nat.le_trans hB (hr k e).1)⟩
theorem cell_two_nx (x : World) (a b : Value) (t : TypeId) (n : Nat) (hn : n = x.heap.size) : ∀ j u, [a, b][j]? = some u → (x.alloc (.cells #[a, b] t)).cell? ((⟨n, 0, none⟩ : Addr).add j) = some u := by
  subst hn; exact cell_two_new x a b t
theorem slice_no_str {x : World} {base : Nat} {e : TypeId} {size : Nat} {v : Value} {n : Nat} {xs : List Value} (h : x.ownsRow base e size v n xs) : ∀ s, v ≠ .string s := by
  intro s hs
  rcases own_slice h with ⟨h1, _⟩ | ⟨g, cap, h1, _⟩ <;> rw [h1] at hs <;> cases hs
/-- a line more, and its slice back in its box -/
theorem RwI.more {w W y : World} {s : ByteArray} {Ls : List Wd} {pre : List (Fin Ls.length)} {x : Fin Ls.length} {vo v' : Value} {fs : List Dn} {ws : List Wd} {tmp : Obj} (bR : Boxed W (w.heap.size + 1 + 1 + 1) 42 vo) (st1 : LxSt w (W.alloc (.cells (strV ws).toArray 9)) 50 vo (.slice (some ⟨W.heap.size, 0, none⟩) ws.length ws.length) fs ws)
    (b0 : Boxed W (w.heap.size) 42 (.slice none 0 0)) (b1 : Boxed W (w.heap.size + 1) 3 (.int .i64 0)) (b2 : Boxed W (w.heap.size + 1 + 1) 27 (.int .i64 0)) (b4 : Boxed W (w.heap.size + 1 + 1 + 1 + 1) 9 (.string s)) (hne : ¬ ws = [])
    (hO : y.ownsRow w.heap.size 50 2 v' (fs.length + 1) (dnC fs ++ [.int .i64 ((x.1 : Int) + 1), (.slice (some ⟨W.heap.size, 0, none⟩) ws.length ws.length)])) (gO : ((W.alloc (.cells (strV ws).toArray 9)).alloc tmp).grownBy y vo.ownBlock) (vO : v'.ownBlock = vo.ownBlock ∨ v'.ownBlock = some ((W.alloc (.cells (strV ws).toArray 9)).alloc tmp).heap.size)
    (hm : fs.map (·.1) ++ [(1 + x.1, ws)] = rowsF Ls 1 (pre ++ [x])) (hp : ∀ z ∈ pre ++ [x], priB Ls[z.1] = true) :
    Boxed y (w.heap.size + 1 + 1 + 1) 42 vo ∧ KeepsOthers W (y.setCell ⟨w.heap.size + 1 + 1 + 1, 0, none⟩ v') ∧ KeepO (w.heap.size + 1 + 1 + 1 + 1) W (y.setCell ⟨w.heap.size + 1 + 1 + 1, 0, none⟩ v') ∧ RwI w s Ls (pre ++ [x]) (y.setCell ⟨w.heap.size + 1 + 1 + 1, 0, none⟩ v') := by
  have e1 : ((1 + x.1 : Nat) : Int) = (x.1 : Int) + 1 := by omega
  have st2 := LxSt.line st1 hne (1 + x.1) (by rw [e1]; exact hO) gO vO
  obtain ⟨hv1, hv2, _, hk2, _⟩ := (bR.alloc (.cells (strV ws).toArray 9)).appended (by decide) st1.ro st1.b.size (by omega) hO gO
  have st3 := st2.store hv1 (by decide) (slice_no_str st1.ro) (by omega) v'
  have keep : ∀ {B : Nat} {t : TypeId} {v : Value}, Boxed W B t v → t ≠ 50 → B ≠ w.heap.size + 1 + 1 + 1 → Boxed (y.setCell ⟨w.heap.size + 1 + 1 + 1, 0, none⟩ v') B t v := fun hb ht hB =>
    (((hb.alloc (.cells (strV ws).toArray 9)).alloc tmp).kept gO (((hb.alloc (.cells (strV ws).toArray 9))).not_row ht st1.ro)).other hB _
  have c4 := keep b4 (by decide) (by omega)
  exact ⟨hv1, (KeepsOthers.alloc W _).trans hk2, (show _ from c4 : Boxed _ _ _ _).trans b4.symm, ⟨_, _, hv2, st3, by rw [map_dn]; exact hm, hp⟩, keep b0 (by decide) (by omega), keep b1 (by decide) (by omega), keep b2 (by decide) (by omega), c4⟩
set_option maxRecDepth 100000 in
set_option maxHeartbeats 4000000 in
theorem rows_long (s : ByteArray) (w : World) (hs : 4000 < (s.size : Int)) :
    Calls Tryd.prog 16 #[.string s] w fun e w' => e = .returned (.tuple #[(.slice none 0 0), .int .i64 0, .int .i64 7]) ∧ Below w.heap.size w w' := by
  have q1 : decide (4000 < (s.size : Int)) = true := decide_eq_true hs
  go_enter Tryd.func16, Tryd.ntmps16
  go_wp2
  go_returns
  exact ⟨rfl, by go_grown⟩
set_option maxRecDepth 100000 in
set_option maxHeartbeats 4000000 in
theorem rows_in (F : Fence) (n : Nat) (h1 : F.fn 16) (h2 : F.fn 23) (h3 : F.fn 38) (h4 : F.fn 24) (h5 : F.fn 25) (h6 : F.fn 26) (hro : F.round = none) (hn : 3 ≤ n) (w : World) (T7 : Tab7 w) (s : ByteArray) (hs : (s.size : Int) ≤ 4000) (Ls : List Wd) (hLs : linesL s.data.toList = Ls)
    (cL : Hid (∀ m x, CallsIn F m Tryd.prog 23 #[.string s] x fun e w' => e = .returned (.func (.func 38) #[] #[.pointer (some ⟨x.heap.size, 0, none⟩)]) ∧ w' = x.alloc (.cells #[.string s] 9)))
    (cS : Hid (∀ m W0, 1 ≤ m → Boxed W0 (w.heap.size + 1 + 1 + 1 + 1) 9 (.string s) → SeqStopsK F m Tryd.prog 38 #[.pointer (some ⟨w.heap.size + 1 + 1 + 1 + 1, 0, none⟩)] (fun x : Fin Ls.length => #[.int .i64 ((x.1 + 1 : Nat) : Int), .string (txt Ls[x.1])]) (KeepO (w.heap.size + 1 + 1 + 1 + 1)) (fun xs => xs = List.finRange Ls.length) (fun pre => pre <+: List.finRange Ls.length) Ls.length W0))
    (cP : Hid (∀ m (u : ByteArray) x, (u.size : Int) ≤ 4000 → CallsIn F m Tryd.prog 24 #[.string u] x fun e w' => e = .returned (.bool (priB u.data.toList)) ∧ w' = x))
    (cF : Hid (∀ m (u : ByteArray) x, u.size ≤ 4000 → priB u.data.toList = true → Tab7 x → CallsIn F m Tryd.prog 25 #[.string u] x fun e w' => e = .returned (.slice (some ⟨x.heap.size, 0, none⟩) (Lib.fields u.data.toList).length (Lib.fields u.data.toList).length) ∧ w' = x.alloc (.cells ((Lib.fields u.data.toList).map fun l => Value.string (txt l)).toArray 9)))
    (cC : Hid (∀ m x (g cap : Nat) (ws : List Wd), (∀ d ∈ ws, ¬ d = []) → (∀ (h : 0 < ws.length), x.cell? ⟨g, 0, none⟩ = some (.string (txt ws[0]))) → CallsIn F m Tryd.prog 26 #[.slice (some ⟨g, 0, none⟩) ws.length cap] x fun e w' => e = .returned (.bool (countsB ws)) ∧ w' = x)) :
    CallsIn F n Tryd.prog 16 #[.string s] w fun e w' => ∃ v, e = .returned (.tuple #[v, .int .i64 ((lexLine s.data.toList : Nat) : Int), .int .i64 ((lexErr s.data.toList : Nat) : Int)]) ∧ RowsAtC w' v (lexRows s.data.toList) ∧ Below w.heap.size w w' := by
  have hn1 : 1 ≤ n := by omega
  have q1 : decide (4000 < (s.size : Int)) = false := decide_eq_false (by omega)
  obtain ⟨r0, hri, hr0, hr1, hr2⟩ := info_parts info_prow
  refine callsIn_of_wp_marks Tryd.func16 rfl h1 ?_ hro
  simp only [Tryd.ntmps16, List.size_toArray, List.length_cons, List.length_nil, Nat.reduceAdd, Nat.reduceSub, Array.replicate_succ, Array.replicate_zero, List.push_toArray, List.append_toArray, List.nil_append, List.cons_append]
  gi_wp2_with (gi_at_call 23; refine (cL.out _ _).mono ?_; rintro e w' ⟨rfl, rfl⟩)
  obtain ⟨W0, hW0, b0, b1, b2, b3, b4, hB0, hsz⟩ := fiveW w s
  rw [hW0]
  clear hW0 cL
  have hLn : Ls.length ≤ 4001 := by
    have h1 := lines_len s.data.toList
    rw [show s.data.toList.length = s.size from by simp] at h1
    rw [← hLs]; omega
  have hLi : ∀ x : Fin Ls.length, (Ls[x.1]).length ≤ 4000 := fun x => by
    have := (lines_in s.data.toList (Ls[x.1]) (by rw [hLs]; exact List.getElem_mem _)).2
    rw [show s.data.toList.length = s.size from by simp] at this
    omega
  refine range2 14 15 6 7 (fun x : Fin Ls.length => .int .i64 ((x.1 + 1 : Nat) : Int)) (fun x : Fin Ls.length => .string (txt Ls[x.1])) hro hn1 (gf := 38) (lb := #[.pointer (some ⟨w.heap.size + 1 + 1 + 1 + 1, 0, none⟩)]) rfl h3 (enters_of Tryd.func38 (by kernel_rfl) rfl)
    (cS.out (n - 1) W0 (by omega) b4) KeepO.trans (fun W l o o' hl _ _ _ => KeepO.put (w := W0) (by omega) W l o o' hl) (Below.refl _ _) rfl
    (RwI w s Ls) (RwX w Ls) (rwI_own w s Ls _ (by omega)) (rwX_own w Ls _ (by omega))
    ⟨⟨_, [], b3, ⟨World.ownsRow_nil _ _ _ _, World.ownsRow_nil _ _ _ _, fun f hf => (by cases hf), .inl rfl, hB0⟩, rfl, fun y hy => by cases hy⟩, b0, b1, b2, b4⟩
    ?assign ?body ?done ?stop (fun W => KeepO.refl _ W)
  case assign =>
    intro l x W K hK
    simp only [upd2, List.setIfInBounds_toArray, List.set_cons_zero, List.set_cons_succ] at hK
    gi_wp2
    exact hK
  case body =>
    rintro l pre x W ⟨⟨vo, fs, bR, st, hfs, hpr⟩, b0, b1, b2, b4⟩ hlt
    simp only [upd2, List.setIfInBounds_toArray, List.set_cons_zero, List.set_cons_succ]
    have hd : 1 ≤ n - 1 - 1 := by omega
    have hT : Tab7 W := T7.below st.b
    have hux : (txt Ls[x.1]).data.toList = Ls[x.1] := rfl
    have hus : (txt Ls[x.1]).size ≤ 4000 := by rw [txt_size]; exact hLi x
    have hn63 : fs.length + 1 ≤ 4002 := by
      have e1 := congrArg List.length hfs
      rw [List.length_map] at e1
      have e2 := rowsF_len Ls 1 pre
      omega
    have hpl : ((x.1 + 1 : Nat) : Int) = (x.1 : Int) + 1 := by simp
    have hxl : (x.1 : Int) + 1 ≤ 4001 := by have := x.2; omega
    have cp : Hid (∀ m y, CallsIn (F.inRound l) m Tryd.prog 24 #[.string (txt Ls[x.1])] y fun e w' => e = .returned (.bool (priB Ls[x.1])) ∧ w' = y) := fun m y => (cP.out m (txt Ls[x.1]) y (by omega)).inRound l
    have g4 : (F.inRound l).fn 24 := h4
    have g5 : (F.inRound l).fn 25 := h5
    have g6 : (F.inRound l).fn 26 := h6
    cases hp : priB Ls[x.1] with
    | false =>
      rw [hp] at cp
      have c0 := b0.cell
      have f0 := b0.frozen
      have c1 := b1.cell
      have f1 := b1.frozen
      have c2 := b2.cell
      have f2 := b2.frozen
      have XX : Hid (RwX w Ls .ret (pre ++ [x]) (((W.setCell ⟨w.heap.size, 0, none⟩ (.slice none 0 0)).setCell ⟨w.heap.size + 1, 0, none⟩ (.int .i64 ((x.1 : Int) + 1))).setCell ⟨w.heap.size + 1 + 1, 0, none⟩ (.int .i64 6))) :=
        ⟨⟨rfl, pre, x, rfl, hpr, hp, by rw [hpl]; exact ((b1.other (by omega) _).set _).other (by omega) _⟩, ((b0.set _).other (by omega) _).other (by omega) _, ((b2.other (by omega) _).other (by omega) _).set _,
          ((st.b.setCell (p := ⟨w.heap.size, 0, none⟩) (Nat.le_refl _) _).setCell (p := ⟨w.heap.size + 1, 0, none⟩) (by show w.heap.size ≤ w.heap.size + 1; omega) _).setCell (p := ⟨w.heap.size + 1 + 1, 0, none⟩) (by show w.heap.size ≤ w.heap.size + 1 + 1; omega) _⟩
      have KK : Hid (KeepsOthers W (((W.setCell ⟨w.heap.size, 0, none⟩ (.slice none 0 0)).setCell ⟨w.heap.size + 1, 0, none⟩ (.int .i64 ((x.1 : Int) + 1))).setCell ⟨w.heap.size + 1 + 1, 0, none⟩ (.int .i64 6))) := ((KeepsOthers.setCell W _ _).trans (KeepsOthers.setCell _ _ _)).trans (KeepsOthers.setCell _ _ _)
      rw [hpl]
      clear hpr hfs st hT hux hp hLi cF cC cS cP
      generalize txt Ls[x.1] = u at *
      gi_wp2_with (gi_at_call 24; refine (cp.out _ _).mono ?_; rintro e w' ⟨rfl, rfl⟩)
      exact ⟨KK.out.from _, XX.out⟩
    | true =>
      rw [hp] at cp
      have cf : Hid (∀ m, CallsIn (F.inRound l) m Tryd.prog 25 #[.string (txt Ls[x.1])] W fun e w' => e = .returned (.slice (some ⟨W.heap.size, 0, none⟩) (Lib.fields Ls[x.1]).length (Lib.fields Ls[x.1]).length) ∧ w' = W.alloc (.cells (strV (Lib.fields Ls[x.1])).toArray 9)) := fun m => (cF.out m (txt Ls[x.1]) W hus hp hT).inRound l
      have hfl : (Lib.fields Ls[x.1]).length ≤ 4000 := by
        rw [Lib.fields_length]
        exact Nat.le_trans (cntF_le7 _ _) (hLi x)
      have hfn := counts_fields Ls[x.1]
      have hsn := rowsF_snoc Ls 1 pre x
      have hpr2 : ∀ y ∈ pre ++ [x], priB Ls[y.1] = true := fun y hy => (List.mem_append.1 hy).elim (hpr y) (fun e => by rw [List.mem_singleton.1 e]; exact hp)
      obtain ⟨ws, hws⟩ : ∃ ws, Lib.fields Ls[x.1] = ws := ⟨_, rfl⟩
      rw [hws] at cf hfl hfn hsn
      have st1 := st.words ws (by unfold maxLen; omega)
      have cc : Hid (∀ m, CallsIn (F.inRound l) m Tryd.prog 26 #[.slice (some ⟨W.heap.size, 0, none⟩) ws.length ws.length] (W.alloc (.cells (strV ws).toArray 9)) fun e w' => e = .returned (.bool (countsB ws)) ∧ w' = (W.alloc (.cells (strV ws).toArray 9))) := fun m => (cC.out m _ W.heap.size ws.length ws hfn (fun h => by
        have := str_cell (w0 := ws[0]) (r := ws.drop 1) st1.rw h (by have := List.drop_eq_getElem_cons h; simpa using this)
        exact this)).inRound l
      have KA := KeepsOthers.alloc W (.cells (strV ws).toArray 9)
      rw [hpl]
      clear hpr cF cC cS cP hT hus hws hux hp hLi st
      generalize txt Ls[x.1] = u at *
      cases hc : countsB ws with
      | false =>
        rw [hc] at cc
        have II : Hid (RwI w s Ls (pre ++ [x]) (W.alloc (.cells (strV ws).toArray 9))) := ⟨⟨vo, fs, bR.alloc _, st1.letGo, by rw [hsn, hfs]; unfold closeL; rw [hc]; simp, hpr2⟩, b0.alloc _, b1.alloc _, b2.alloc _, b4.alloc _⟩
        have KO : Hid (KeepO (w.heap.size + 1 + 1 + 1 + 1) W (W.alloc (.cells (strV ws).toArray 9))) := (b4.alloc _ : Boxed (W.alloc (.cells (strV ws).toArray 9)) _ _ _).trans b4.symm
        clear hsn hpr2 hfs hfn st1
        gi_wp2_with (first | (gi_at_call 24; refine (cp.out _ _).mono ?_; rintro e y ⟨rfl, hy⟩; replace hy := hy.symm; subst hy) | (gi_at_call 25; refine (cf.out _).mono ?_; rintro e w' ⟨rfl, rfl⟩) | (gi_at_call 26; refine (cc.out _).mono ?_; rintro e w' ⟨rfl, rfl⟩))
        exact ⟨KA.from _, KO.out, II.out⟩
      | true =>
        rw [hc] at cc
        have bR1 := bR.alloc (.cells (strV ws).toArray 9)
        have cR := bR1.cell
        have hne : ¬ ws = [] := counts_ne hc
        have hm : fs.map (·.1) ++ [(1 + x.1, ws)] = rowsF Ls 1 (pre ++ [x]) := by rw [hsn, hfs]; unfold closeL; rw [hc]; simp
        have hf63 : fs.length + 1 ≤ maxLen := by unfold maxLen; omega
        have hfby : (fs.length + 1) * 32 ≤ 140737488355328 := by omega
        have hsz1 := st1.b.size
        replace hpr2 : Hid _ := hpr2
        replace hm : Hid _ := hm
        clear hsn hfs hfn
        gi_wp2_with (first | (gi_at_call 24; refine (cp.out _ _).mono ?_; rintro e y ⟨rfl, hy⟩; replace hy := hy.symm; subst hy) | (gi_at_call 25; refine (cf.out _).mono ?_; rintro e w' ⟨rfl, rfl⟩) | (gi_at_call 26; refine (cc.out _).mono ?_; rintro e w' ⟨rfl, rfl⟩) | (gi_at_builtin; refine wpListIn_append_own_at _ rfl _ _ 42 rfl w.heap.size 50 r0 (.agg #[.int .i64 0, .slice none 0 0]) 2 32 Tryd.underlying42 hri hr0 hr1 hr2 rfl (by decide) _ _ _ rfl (World.ownsRow.alloc st1.ro _) ⟨W.heap.size + 1, 0, none⟩ 1 1 [.int .i64 ((x.1 : Int) + 1), (.slice (some ⟨W.heap.size, 0, none⟩) ws.length ws.length)] rfl rfl (cell_two_nx _ _ _ _ _ (by simp)) (by simp [Value.oneCell']) hf63 hfby (by simp at hsz1 ⊢; omega) ?_; intro v2 y2 hO gO _ vO; obtain ⟨g2, cap2, rfl⟩ := ownsRow_succ hO; obtain ⟨hv1, hk2, hko, hrw⟩ := RwI.more bR st1 b0 b1 b2 b4 hne hO gO vO hm.out hpr2.out; have hc1 := hv1.cell; have hf1 := hv1.frozen))
        exact ⟨hk2.from _, hko, hrw⟩
  case done =>
    rintro D ys W hD rfl ⟨⟨vo, fs, bR, st, hfs, hpr⟩, b0, b1, b2, b4⟩ hK
    have hz : Hid (lexRows s.data.toList = fs.map (·.1) ∧ lexLine s.data.toList = 0 ∧ lexErr s.data.toList = 0) := by
      subst hLs
      have hl : s.data.toList.length ≤ 4000 := by rw [show s.data.toList.length = s.size from by simp]; omega
      have := lex_done hl hpr
      rw [hfs]; exact this
    clear hfs hpr cF cC cS cP hLi
    have c0 := b0.cell
    have f0 := b0.frozen
    have c1 := b1.cell
    have f1 := b1.frozen
    have c2 := b2.cell
    have f2 := b2.frozen
    have cR := bR.cell
    rcases own_slice st.ro with ⟨rfl, _⟩ | ⟨g, cap, rfl, _⟩
    · gi_wp2
      have hK' := (((KeepsOthers.setCell W ⟨w.heap.size, 0, none⟩ (.slice none 0 0)).trans (KeepsOthers.setCell _ ⟨w.heap.size + 1, 0, none⟩ (.int .i64 0))).trans (KeepsOthers.setCell _ ⟨w.heap.size + 1 + 1, 0, none⟩ (.int .i64 0))).same D _ hK rfl
      have R0 := (((b0.set (.slice none 0 0)).other (B' := w.heap.size + 1) (by omega) (.int .i64 0)).other (B' := w.heap.size + 1 + 1) (by omega) (.int .i64 0)).kept (grownBy_putObj' _ D (.deferred none)) (fun e => by injection e with e; omega)
      have R1 := (((b1.other (B' := w.heap.size) (by omega) (.slice none 0 0)).set (.int .i64 0)).other (B' := w.heap.size + 1 + 1) (by omega) (.int .i64 0)).kept (grownBy_putObj' _ D (.deferred none)) (fun e => by injection e with e; omega)
      have R2 := (((b2.other (B' := w.heap.size) (by omega) (.slice none 0 0)).other (B' := w.heap.size + 1) (by omega) (.int .i64 0)).set (.int .i64 0)).kept (grownBy_putObj' _ D (.deferred none)) (fun e => by injection e with e; omega)
      have st4 := (((st.store b0 (by decide) (fun s h => by cases h) (Nat.le_refl _) (.slice none 0 0)).store (b1.other (B' := w.heap.size) (by omega) (.slice none 0 0)) (by decide) (fun s h => by cases h) (by omega) (.int .i64 0)).store ((b2.other (B' := w.heap.size) (by omega) (.slice none 0 0)).other (B' := w.heap.size + 1) (by omega) (.int .i64 0)) (by decide) (fun s h => by cases h) (by omega) (.int .i64 0)).putObj (.deferred none) hK' rfl (by omega)
      refine ⟨by simp, .inl ⟨_, _, rfl, run_takeDeferred hK', ?_⟩⟩
      refine ⟨.tuple #[(.slice none 0 0), .int .i64 0, .int .i64 0], ?_, _, by rw [hz.out.2.1, hz.out.2.2]; rfl, by rw [hz.out.1]; exact st4.rowsC, st4.b⟩
      have c0 := R0.cell
      have c1 := R1.cell
      have c2 := R2.cell
      simp [results, Tryd.f16, go_sem, c0, c1, c2]
    · gi_wp2
      have hK' := (((KeepsOthers.setCell W ⟨w.heap.size, 0, none⟩ (.slice (some ⟨g, 0, none⟩) fs.length cap)).trans (KeepsOthers.setCell _ ⟨w.heap.size + 1, 0, none⟩ (.int .i64 0))).trans (KeepsOthers.setCell _ ⟨w.heap.size + 1 + 1, 0, none⟩ (.int .i64 0))).same D _ hK rfl
      have R0 := (((b0.set (.slice (some ⟨g, 0, none⟩) fs.length cap)).other (B' := w.heap.size + 1) (by omega) (.int .i64 0)).other (B' := w.heap.size + 1 + 1) (by omega) (.int .i64 0)).kept (grownBy_putObj' _ D (.deferred none)) (fun e => by injection e with e; omega)
      have R1 := (((b1.other (B' := w.heap.size) (by omega) (.slice (some ⟨g, 0, none⟩) fs.length cap)).set (.int .i64 0)).other (B' := w.heap.size + 1 + 1) (by omega) (.int .i64 0)).kept (grownBy_putObj' _ D (.deferred none)) (fun e => by injection e with e; omega)
      have R2 := (((b2.other (B' := w.heap.size) (by omega) (.slice (some ⟨g, 0, none⟩) fs.length cap)).other (B' := w.heap.size + 1) (by omega) (.int .i64 0)).set (.int .i64 0)).kept (grownBy_putObj' _ D (.deferred none)) (fun e => by injection e with e; omega)
      have st4 := (((st.store b0 (by decide) (fun s h => by cases h) (Nat.le_refl _) (.slice (some ⟨g, 0, none⟩) fs.length cap)).store (b1.other (B' := w.heap.size) (by omega) (.slice (some ⟨g, 0, none⟩) fs.length cap)) (by decide) (fun s h => by cases h) (by omega) (.int .i64 0)).store ((b2.other (B' := w.heap.size) (by omega) (.slice (some ⟨g, 0, none⟩) fs.length cap)).other (B' := w.heap.size + 1) (by omega) (.int .i64 0)) (by decide) (fun s h => by cases h) (by omega) (.int .i64 0)).putObj (.deferred none) hK' rfl (by omega)
      refine ⟨by simp, .inl ⟨_, _, rfl, run_takeDeferred hK', ?_⟩⟩
      refine ⟨.tuple #[(.slice (some ⟨g, 0, none⟩) fs.length cap), .int .i64 0, .int .i64 0], ?_, _, by rw [hz.out.2.1, hz.out.2.2]; rfl, by rw [hz.out.1]; exact st4.rowsC, st4.b⟩
      have c0 := R0.cell
      have c1 := R1.cell
      have c2 := R2.cell
      simp [results, Tryd.f16, go_sem, c0, c1, c2]
  case stop =>
    rintro D c pre W hD hpre ⟨⟨rfl, q, x, rfl, hq, hx, b1⟩, b0, b2, hB⟩ hK
    have hz : Hid (lexRows s.data.toList = [] ∧ lexLine s.data.toList = x.1 + 1 ∧ lexErr s.data.toList = 6) := by
      subst hLs
      have hl : s.data.toList.length ≤ 4000 := by rw [show s.data.toList.length = s.size from by simp]; omega
      exact lex_left hl hpre hq hx
    clear hq hx hpre cF cC cS cP hLi
    gi_wp2
    have R0 := b0.kept (grownBy_putObj' _ D (.deferred none)) (fun e => by injection e with e; omega)
    have R1 := b1.kept (grownBy_putObj' _ D (.deferred none)) (fun e => by injection e with e; omega)
    have R2 := b2.kept (grownBy_putObj' _ D (.deferred none)) (fun e => by injection e with e; omega)
    refine ⟨by simp, .inl ⟨_, _, rfl, run_takeDeferred hK, ?_⟩⟩
    refine ⟨.tuple #[(.slice none 0 0), .int .i64 ((x.1 + 1 : Nat) : Int), .int .i64 6], ?_, _, by rw [hz.out.2.1, hz.out.2.2]; rfl, by rw [hz.out.1]; exact .inl ⟨rfl, rfl⟩, hB.trans (belowK_b (w := w) (Nat.le_refl _) W D _ _ (by omega) hK rfl rfl)⟩
    have c0 := R0.cell
    have c1 := R1.cell
    have c2 := R2.cell
    simp [results, Tryd.f16, go_sem, c0, c1, c2]
/-- the program's Rows is the document's -/
theorem HRC : RowsPC := fun s w T7 => by
  have hl : s.data.toList.length = s.size := by simp
  by_cases hs : (s.size : Int) ≤ 4000
  · exact (callsIn_wide (n := 3)).1 (rows_in Fence.wide 3 trivial trivial trivial trivial trivial trivial rfl (Nat.le_refl _) w T7 s hs _ rfl
      (fun m x => callsIn_wide.2 (lines_mk x s))
      (fun m W0 hm hb => lines_stops m hm s (by omega) _ rfl _ W0 hb)
      (fun m u x hu => callsIn_wide.2 (printable_any u x hu))
      (fun m u x hu hp hT => callsIn_wide.2 (fields_any u x hu hp hT))
      (fun m x g cap ws h1 h2 => callsIn_wide.2 (counts_any x g cap ws h1 h2)))
  · refine (rows_long s w (by omega)).mono ?_
    rintro e w' ⟨rfl, hb⟩
    have h4 : ¬ s.data.toList.length ≤ 4000 := by rw [hl]; omega
    unfold lexRows lexLine lexErr
    rw [if_neg h4, if_neg h4, if_neg h4]
    exact ⟨_, rfl, .inl ⟨rfl, rfl⟩, hb⟩
theorem HR : RowsP := fun s w T7 => (HRC s w T7).mono fun e w' ⟨v, h1, h2, h3⟩ => ⟨v, h1, h2.rows, h3⟩
end Go.Proofs.YtagkgneijdbkoaaDoor
