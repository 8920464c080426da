/-
  The law on two texts, a line end between (layer 7), out of the contract. Conditions: as it says.
-/
import Derived.Test.YteemaofajcbniaaDoorLexLawB
namespace Go.Proofs.YteemaofajcbniaaDoor
open Go.RowKit
set_option linter.unusedVariables false

theorem cat_data (s t : ByteArray) : (s ++ ⟨#[10]⟩ ++ t).data.toList = s.data.toList ++ 10 :: t.data.toList := by
  rw [ByteArray.data_append, ByteArray.data_append, Array.toList_append, Array.toList_append, List.append_assoc]
  rfl
theorem lex_of_ok {s : List UInt8} {r : List Ln} (hs : s.length ≤ 4000) (h : scanL 1 [] [] s = .ok r) : lexRows s = r ∧ lexLine s = 0 ∧ lexErr s = 0 := by
  unfold lexRows lexLine lexErr
  rw [if_pos hs, if_pos hs, if_pos hs, h]
  exact ⟨rfl, rfl, rfl⟩
theorem lex_of_err {s : List UInt8} {n : Nat} (hs : s.length ≤ 4000) (h : scanL 1 [] [] s = .error n) : lexRows s = [] ∧ lexLine s = n ∧ lexErr s = 6 := by
  unfold lexRows lexLine lexErr
  rw [if_pos hs, if_pos hs, if_pos hs, h]
  exact ⟨rfl, rfl, rfl⟩
theorem alike_shift (d : Nat) (a b : List Ln) : AlikeR false (a ++ shiftL d b) (a ++ b) := by
  refine ⟨by unfold shiftL; simp, fun i h1 h2 => ⟨?_, fun h => by cases h⟩⟩
  rcases Nat.lt_or_ge i a.length with h | h
  · rw [List.getElem_append_left h, List.getElem_append_left h]
  · rw [List.getElem_append_right h, List.getElem_append_right h]
    unfold shiftL
    rw [List.getElem_map]
theorem roC (h : RowsP) {w : World} (T : Tab7 w) (s : ByteArray) : RoC w s ((lexLine s.data.toList : Nat) : Int) ((lexErr s.data.toList : Nat) : Int) (lexRows s.data.toList) := fun x hx => h s x (T.below hx)
theorem rok_app {a b : List Ln} (ha : RowsOk a) (hb : RowsOk b) : RowsOk (a ++ b) := fun r hr => by
  rcases List.mem_append.1 hr with h | h
  · exact ha r h
  · exact hb r h
theorem lparts_ok (w : World) (s t : ByteArray) (hs : (s.size : Int) ≤ 1900) (ht : (t.size : Int) ≤ 1900) (RA RB RC : List Ln) (okA : RowsOk RA) (okB : RowsOk RB) (lA : (RA.length : Int) ≤ 4100) (lB : (RB.length : Int) ≤ 4100) (aw : AwC7 w) (ca : RoC w s 0 0 RA) (cb : RoC w t 0 0 RB) (cc : RoC w (s ++ ⟨#[10]⟩ ++ t) 0 0 RC) (cs : SaC false RC (RA ++ RB)) :
    Calls Tryd.prog 6 #[.string s, .string t] w fun e w' => e = .returned (.bool true) ∧ Below w.heap.size w w' := by
  exact lparts_ok0 w s t hs ht _ _ lA lB RA RB RC ⟨rfl, rfl⟩ ⟨okA, okB⟩ aw ca cb cc cs
/-- the law, out of the contract -/
theorem lparts_any (h : RowsP) (w : World) (T : Tab7 w) (s t : ByteArray) : Calls Tryd.prog 6 #[.string s, .string t] w fun e w' => e = .returned (.bool true) ∧ Below w.heap.size w w' := by
  have aw := awake7 h T
  by_cases hs : (s.size : Int) ≤ 1900
  · by_cases ht : (t.size : Int) ≤ 1900
    · have ls : s.data.toList.length ≤ 4000 := by simp; omega
      have lt : t.data.toList.length ≤ 4000 := by simp; omega
      have l2 : (s.data.toList ++ 10 :: t.data.toList).length ≤ 4000 := by simp; omega
      have ca := roC h T s
      have cb := roC h T t
      have cc := roC h T (s ++ ⟨#[10]⟩ ++ t)
      rw [cat_data] at cc
      have sp := scan_parts s.data.toList t.data.toList 1 [] []
      cases hsc : scanL 1 [] [] s.data.toList with
      | error n =>
        rw [hsc] at sp
        obtain ⟨e1, e2, e3⟩ := lex_of_err ls hsc
        obtain ⟨f1, f2, f3⟩ := lex_of_err l2 sp
        rw [e1, e2, e3] at ca
        rw [f1, f2, f3] at cc
        exact lparts_e w s t hs ht _ _ 0 _ _ _ aw ca cb (roNo cc)
      | ok a =>
        rw [hsc] at sp
        obtain ⟨e1, e2, e3⟩ := lex_of_ok ls hsc
        have ss := scan_shift (nlN s.data.toList + 1) t.data.toList 1 [] []
        rw [show 1 + (nlN s.data.toList + 1) = 1 + nlN s.data.toList + 1 by omega] at ss
        simp only [ss] at sp
        rw [e2, e3] at ca
        cases htc : scanL 1 [] [] t.data.toList with
        | error m =>
          simp only [htc, map_err] at sp
          obtain ⟨g1, g2, g3⟩ := lex_of_err lt htc
          obtain ⟨f1, f2, f3⟩ := lex_of_err l2 sp
          rw [g3] at cb
          rw [f1, f2, f3] at cc
          exact lparts_f w s t hs ht 0 _ _ 0 _ _ aw ca cb (roNo cc)
        | ok b =>
          simp only [htc, map_ok] at sp
          obtain ⟨g1, g2, g3⟩ := lex_of_ok lt htc
          obtain ⟨f1, f2, f3⟩ := lex_of_ok l2 sp
          rw [g2, g3] at cb
          rw [f2, f3] at cc
          have q := lex_len (s.data.toList ++ 10 :: t.data.toList)
          have okA := lex_rok s.data.toList
          have okB := lex_rok t.data.toList
          have lA := (lex_len s.data.toList).1
          have lB := (lex_len t.data.toList).1
          have cs : SaC false (lexRows (s.data.toList ++ 10 :: t.data.toList)) (lexRows s.data.toList ++ lexRows t.data.toList) :=
            saC (by have := q.1; omega) (fun r hr => by have := q.2 r hr; omega) (by rw [f1, e1, g1]; exact alike_shift _ _ _) (lex_rok _) (rok_app okA okB)
          exact lparts_ok w s t hs ht _ _ _ okA okB (by omega) (by omega) aw ca cb cc cs
    · exact lparts_lt w s t hs (by omega) aw
  · exact lparts_ls w s t (by omega) aw
end Go.Proofs.YteemaofajcbniaaDoor
