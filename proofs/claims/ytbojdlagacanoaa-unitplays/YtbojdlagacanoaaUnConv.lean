/-
  What unit.Convert returns, called with any fraction of numbers of 64 bits and any two texts. Condition: the fraction's numbers are of 64 bits.
-/
import Derived.Test.YtbojdlagacanoaaUnConvA
import Derived.Test.YtbojdlagacanoaaUnConvB
import Derived.Test.YtbojdlagacanoaaUnConvC
namespace Go.Proofs.Ytbojdlagacanoaa
open Go.RowKit
set_option linter.unusedVariables false

theorem conv_any (n d : Int) (a b : ByteArray) (w : World) (hn : I64 n) (hd : I64 d) :
    Calls Try.prog 14 #[rv n d, .string a, .string b] w fun e w' => e = .returned (.tuple #[rv (cvT n d a b).1 (cvT n d a b).2.1, .int .i64 (cvT n d a b).2.2]) ∧ Below w.heap.size w w' := by
  have hed : ∀ w : World, (Op.equalIn 10000 23 (.agg #[.int .i64 (atU a).m, .int .i64 (atU a).l, .int .i64 (atU a).t, .int .i64 (atU a).k]) (.agg #[.int .i64 (atU b).m, .int .i64 (atU b).l, .int .i64 (atU b).t, .int .i64 (atU b).k])).run Try.prog w = .ok (dimB (atU a) (atU b)) w := fun w => eq_dims _ _ _ _ _ _ _ _ w
  unfold cvT
  cases p : isU a
  · simp only [Bool.false_and, if_true]
    exact conv_n1 (isU b) n d a b (atU a) (atU b) w (fun w => by have := find_any a w; rwa [p] at this) (fun w => find_any b w)
  cases q : isU b
  · simp only [Bool.and_false, if_true]
    exact conv_n2 n d a b (atU a) (atU b) w (fun w => by have := find_any a w; rwa [p] at this) (fun w => by have := find_any b w; rwa [q] at this)
  simp only [Bool.and_self, Bool.true_eq_false, if_false]
  cases dd : dimB (atU a) (atU b)
  · simp only [if_true]
    exact conv_kind n d a b (atU a) (atU b) w (fun w => by have := find_any a w; rwa [p] at this) (fun w => by have := find_any b w; rwa [q] at this) (fun w => by have := hed w; rwa [dd] at this)
  simp only [Bool.true_eq_false, if_false]
  cases rr : rightB n d
  · simp only [if_true]
    exact conv_arg n d a b (atU a) (atU b) w (fun w => by have := find_any a w; rwa [p] at this) (fun w => by have := find_any b w; rwa [q] at this) (fun w => by have := hed w; rwa [dd] at this) (fun w => by have := right_any n d w hn hd; rwa [rr] at this)
  simp only [Bool.true_eq_false, if_false]
  by_cases hab : a = b
  · rw [if_pos hab]
    exact conv_self n d a b (atU a) (atU b) w (fun w => by have := find_any a w; rwa [p] at this) (fun w => by have := find_any b w; rwa [q] at this) (fun w => by have := hed w; rwa [dd] at this) (fun w => by have := right_any n d w hn hd; rwa [rr] at this) (nm_yes hab)
  · rw [if_neg hab]
    exact conv_walk n d a b (atU a) (atU b) w hn hd (OkU.of (okU_at p)) (OkU.of (okU_at q)) (fun w => by have := find_any a w; rwa [p] at this) (fun w => by have := find_any b w; rwa [q] at this) (fun w => by have := hed w; rwa [dd] at this) (fun w => by have := right_any n d w hn hd; rwa [rr] at this) (nm_no hab)
end Go.Proofs.Ytbojdlagacanoaa
