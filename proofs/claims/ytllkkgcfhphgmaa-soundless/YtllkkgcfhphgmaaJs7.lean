/-
  Texts that belong together, one behind the other: RatAR, UnTab, HasK. Conditions: as each says.
-/
import Derived.Handy
import Derived.Laws.NewDeep
import Derived.Laws.ResultCell
import Derived.Laws.Tables
import Derived.Test.YtllkkgcfhphgmaaJs3
import Derived.Test.YtllkkgcfhphgmaaJs6
/-
  What ratio.Right returns, called with any fraction of numbers of 64 bits. Condition: the arguments are numbers of their kinds.
-/
namespace Go.Proofs.Ytllkkgcfhphgmaa
open Go.RowKit
set_option linter.unusedVariables false

/-- a fraction's value -/
abbrev rv (n d : Int) : Value := .agg #[.int .i64 n, .int .i64 d]

theorem below_drewN {B : Nat} {a w : World} (h : Below B a w) (n : Nat) : Below B a (w.drewN n) := ⟨h.os, h.tape, h.output, h.size, h.block⟩

theorem below_set2 {B : Nat} {a w : World} (h : Below B a w) {p q : Addr} {u v : Value} (hp : B ≤ p.block) (hq : B ≤ q.block) : Below B a ((w.setCell p u).setCell q v) := (h.setCell hp u).setCell hq v

theorem ret_b {a b : Bool} (h : b = a) : Ending.returned (.bool a) = .returned (.bool b) := by rw [h]

set_option maxHeartbeats 400000 in
theorem right_any (n d : Int) (w : World) (hn : I64 n) (hd : I64 d) :
    Calls Try.prog 37 #[rv n d] w fun e w' => e = .returned (.bool (rightB n d)) ∧ Below w.heap.size w w' := by
  have fg : Hid (∀ w, Calls Try.prog 53 #[.int .i64 n, .int .i64 d] w fun e w' => e = .returned (.tuple #[.int .i64 (fitV (gcdN n d : Int)), .bool (fitB (gcdN n d : Int))]) ∧ ∃ k, w' = w.drewN k) := fun w => gcd_any n d w hn hd
  have fr : Hid ((rightB n d = (decide (0 < d) && decide (fitV (gcdN n d : Int) = 1)))) := by
    show _ = _
    unfold rightB
    congr 1
    by_cases h : I64 (gcdN n d : Int)
    · rw [(fit_yes h).2]; simp only [decide_eq_decide]; omega
    · rw [(fit_no h).2]
      have : ¬ gcdN n d = 1 := by intro e; apply h; rw [e]; exact ⟨by omega, by omega⟩
      simp [this]
  clear hn hd
  generalize rightB n d = r at *
  generalize fitV (gcdN n d : Int) = g at *
  generalize fitB (gcdN n d : Int) = gb at *
  go_enter Try.func37, Try.ntmps37
  go_wp2_with fail
  refine (fg.out _).mono ?_
  rintro e w' ⟨rfl, k, rfl⟩
  go_wp2
  all_goals
    go_ret
    refine ⟨ret_b ?_, below_drewN (by go_grown) k⟩
    rw [fr.out, Bool.eq_iff_iff]
    simp
    omega

end Go.Proofs.Ytllkkgcfhphgmaa
/-
  The table of units, row by row, as a list; how a row lies as a value; which row a name has. No conditions.
-/
namespace Go.Proofs.Ytllkkgcfhphgmaa
open Go.RowKit
set_option linter.unusedVariables false

structure U where
  nm : ByteArray
  m : Int
  l : Int
  t : Int
  k : Int
  fn : Int
  fd : Int
  on : Int
  od : Int
  code : Int

abbrev encU (u : U) : Value := .agg #[.string u.nm, .int .i64 u.m, .int .i64 u.l, .int .i64 u.t, .int .i64 u.k, .int .i64 u.fn, .int .i64 u.fd, .int .i64 u.on, .int .i64 u.od, .int .i64 u.code]

def tab : List U := [
  ⟨⟨#[111, 110, 101]⟩, 0, 0, 0, 0, 1, 1, 0, 1, 512⟩,
  ⟨⟨#[112, 99, 116]⟩, 0, 0, 0, 0, 1, 100, 0, 1, 544⟩,
  ⟨⟨#[107, 103]⟩, 1, 0, 0, 0, 1, 1, 0, 1, 1731⟩,
  ⟨⟨#[103]⟩, 1, 0, 0, 0, 1, 1000, 0, 1, 1728⟩,
  ⟨⟨#[108, 98]⟩, 1, 0, 0, 0, 45359237, 100000000, 0, 1, 1760⟩,
  ⟨⟨#[109]⟩, 0, 1, 0, 0, 1, 1, 0, 1, 1280⟩,
  ⟨⟨#[99, 109]⟩, 0, 1, 0, 0, 1, 100, 0, 1, 1297⟩,
  ⟨⟨#[109, 109]⟩, 0, 1, 0, 0, 1, 1000, 0, 1, 1298⟩,
  ⟨⟨#[105, 110]⟩, 0, 1, 0, 0, 127, 5000, 0, 1, 1376⟩,
  ⟨⟨#[115]⟩, 0, 0, 1, 0, 1, 1, 0, 1, 2176⟩,
  ⟨⟨#[109, 105, 110]⟩, 0, 0, 1, 0, 60, 1, 0, 1, 2208⟩,
  ⟨⟨#[104]⟩, 0, 0, 1, 0, 3600, 1, 0, 1, 2240⟩,
  ⟨⟨#[107]⟩, 0, 0, 0, 1, 1, 1, 0, 1, 3520⟩,
  ⟨⟨#[99]⟩, 0, 0, 0, 1, 1, 1, 5463, 20, 6048⟩,
  ⟨⟨#[102]⟩, 0, 0, 0, 1, 5, 9, 45967, 180, 4416⟩,
  ⟨⟨#[112, 97]⟩, 1, (-1), (-2), 0, 1, 1, 0, 1, 3840⟩,
  ⟨⟨#[107, 112, 97]⟩, 1, (-1), (-2), 0, 1000, 1, 0, 1, 3843⟩,
  ⟨⟨#[109, 109, 104, 103]⟩, 1, (-1), (-2), 0, 20265, 152, 0, 1, 3872⟩,
  ⟨⟨#[99, 109, 104, 111]⟩, 1, (-1), (-2), 0, 196133, 2000, 0, 1, 3904⟩,
  ⟨⟨#[108]⟩, 0, 3, 0, 0, 1, 1000, 0, 1, 1600⟩,
  ⟨⟨#[109, 108]⟩, 0, 3, 0, 0, 1, 1000000, 0, 1, 1618⟩,
  ⟨⟨#[108, 112, 109]⟩, 0, 3, (-1), 0, 1, 60000, 0, 1, 3072⟩,
  ⟨⟨#[109, 108, 104]⟩, 0, 3, (-1), 0, 1, 3600000000, 0, 1, 3122⟩,
  ⟨⟨#[98, 112, 109]⟩, 0, 0, (-1), 0, 1, 60, 0, 1, 2720⟩,
  ⟨⟨#[104, 122]⟩, 0, 0, (-1), 0, 1, 1, 0, 1, 2496⟩]

/-- what is answered where there is no such name -/
def noU : U := ⟨⟨#[]⟩, 0, 0, 0, 0, 0, 0, 0, 0, 0⟩
/-- is there a row of that name? -/
def isU (s : ByteArray) : Bool := tab.any (fun u => decide (u.nm = s))
/-- the row of that name, or nothing -/
def atU (s : ByteArray) : U := (tab.find? (fun u => decide (u.nm = s))).getD noU

theorem nm_eq (a b : ByteArray) : (a.toList == b.toList) = decide (a = b) := by
  rw [ByteArray.toList_eq, ByteArray.toList_eq]
  by_cases h : a = b
  · subst h; simp
  · rw [decide_eq_false h, beq_eq_false_iff_ne]
    exact fun e => h (ByteArray.ext (Array.toList_inj.mp e))
theorem nm_yes {a b : ByteArray} (h : a = b) : (a.toList == b.toList) = true := by rw [nm_eq, decide_eq_true h]
theorem nm_no {a b : ByteArray} (h : ¬ a = b) : (a.toList == b.toList) = false := by rw [nm_eq, decide_eq_false h]
theorem tab_len : tab.length = 25 := rfl
theorem isU_of {s : ByteArray} {u : U} (h : u ∈ tab) (e : u.nm = s) : isU s = true := by
  unfold isU; rw [List.any_eq_true]; exact ⟨u, h, by simp [e]⟩
theorem isU_not {s : ByteArray} (h : ∀ u ∈ tab, u.nm ≠ s) : isU s = false ∧ atU s = noU := by
  constructor
  · unfold isU; rw [List.any_eq_false]; intro u hu; simp [h u hu]
  · unfold atU
    rw [List.find?_eq_none.2 (fun u hu => by simp [h u hu])]
    rfl
/-- the first row of that name is the one -/
theorem atU_first {s : ByteArray} {pre rest : List U} {u : U} (h : tab = pre ++ u :: rest) (hp : ∀ x ∈ pre, x.nm ≠ s) (e : u.nm = s) : isU s = true ∧ atU s = u := by
  refine ⟨isU_of (u := u) (by rw [h]; simp) e, ?_⟩
  unfold atU
  rw [h, List.find?_append, List.find?_eq_none.2 (fun x hx => by simp [hp x hx])]
  simp [e]

/-- all rows' cells, one behind the other -/
def bigA : Array Value := (tab.flatMap (fun u => [.string u.nm, .int .i64 u.m, .int .i64 u.l, .int .i64 u.t, .int .i64 u.k, .int .i64 u.fn, .int .i64 u.fd, .int .i64 u.on, .int .i64 u.od, .int .i64 u.code])).toArray
set_option maxRecDepth 100000 in
theorem build_big (w : World) : (Instr.build 113 #[(0, .agg #[.string ⟨#[111, 110, 101]⟩, .int .i64 0, .int .i64 0, .int .i64 0, .int .i64 0, .int .i64 1, .int .i64 1, .int .i64 0, .int .i64 1, .int .i64 512]),
    (1, .agg #[.string ⟨#[112, 99, 116]⟩, .int .i64 0, .int .i64 0, .int .i64 0, .int .i64 0, .int .i64 1, .int .i64 100, .int .i64 0, .int .i64 1, .int .i64 544]),
    (2, .agg #[.string ⟨#[107, 103]⟩, .int .i64 1, .int .i64 0, .int .i64 0, .int .i64 0, .int .i64 1, .int .i64 1, .int .i64 0, .int .i64 1, .int .i64 1731]),
    (3, .agg #[.string ⟨#[103]⟩, .int .i64 1, .int .i64 0, .int .i64 0, .int .i64 0, .int .i64 1, .int .i64 1000, .int .i64 0, .int .i64 1, .int .i64 1728]),
    (4, .agg #[.string ⟨#[108, 98]⟩, .int .i64 1, .int .i64 0, .int .i64 0, .int .i64 0, .int .i64 45359237, .int .i64 100000000, .int .i64 0, .int .i64 1, .int .i64 1760]),
    (5, .agg #[.string ⟨#[109]⟩, .int .i64 0, .int .i64 1, .int .i64 0, .int .i64 0, .int .i64 1, .int .i64 1, .int .i64 0, .int .i64 1, .int .i64 1280]),
    (6, .agg #[.string ⟨#[99, 109]⟩, .int .i64 0, .int .i64 1, .int .i64 0, .int .i64 0, .int .i64 1, .int .i64 100, .int .i64 0, .int .i64 1, .int .i64 1297]),
    (7, .agg #[.string ⟨#[109, 109]⟩, .int .i64 0, .int .i64 1, .int .i64 0, .int .i64 0, .int .i64 1, .int .i64 1000, .int .i64 0, .int .i64 1, .int .i64 1298]),
    (8, .agg #[.string ⟨#[105, 110]⟩, .int .i64 0, .int .i64 1, .int .i64 0, .int .i64 0, .int .i64 127, .int .i64 5000, .int .i64 0, .int .i64 1, .int .i64 1376]),
    (9, .agg #[.string ⟨#[115]⟩, .int .i64 0, .int .i64 0, .int .i64 1, .int .i64 0, .int .i64 1, .int .i64 1, .int .i64 0, .int .i64 1, .int .i64 2176]),
    (10, .agg #[.string ⟨#[109, 105, 110]⟩, .int .i64 0, .int .i64 0, .int .i64 1, .int .i64 0, .int .i64 60, .int .i64 1, .int .i64 0, .int .i64 1, .int .i64 2208]),
    (11, .agg #[.string ⟨#[104]⟩, .int .i64 0, .int .i64 0, .int .i64 1, .int .i64 0, .int .i64 3600, .int .i64 1, .int .i64 0, .int .i64 1, .int .i64 2240]),
    (12, .agg #[.string ⟨#[107]⟩, .int .i64 0, .int .i64 0, .int .i64 0, .int .i64 1, .int .i64 1, .int .i64 1, .int .i64 0, .int .i64 1, .int .i64 3520]),
    (13, .agg #[.string ⟨#[99]⟩, .int .i64 0, .int .i64 0, .int .i64 0, .int .i64 1, .int .i64 1, .int .i64 1, .int .i64 5463, .int .i64 20, .int .i64 6048]),
    (14, .agg #[.string ⟨#[102]⟩, .int .i64 0, .int .i64 0, .int .i64 0, .int .i64 1, .int .i64 5, .int .i64 9, .int .i64 45967, .int .i64 180, .int .i64 4416]),
    (15, .agg #[.string ⟨#[112, 97]⟩, .int .i64 1, .int .i64 (-1), .int .i64 (-2), .int .i64 0, .int .i64 1, .int .i64 1, .int .i64 0, .int .i64 1, .int .i64 3840]),
    (16, .agg #[.string ⟨#[107, 112, 97]⟩, .int .i64 1, .int .i64 (-1), .int .i64 (-2), .int .i64 0, .int .i64 1000, .int .i64 1, .int .i64 0, .int .i64 1, .int .i64 3843]),
    (17, .agg #[.string ⟨#[109, 109, 104, 103]⟩, .int .i64 1, .int .i64 (-1), .int .i64 (-2), .int .i64 0, .int .i64 20265, .int .i64 152, .int .i64 0, .int .i64 1, .int .i64 3872]),
    (18, .agg #[.string ⟨#[99, 109, 104, 111]⟩, .int .i64 1, .int .i64 (-1), .int .i64 (-2), .int .i64 0, .int .i64 196133, .int .i64 2000, .int .i64 0, .int .i64 1, .int .i64 3904]),
    (19, .agg #[.string ⟨#[108]⟩, .int .i64 0, .int .i64 3, .int .i64 0, .int .i64 0, .int .i64 1, .int .i64 1000, .int .i64 0, .int .i64 1, .int .i64 1600]),
    (20, .agg #[.string ⟨#[109, 108]⟩, .int .i64 0, .int .i64 3, .int .i64 0, .int .i64 0, .int .i64 1, .int .i64 1000000, .int .i64 0, .int .i64 1, .int .i64 1618]),
    (21, .agg #[.string ⟨#[108, 112, 109]⟩, .int .i64 0, .int .i64 3, .int .i64 (-1), .int .i64 0, .int .i64 1, .int .i64 60000, .int .i64 0, .int .i64 1, .int .i64 3072]),
    (22, .agg #[.string ⟨#[109, 108, 104]⟩, .int .i64 0, .int .i64 3, .int .i64 (-1), .int .i64 0, .int .i64 1, .int .i64 3600000000, .int .i64 0, .int .i64 1, .int .i64 3122]),
    (23, .agg #[.string ⟨#[98, 112, 109]⟩, .int .i64 0, .int .i64 0, .int .i64 (-1), .int .i64 0, .int .i64 1, .int .i64 60, .int .i64 0, .int .i64 1, .int .i64 2720]),
    (24, .agg #[.string ⟨#[104, 122]⟩, .int .i64 0, .int .i64 0, .int .i64 (-1), .int .i64 0, .int .i64 1, .int .i64 1, .int .i64 0, .int .i64 1, .int .i64 2496])]).run Try.prog w = .ok (.agg bigA) w := run_build w 113 _ _ (by kernel_rfl)
set_option maxRecDepth 100000 in
theorem index_big (w : World) : ∀ (k : Nat) (h : k < tab.length), (Instr.index 113 (.agg bigA) (.int .i64 (k : Int))).run Try.prog w = .ok (encU tab[k]) w
  | 0, _ => by kernel_rfl
  | 1, _ => by kernel_rfl
  | 2, _ => by kernel_rfl
  | 3, _ => by kernel_rfl
  | 4, _ => by kernel_rfl
  | 5, _ => by kernel_rfl
  | 6, _ => by kernel_rfl
  | 7, _ => by kernel_rfl
  | 8, _ => by kernel_rfl
  | 9, _ => by kernel_rfl
  | 10, _ => by kernel_rfl
  | 11, _ => by kernel_rfl
  | 12, _ => by kernel_rfl
  | 13, _ => by kernel_rfl
  | 14, _ => by kernel_rfl
  | 15, _ => by kernel_rfl
  | 16, _ => by kernel_rfl
  | 17, _ => by kernel_rfl
  | 18, _ => by kernel_rfl
  | 19, _ => by kernel_rfl
  | 20, _ => by kernel_rfl
  | 21, _ => by kernel_rfl
  | 22, _ => by kernel_rfl
  | 23, _ => by kernel_rfl
  | 24, _ => by kernel_rfl
  | k + 25, h => by exfalso; have := tab_len; omega
end Go.Proofs.Ytllkkgcfhphgmaa
/-
  A block of two cells, kept where only what is new is written. No conditions but those that each says.
-/
namespace Go.Proofs.Ytllkkgcfhphgmaa
open Go.RowKit
set_option linter.unusedVariables false

theorem kept2 {w w' : World} {x y : Value} {b : Nat} (h : Below w.heap.size w w') (h0 : w.cell? ⟨b, 0, none⟩ = some x) (h1 : w.cell? ⟨b, 1, none⟩ = some y)
    (f0 : w.frozen? ⟨b, 0, none⟩ = false) (f1 : w.frozen? ⟨b, 1, none⟩ = false) :
    w'.cell? ⟨b, 0, none⟩ = some x ∧ w'.cell? ⟨b, 1, none⟩ = some y ∧ w'.frozen? ⟨b, 0, none⟩ = false ∧ w'.frozen? ⟨b, 1, none⟩ = false ∧ b < w'.heap.size := by
  have hb : b < w.heap.size := block_lt_of_cell h0
  exact ⟨(h.cell hb).trans h0, (h.cell hb).trans h1, (h.frozen hb).trans f0, (h.frozen hb).trans f1, Nat.lt_of_lt_of_le hb h.size⟩
/-- a block of two cells that may be written -/
def Has (w : World) (b : Nat) (x y : Value) : Prop :=
  w.cell? ⟨b, 0, none⟩ = some x ∧ w.cell? ⟨b, 1, none⟩ = some y ∧ w.frozen? ⟨b, 0, none⟩ = false ∧ w.frozen? ⟨b, 1, none⟩ = false ∧ b < w.heap.size
theorem Has.below {w w' : World} {b : Nat} {x y : Value} (h : Has w b x y) (hb : Below w.heap.size w w') : Has w' b x y := kept2 hb h.1 h.2.1 h.2.2.1 h.2.2.2.1
theorem has_new (w : World) (x y : Value) (t : TypeId) : Has (w.alloc (.cells #[x, y] t)) w.heap.size x y := by
  refine ⟨?_, ?_, ?_, ?_, ?_⟩ <;> simp
theorem Has.alloc {w : World} {b : Nat} {x y : Value} (h : Has w b x y) (o : Obj) : Has (w.alloc o) b x y :=
  h.below ((Below.refl _ _).alloc (Nat.le_refl _) _)
theorem below_trans {a b c : World} (h : Below a.heap.size a b) (k : Below b.heap.size b c) : Below a.heap.size a c := h.trans (k.mono h.size)

theorem ret_make {a b c n d e : Int} (h : n = a ∧ d = b ∧ e = c) : Ending.returned (.tuple #[rv a b, .int .i64 c]) = .returned (.tuple #[rv n d, .int .i64 e]) := by rw [h.1, h.2.1, h.2.2]

/-- a return of a fraction that lies in a block of its own, and of what is wrong -/
theorem res_pair {fn : Func} {p u : Tmp} (h : fn.results = #[.cell p 43, .tmp u]) {tmps : Array Value} {w : World} {b : Nat} {x y e : Value}
    (hp : tmps.getD p undef = .pointer (some ⟨b, 0, none⟩)) (hu : tmps.getD u undef = e) (h0 : w.cell? ⟨b, 0, none⟩ = some x) (h1 : w.cell? ⟨b, 1, none⟩ = some y) :
    (results fn tmps).run Try.prog w = .ok (.tuple #[.agg #[x, y], e]) w := by
  rw [results_cell_tmp h, hp, hu]
  simp only [asAddr]
  simp [go_sem, Result.andThen, h0, h1]

theorem wrote2 {w : World} {b : Nat} {x y u v : Value} (c0 : w.cell? ⟨b, 0, none⟩ = some u) (c1 : w.cell? ⟨b, 1, none⟩ = some v) :
    ((w.setCell ⟨b, 0, none⟩ x).setCell ⟨b, 1, none⟩ y).cell? ⟨b, 0, none⟩ = some x ∧ ((w.setCell ⟨b, 0, none⟩ x).setCell ⟨b, 1, none⟩ y).cell? ⟨b, 1, none⟩ = some y := by
  have n1 : (⟨b, 1, none⟩ : Addr) ≠ ⟨b, 0, none⟩ := by simp
  have n2 : (⟨b, 0, none⟩ : Addr) ≠ ⟨b, 1, none⟩ := by simp
  constructor
  · rw [World.cell?_setCell_other _ _ _ _ n1]; exact World.cell?_setCell_same _ _ _ c0
  · refine World.cell?_setCell_same _ _ _ (u := v) ?_
    rw [World.cell?_setCell_other _ _ _ _ n2]; exact c1
theorem wrote2_past {w : World} {b : Nat} {x y u v : Value} (o : Obj) (c0 : w.cell? ⟨b, 0, none⟩ = some u) (c1 : w.cell? ⟨b, 1, none⟩ = some v) :
    (((w.setCell ⟨b, 0, none⟩ x).setCell ⟨b, 1, none⟩ y).alloc o).cell? ⟨b, 0, none⟩ = some x ∧ (((w.setCell ⟨b, 0, none⟩ x).setCell ⟨b, 1, none⟩ y).alloc o).cell? ⟨b, 1, none⟩ = some y := by
  have hb : b < w.heap.size := block_lt_of_cell c0
  have h := wrote2 (x := x) (y := y) c0 c1
  exact ⟨(World.cell?_alloc_lt _ _ _ (by simpa using hb)).trans h.1, (World.cell?_alloc_lt _ _ _ (by simpa using hb)).trans h.2⟩

end Go.Proofs.Ytllkkgcfhphgmaa
