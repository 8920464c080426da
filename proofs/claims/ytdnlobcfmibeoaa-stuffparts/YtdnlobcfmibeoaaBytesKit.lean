/-
  Bytes in memory, as laws and functions hand them over and make them: slices, rows of one's own, texts of them; a number's bytes. No function of a program is named here. No conditions but those that each says.
-/
import Derived.Test.YtdnlobcfmibeoaaProg
import Derived.WalkKit
import Derived.OwnWalk
import Derived.Maps.AppendAt
import Derived.Laws.OwnMore
import Derived.Laws.Tables
import Derived.Laws.BytesArg
import Derived.Below
import Derived.Handy
import Derived.RangeFuncBox
import Derived.WalkSpells
import Derived.WalkLawsBesides
import Derived.ProofKit
import Derived.OpenShut
import Derived.ShutString
import Derived.ChangeOld
namespace Go.Proofs.Ytdnlobcfmibeoaa
open Go.ChangeShapes Go.WideShapes Go.ChangeAt Go.RowKit
set_option linter.unusedVariables false

theorem belowT {a b c : World} (h : Below a.heap.size a b) (k : Below b.heap.size b c) : Below a.heap.size a c := h.trans (k.mono h.size)
theorem below_dn (w : World) (n : Nat) : Below w.heap.size w (w.drewN n) := ⟨rfl, rfl, rfl, Nat.le_refl _, fun _ _ => rfl⟩
theorem blk_far (w : World) (a : Addr) (u : Value) (k : Nat) (h : k ≠ a.block) : (w.setCell a u).heap[k]? = w.heap[k]? := by
  simp [World.setCell, Array.getElem?_modify, Ne.symm h]
theorem ret_nat {k : IntKind} {a b : Nat} (h : a = b) : Ending.returned (.int k (a : Int)) = .returned (.int k (b : Int)) := by rw [h]
def BytesIn (w : World) (gb ob : Nat) (bs : List Nat) : Prop := ∀ j (h : j < bs.length), w.cell? ⟨gb, ob + j, none⟩ = some (.int .u8 (bs[j] : Int))
def AllBytes (bs : List Nat) : Prop := ∀ c ∈ bs, c < 256
theorem BytesIn.at {w x : World} {gb ob : Nat} {bs : List Nat} (h : BytesIn w gb ob bs) (hg : gb < w.heap.size) (hb : Below w.heap.size w x) (k : Nat) (hk : k < bs.length) : x.cell? ⟨gb, ob + k, none⟩ = some (.int .u8 (bs[k] : Int)) :=
  (hb.cell (p := ⟨gb, ob + k, none⟩) hg).trans (h k hk)
/-- a slice of bytes, as it is handed over -/
def BytesAt (w : World) (b : Value) (bs : List Nat) : Prop :=
  (b = .slice none 0 0 ∧ bs = []) ∨ ∃ g o cap, b = .slice (some ⟨g, o, none⟩) bs.length cap ∧ BytesIn w g o bs ∧ g < w.heap.size
theorem BytesAt.below {w x : World} {b : Value} {bs : List Nat} (h : BytesAt w b bs) (k : Below w.heap.size w x) : BytesAt x b bs := by
  rcases h with h | ⟨g, o, cap, h1, h2, h3⟩
  · exact .inl h
  · exact .inr ⟨g, o, cap, h1, fun j hj => h2.at h3 k j hj, Nat.lt_of_lt_of_le h3 k.size⟩
theorem bd_u8 {n : Int} (h : (Lit.int .u8 n).wf = true) : 0 ≤ n ∧ n < 256 := by
  simp [Lit.wf, IntKind.min, IntKind.max, IntKind.bits, IntKind.signed] at h; omega
theorem bd_u16 {n : Int} (h : (Lit.int .u16 n).wf = true) : 0 ≤ n ∧ n < 65536 := by
  simp [Lit.wf, IntKind.min, IntKind.max, IntKind.bits, IntKind.signed] at h; omega
theorem bd_u32 {n : Int} (h : (Lit.int .u32 n).wf = true) : 0 ≤ n ∧ n < 4294967296 := by
  simp [Lit.wf, IntKind.min, IntKind.max, IntKind.bits, IntKind.signed] at h; omega
theorem bd_i64 {n : Int} (h : (Lit.int .i64 n).wf = true) : -9223372036854775808 ≤ n ∧ n ≤ 9223372036854775807 := by
  simp [Lit.wf, IntKind.min, IntKind.max, IntKind.bits, IntKind.signed] at h; omega
theorem cellsU8 : Try.prog.cellsOf 5 = 1 := by kernel_rfl
/-- a slice of bytes that was handed over -/
def BytesV (w : World) (v : Value) (bs : List Nat) : Prop :=
  (v = .slice none 0 0 ∧ bs = []) ∨ ∃ g o cap, v = .slice (some ⟨g, o, none⟩) bs.length cap ∧ bs.length ≤ cap ∧ cap ≤ maxLen ∧ BytesIn w g o bs ∧ g < w.heap.size
theorem BytesV.at {w : World} {v : Value} {bs : List Nat} (h : BytesV w v bs) : BytesAt w v bs := by
  rcases h with h | ⟨g, o, cap, h1, _, _, h2, h3⟩
  · exact .inl h
  · exact .inr ⟨g, o, cap, h1, h2, h3⟩
theorem BytesV.len {w : World} {v : Value} {bs : List Nat} (h : BytesV w v bs) : (bs.length : Int) ≤ 9223372036854775807 := by
  rcases h with ⟨_, rfl⟩ | ⟨g, o, cap, _, h1, h2, _⟩
  · simp
  · unfold maxLen at h2; omega
theorem BytesV.below {w x : World} {v : Value} {bs : List Nat} (h : BytesV w v bs) (k : Below w.heap.size w x) : BytesV x v bs := by
  rcases h with h | ⟨g, o, cap, h1, ha, hb, h2, h3⟩
  · exact .inl h
  · exact .inr ⟨g, o, cap, h1, ha, hb, fun j hj => h2.at h3 k j hj, Nat.lt_of_lt_of_le h3 k.size⟩
theorem addr_add (g o j : Nat) : (⟨g, o, none⟩ : Addr).add j = ⟨g, o + j, none⟩ := by
  unfold Addr.add
  by_cases h : j = 0
  · subst h; simp
  · simp [h]
set_option maxRecDepth 100000 in
theorem open_bytes {H : Type} {enc : TypeId × Value → H} {w : World} {b0 : Nat} {v : Value} {d : DataW H} {ps : List MemPlace} (hv : Value.okWide Try.prog w .any b0 22 v) (h : DataW.Trod enc Try.prog w 0 (fun _ => true) true 22 v d ps) :
    ∃ bs, BytesV w v bs ∧ AllBytes bs := by
  obtain ⟨a, len, cap, rfl⟩ := okWide_slice Try.underlying22 hv
  obtain ⟨fuel, hf⟩ := h
  rcases open_ints Try.underlying22 Try.underlying5 cellsU8 hf with ⟨hcs, _⟩ | ⟨x, l, c, zs, hcs, _, hl, hm, hz, _, hcell, hwz⟩
  · simp [Value.cells] at hcs
    obtain ⟨rfl, rfl, rfl⟩ := hcs
    exact ⟨[], .inl ⟨rfl, rfl⟩, fun c hc => by cases hc⟩
  · simp [Value.cells] at hcs
    obtain ⟨rfl, rfl, rfl⟩ := hcs
    simp only [Value.okWide, Try.underlying22, Cell.okWide, Cell.ok] at hv
    obtain ⟨_, _, _, hsp, row, cells, hsh, _⟩ := hv
    obtain ⟨g, o, sp⟩ := x
    simp only at hsp hsh
    subst hsp
    have hg : g < w.heap.size := by
      unfold World.shape? at hsh
      rcases Nat.lt_or_ge g w.heap.size with h | h
      · exact h
      · rw [Array.getElem?_eq_none h] at hsh; cases hsh
    simp only [if_true] at hz
    have hlen : ((zs.take len).map Int.toNat).length = len := by simp; omega
    refine ⟨(zs.take len).map Int.toNat, .inr ⟨g, o, cap, by rw [hlen], by rw [hlen]; exact hl, hm, ?_, hg⟩, ?_⟩
    · intro j hj
      rw [hlen] at hj
      have hj2 : j < zs.length := by omega
      have e1 := hcell j hj2
      have e2 : zs.getD j 0 = zs[j] := by rw [List.getD_eq_getElem?_getD, List.getElem?_eq_getElem hj2]; rfl
      have e3 := (bd_u8 (hwz zs[j] (List.getElem_mem hj2))).1
      rw [addr_add] at e1
      rw [e1, e2]
      simp only [List.getElem_map, List.getElem_take]
      rw [Int.toNat_of_nonneg e3]
    · intro c hc
      obtain ⟨n, hn, rfl⟩ := List.mem_map.1 hc
      have := bd_u8 (hwz n (List.mem_of_mem_take hn))
      omega

theorem info_u8 : (Try.prog.info? 5).map (fun i => (i.zero, i.size, i.bytes)) = some (some (.int .u8 0), 1, 1) := by kernel_rfl
abbrev u8v (bs : List Nat) : List Value := bs.map fun (n : Nat) => Value.int .u8 (n : Int)
/-- bytes from the start of block g on -/
def RowU (x : World) (g cap : Nat) (bs : List Nat) : Prop :=
  bs.length ≤ cap ∧ cap ≤ maxLen ∧ ∃ cur : Array Value, x.heap[g]? = some (.cells cur 5 (0, 0)) ∧ cur.size = cap ∧ cur.toList.take bs.length = u8v bs
theorem RowU.lt {x : World} {g cap : Nat} {bs : List Nat} (h : RowU x g cap bs) : g < x.heap.size := by
  obtain ⟨_, _, cur, h4, _⟩ := h
  exact (Array.getElem?_eq_some_iff.1 h4).1
theorem RowU.cell {x : World} {g cap : Nat} {bs : List Nat} (h : RowU x g cap bs) (j : Nat) (hj : j < bs.length) : x.cell? ⟨g, j, none⟩ = some (.int .u8 (bs[j] : Int)) ∧ x.frozen? ⟨g, j, none⟩ = false := by
  obtain ⟨h2, h3, cur, h4, h5, h6⟩ := h
  refine ⟨?_, ?_⟩
  · have : cur[j]? = some (.int .u8 (bs[j] : Int)) := by
      rw [← Array.getElem?_toList]
      have e : (cur.toList.take bs.length)[j]? = some (.int .u8 (bs[j] : Int)) := by rw [h6, List.getElem?_map, List.getElem?_eq_getElem hj]; rfl
      rwa [List.getElem?_take_of_lt (by omega)] at e
    simp [World.cell?, h4, this]
  · simp [World.frozen?, h4]
theorem RowU.block {x y : World} {g cap : Nat} {bs : List Nat} (h : RowU x g cap bs) (e : y.heap[g]? = x.heap[g]?) : RowU y g cap bs := by
  obtain ⟨h2, h3, cur, h4, h5⟩ := h
  exact ⟨h2, h3, cur, e.trans h4, h5⟩
theorem RowU.below {x y : World} {g cap : Nat} {bs : List Nat} (h : RowU x g cap bs) (hb : Below x.heap.size x y) : RowU y g cap bs := h.block (hb.block g h.lt)
theorem RowU.set {x : World} {g cap : Nat} {bs : List Nat} (h : RowU x g cap bs) (j b : Nat) : RowU (x.setCell ⟨g, j, none⟩ (.int .u8 (b : Int))) g cap (bs.set j b) := by
  obtain ⟨h2, h3, cur, h4, h5, h6⟩ := h
  refine ⟨by rw [List.length_set]; exact h2, h3, cur.setIfInBounds j (.int .u8 (b : Int)), ?_, by simp [h5], ?_⟩
  · rw [setCell_eq_setRow x g j cur _ (0, 0) _ h4]; exact setRow_heap x g cur _ _ (0, 0) h4
  · rw [List.length_set, Array.toList_setIfInBounds, List.take_set, h6]; exact List.map_set.symm
theorem RowU.at {x : World} {g cap : Nat} {bs : List Nat} (h : RowU x g cap bs) : BytesAt x (.slice (some ⟨g, 0, none⟩) bs.length cap) bs :=
  .inr ⟨g, 0, cap, rfl, fun j hj => by rw [Nat.zero_add]; exact (h.cell j hj).1, h.lt⟩
theorem RowU.of {x : World} {base : Nat} {v : Value} {bs : List Nat} (h : x.ownsRow base 5 1 v bs.length (u8v bs)) (hl : 0 < bs.length) : ∃ g cap, v = .slice (some ⟨g, 0, none⟩) bs.length cap ∧ base ≤ g ∧ RowU x g cap bs := by
  rcases h.2 with ⟨_, k⟩ | ⟨g, cap, cur, h1, h2, h3, h4, h5, h6, h7⟩
  · omega
  · exact ⟨g, cap, h1, h2, h4, h5, cur, h3, by omega, by simpa using h7⟩
theorem bytes_one (bs : List Nat) : ∀ u ∈ u8v bs, u.oneCell' = true := fun u hu => by
  obtain ⟨b, _, rfl⟩ := List.mem_map.1 hu; rfl
theorem bytes_news {w x : World} {g o : Nat} {bs : List Nat} (h : BytesIn w g o bs) (hg : g < w.heap.size) (hb : Below w.heap.size w x) : ∀ j u, (u8v bs)[j]? = some u → x.cell? ((⟨g, o, none⟩ : Addr).add j) = some u := by
  intro j u hu
  rw [List.getElem?_map] at hu
  have hj : j < bs.length := by
    rcases Nat.lt_or_ge j bs.length with h | h
    · exact h
    · rw [List.getElem?_eq_none h] at hu; cases hu
  rw [List.getElem?_eq_getElem hj] at hu
  have e : Value.int .u8 (bs[j] : Int) = u := by simpa using hu
  rw [← e, addr_add]
  exact h.at hg hb j hj
/-- an empty slice that was laid behind another block -/
theorem row_none (w : World) (o : Obj) : ((w.alloc o).alloc (.cells #[] 5)).ownsRow (w.heap.size + 1) 5 1 (.slice (some ⟨w.heap.size + 1, 0, none⟩) 0 0) 0 [] :=
  ⟨rfl, .inr ⟨w.heap.size + 1, 0, #[], rfl, Nat.le_refl _, by have := World.alloc_heap_new (w.alloc o) (.cells #[] 5); rwa [World.size_alloc] at this, by omega, by omega, rfl, rfl⟩⟩
/-- a slice of bytes that lies in a block of its own, at or beyond base -/
def RowB (w : World) (base : Nat) (x : Value) (l : List Nat) : Prop := w.ownsRow base 5 1 x l.length (u8v l)
theorem RowB.form {w : World} {base : Nat} {x : Value} {l : List Nat} (h : RowB w base x l) : (x = .slice none 0 0 ∧ l = []) ∨ ∃ g cap, x = .slice (some ⟨g, 0, none⟩) l.length cap ∧ l.length ≤ cap ∧ base ≤ g ∧ g < w.heap.size := by
  rcases h.2 with ⟨h1, h2⟩ | ⟨g, cap, cur, h1, h2, h3, h4, _⟩
  · exact .inl ⟨h1, List.length_eq_zero_iff.1 h2⟩
  · exact .inr ⟨g, cap, h1, h4, h2, (Array.getElem?_eq_some_iff.1 h3).1⟩
theorem RowB.at {w : World} {base : Nat} {x : Value} {l : List Nat} (h : RowB w base x l) : BytesAt w x l := by
  rcases h.form with h1 | ⟨g, cap, rfl, _, _, hl⟩
  · exact .inl h1
  · refine .inr ⟨g, 0, cap, rfl, fun j hj => ?_, hl⟩
    rw [Nat.zero_add]
    rw [World.ownsRow.cellAt h j (by omega), List.getElem?_map, List.getElem?_eq_getElem hj]; rfl
theorem rowB_one (w : World) (base : Nat) (b : Nat) (h : base ≤ w.heap.size) : (w.alloc (.cells #[.int .u8 (b : Int)] 5)).ownsRow base 5 1 (.slice (some ⟨w.heap.size, 0, none⟩) 1 1) 1 [.int .u8 (b : Int)] :=
  ⟨rfl, .inr ⟨w.heap.size, 1, #[.int .u8 (b : Int)], rfl, h, World.alloc_heap_new w _, by omega, by unfold maxLen; omega, rfl, rfl⟩⟩
/-- bytes in a new block -/
theorem new_bytes (w : World) (l : List Nat) (c : Array Value) (hc : c.toList = u8v l) : BytesAt (w.alloc (.cells c 5)) (.slice (some ⟨w.heap.size, 0, none⟩) l.length l.length) l := by
  refine .inr ⟨w.heap.size, 0, l.length, rfl, fun j hj => ?_, by simp⟩
  have hb : (w.alloc (.cells c 5)).heap[w.heap.size]? = some (.cells c 5) := World.alloc_heap_new w _
  simp only [World.cell?, hb, Nat.zero_add]
  rw [← Array.getElem?_toList, hc, List.getElem?_map, List.getElem?_eq_getElem hj]
  rfl
theorem txt_eq (a b : ByteArray) : (a.toList == b.toList) = decide (a = b) := by
  rw [ByteArray.toList_eq, ByteArray.toList_eq]
  by_cases h : a = b
  · subst h; simp
  · rw [decide_eq_false h, beq_eq_false_iff_ne]
    exact fun e => h (ByteArray.ext (Array.toList_inj.mp e))
theorem txt_no {a b : ByteArray} (h : ¬ a = b) : (a.toList == b.toList) = false := by rw [txt_eq, decide_eq_false h]
/-- bytes as a text -/
def strOf (bs : List Nat) : ByteArray := strOfNums (bs.map fun (n : Nat) => (n : Int))
theorem conv_at {x : World} {v : Value} {bs : List Nat} (h : BytesAt x v bs) : (convert 22 9 v).run Try.prog x = .ok (.string (strOf bs)) x := by
  rcases h with ⟨rfl, rfl⟩ | ⟨g, o, cap, rfl, hi, _⟩
  · exact run_convert_bytes_nil x 22 5 Try.underlying22 Try.underlying5 0 0 9 Try.underlying9
  · refine run_convert_bytes_arg x 22 5 Try.underlying22 Try.underlying5 g o bs.length cap (bs.map fun (n : Nat) => (n : Int)) (by simp) ?_ 9 Try.underlying9
    intro i hl
    rw [hi i hl]
    simp [List.getD_eq_getElem?_getD, List.getElem?_map, List.getElem?_eq_getElem hl]
theorem strOf_inj {a b : List Nat} (ha : AllBytes a) (hb : AllBytes b) (h : strOf a = strOf b) : a = b := by
  have e : (strOf a).data.toList.map UInt8.toNat = (strOf b).data.toList.map UInt8.toNat := by rw [h]
  have key : ∀ l : List Nat, AllBytes l → (strOf l).data.toList.map UInt8.toNat = l := by
    intro l hl
    unfold strOf
    rw [strOfNums_data, List.map_map, List.map_map]
    have : ∀ n ∈ l, ((UInt8.toNat ∘ fun n : Int => UInt8.ofNat n.toNat) ∘ fun (n : Nat) => (n : Int)) n = n := by
      intro n hn
      have := hl n hn
      simp [UInt8.toNat_ofNat']
      omega
    rw [List.map_congr_left this, List.map_id']
  rw [key a ha, key b hb] at e
  exact e
theorem str_eq {a b : List Nat} (ha : AllBytes a) (hb : AllBytes b) : ((strOf a).toList == (strOf b).toList) = decide (b = a) := by
  rw [txt_eq, Bool.eq_iff_iff, decide_eq_true_iff, decide_eq_true_iff]
  exact ⟨fun h => (strOf_inj ha hb h).symm, fun h => by rw [h]⟩
theorem snoc_ind {P : List Nat → Prop} (h0 : P []) (h1 : ∀ bs c, P bs → P (bs ++ [c])) : ∀ bs, P bs := by
  intro bs
  have k : ∀ n, ∀ l : List Nat, l.length = n → P l := by
    intro n
    induction n with
    | zero => intro l h; rw [List.length_eq_zero_iff.1 h]; exact h0
    | succ n ih =>
      intro l h
      have e : l = l.dropLast ++ [l.getLast (by intro e; rw [e] at h; cases h)] := (List.dropLast_concat_getLast _).symm
      rw [e]
      exact h1 _ _ (ih _ (by simp [h]))
  exact k _ bs rfl
theorem take_snoc (bs : List Nat) {k : Nat} (h : k < bs.length) : bs.take (k + 1) = bs.take k ++ [bs[k]] := (List.take_append_getElem h).symm
theorem take_bytes {bs : List Nat} (h : AllBytes bs) (k : Nat) : AllBytes (bs.take k) := fun x hx => h x (List.mem_of_mem_take hx)
/-! a number's bytes, the highest first -/
def bigL (v : Nat) : Nat → List Nat
  | 0 => []
  | n + 1 => bigL (v / 256) n ++ [v % 256]
theorem bigL_len (n : Nat) : ∀ v, (bigL v n).length = n := by
  induction n with
  | zero => intro v; rfl
  | succ n ih => intro v; simp [bigL, ih]
theorem bigL_cons (n : Nat) : ∀ v, bigL v (n + 1) = (v / 256 ^ n % 256) :: bigL v n := by
  induction n with
  | zero => intro v; simp [bigL]
  | succ n ih =>
    intro v
    rw [bigL, ih]
    conv => rhs; rw [bigL]
    rw [List.cons_append, Nat.div_div_eq_div_mul, Nat.pow_succ, Nat.mul_comm 256]
theorem bigL_bytes (n : Nat) : ∀ v, AllBytes (bigL v n) := by
  induction n with
  | zero => intro v c hc; cases hc
  | succ n ih =>
    intro v c hc
    rw [bigL] at hc
    rcases List.mem_append.1 hc with h | h
    · exact ih _ c h
    · rw [List.mem_singleton] at h; omega
/-- unlike numbers have unlike bytes -/
theorem bigL_inj (n : Nat) : ∀ {u v : Nat}, u < 256 ^ n → v < 256 ^ n → bigL u n = bigL v n → u = v := by
  induction n with
  | zero => intro u v hu hv _; simp at hu hv; omega
  | succ n ih =>
    intro u v hu hv e
    rw [bigL, bigL] at e
    obtain ⟨e1, e2⟩ := List.append_inj e (by rw [bigL_len, bigL_len])
    rw [Nat.pow_succ] at hu hv
    have k := ih (by omega) (by omega) e1
    have e3 : u % 256 = v % 256 := by simpa using e2
    omega
end Go.Proofs.Ytdnlobcfmibeoaa
