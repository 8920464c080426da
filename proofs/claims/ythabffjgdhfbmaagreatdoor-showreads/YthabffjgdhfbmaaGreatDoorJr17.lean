/-
  Texts that belong together, one behind the other: ShWr, ShRead, DsFsK, ShDv. Conditions: as each says.
-/
import Derived.ChangeOld
import Derived.Deep.AppendLies
import Derived.Deep.CutRange
import Derived.Deep.RegionHeld3
import Derived.Deep.SlicePairs
import Derived.Deep.Strs
import Derived.Laws.BitsAllLaws
import Derived.Laws.OwnMore
import Derived.Laws.Shifts
import Derived.Lib.QuietBelowIn
import Derived.OpenShut
import Derived.ProofKit
import Derived.RangeFuncCalls
import Derived.ShutString
import Derived.Sort.BigQuietIn
import Derived.Test.YthabffjgdhfbmaaGreatDoorProg
import Derived.Test.YthabffjgdhfbmaaGreatDoorJr1
import Derived.Test.YthabffjgdhfbmaaGreatDoorJr2
import Derived.Test.YthabffjgdhfbmaaGreatDoorJr3
import Derived.Test.YthabffjgdhfbmaaGreatDoorJr4
import Derived.Test.YthabffjgdhfbmaaGreatDoorJr5
import Derived.Test.YthabffjgdhfbmaaGreatDoorJr6
import Derived.Test.YthabffjgdhfbmaaGreatDoorJr7
import Derived.Test.YthabffjgdhfbmaaGreatDoorJr8
import Derived.Test.YthabffjgdhfbmaaGreatDoorJr9
import Derived.Test.YthabffjgdhfbmaaGreatDoorJr10
import Derived.Test.YthabffjgdhfbmaaGreatDoorJr11
import Derived.Test.YthabffjgdhfbmaaGreatDoorJr12
import Derived.Test.YthabffjgdhfbmaaGreatDoorJr13
import Derived.Test.YthabffjgdhfbmaaGreatDoorJr14
import Derived.Test.YthabffjgdhfbmaaGreatDoorJr15
import Derived.Test.YthabffjgdhfbmaaGreatDoorJr16
set_option maxRecDepth 100000
set_option maxHeartbeats 32000000
set_option linter.unusedVariables false
namespace Go.Proofs.YthabffjgdhfbmaaGreatDoor
open Go.RowKit
def ShB (b : Nat) (d : Dv) (k : Nat) (z : World) : Prop := BldAt b b (bytesL ((linesW d).take k)) z
theorem ShB.below {b : Nat} {d : Dv} {k : Nat} {w x : World} (h : ShB b d k w) (hb : Below w.heap.size w x) : ShB b d k x := BldAt.below h hb
theorem bytes_take (L : List (List Wd)) (k : Nat) : (bytesL (L.take k)).length ≤ (bytesL L).length := by
 conv => rhs; rw [← List.take_append_drop k L, bytesL_app, List.length_append]
 omega
def ShWrC (b : Nat) (d : Dv) (k k' : Nat) (ws : List Wd) : Prop := ∀ z, ShB b d k z → Calls Tryz.prog 36 #[.pointer (some ⟨b, 0, none⟩), .string (txt (lineB ws))] z fun e y => e = .returned (.tuple #[.int .i64 ((lineB ws).length : Int), .nilIface]) ∧ ShB b d k' y ∧ Below b z y
theorem shWrC (b : Nat) {d : Dv} (hd : DvOk d) {k k' : Nat} {ws : List Wd} (h : (linesW d)[k]? = some ws) (hk : k' = k + 1) : ShWrC b d k k' ws := fun z hz => by
 subst hk
 have e1 : bytesL ((linesW d).take (k + 1)) = bytesL ((linesW d).take k) ++ lineB ws := by
  rw [List.take_add_one, h, bytesL_app]
  show _ ++ (lineB ws ++ []) = _
  rw [List.append_nil]
 have l0 := hd.len
 have l1 : (bytesL ((linesW d).take (k + 1))).length ≤ (textD d).length := bytes_take _ _
 rw [e1, List.length_append] at l1
 refine (bws_any b b _ (txt (lineB ws)) z hz (by omega) (by rw [txt_size]; omega)).mono ?_
 rintro e y ⟨rfl, h1, h2⟩
 rw [txt_size]
 refine ⟨rfl, ?_, h2⟩
 unfold ShB
 rw [e1]
 exact h1
def LnN (ws : List Wd) (cs : Array Value) (n : Nat) : Prop := ∀ z, Calls Tryz.prog 55 #[.slice (some ⟨z.heap.size, 0, none⟩) n n] (z.alloc (.cells cs 9)) fun e y => e = .returned (.string (txt (lineB ws))) ∧ Below z.heap.size z y
theorem lnN {ws : List Wd} (hn : ws.length ≤ 20) (hl : ∀ x ∈ ws, x.length ≤ 10000) : LnN ws (strV ws).toArray ws.length := fun z => by
 have hb : Below z.heap.size z (z.alloc (.cells (strV ws).toArray 9)) := (Below.refl _ _).alloc (Nat.le_refl _) _
 refine (shline_any ws z.heap.size 0 ws.length _ (strs_new z ws _) (by rw [World.size_alloc]; omega) (Nat.le_refl _) hn hl).mono ?_
 rintro e y ⟨rfl, h⟩
 exact ⟨rfl, hb.trans (h.mono hb.size)⟩
def HxC (n : Int) : Prop := ∀ z g, z.cell? ⟨g, 0, none⟩ = some (.int .u8 n) → g < z.heap.size → Calls Tryz.prog 56 #[.slice (some ⟨g, 0, none⟩) 1 1] z fun e y => e = .returned (.string (txt (hexW [n.toNat]))) ∧ Below z.heap.size z y
theorem hxC {n : Int} (h : 0 ≤ n ∧ n ≤ 255) : HxC n := fun z g hc hg => by
 refine shhex_any [n.toNat] (.slice (some ⟨g, 0, none⟩) 1 1) z (.inr ⟨g, 0, 1, rfl, fun j hj => ?_, hg⟩) (fun c hc => by rw [List.mem_singleton.1 hc]; omega) (by simp)
 have e : j = 0 := by simp at hj; exact hj
 subst e
 show z.cell? ⟨g, 0, none⟩ = some (.int .u8 ((n.toNat : Nat) : Int))
 rw [hc, show ((n.toNat : Nat) : Int) = n by omega]
def HxN (n : Int) : Prop := ∀ z, Calls Tryz.prog 56 #[.slice (some ⟨z.heap.size, 0, none⟩) 1 1] (z.alloc (.cells #[.int .u8 n] 5)) fun e y => e = .returned (.string (txt (hexW [n.toNat]))) ∧ Below z.heap.size z y
theorem cell_1 (z : World) (v : Value) (T : TypeId) : (z.alloc (.cells #[v] T)).cell? ⟨z.heap.size, 0, none⟩ = some v := by simp
theorem hxN {n : Int} (h : HxC n) : HxN n := fun z => by
 have hb : Below z.heap.size z (z.alloc (.cells #[.int .u8 n] 5)) := (Below.refl _ _).alloc (Nat.le_refl _) _
 refine (h _ z.heap.size (cell_1 z _ _) (by rw [World.size_alloc]; omega)).mono ?_
 rintro e y ⟨rfl, k⟩
 exact ⟨rfl, hb.trans (k.mono hb.size)⟩
structure WrG where
 b1 : Nat
 b2 : Nat
 b3 : Nat
def wrV (D : Nat) (d : Dv) (n : Int) (γ : WrG) : Nat → Value
 | 0 => .pointer (some ⟨D, 2, none⟩)
 | 1 => .int .i64 d.es
 | 2 => .int .u8 d.es
 | 3 => .slice (some ⟨γ.b1, 0, none⟩) 1 1
 | 4 => .string (txt (hexW [d.es.toNat]))
 | 5 => .pointer (some ⟨D, 3, none⟩)
 | 6 => .int .i64 d.mx
 | 7 => .int .u8 d.mx
 | 8 => .slice (some ⟨γ.b2, 0, none⟩) 1 1
 | 9 => .string (txt (hexW [d.mx.toNat]))
 | 10 => .slice (some ⟨γ.b3, 0, none⟩) 3 3
 | 11 => .string (txt (lineB [kEsc, hexW [d.es.toNat], hexW [d.mx.toNat]]))
 | 12 => .tuple #[.int .i64 n, .nilIface]
 | _ => undef
def WrP (D : Nat) (d : Dv) (n : Int) (γ : WrG) (i : Nat) (v : Value) : Prop := v = wrV D d n γ i
theorem wrV_k1 {D : Nat} {d : Dv} {n : Int} {γ : WrG} {b : Nat} {j : Nat} (h : j ≠ 3) : wrV D d n γ j = wrV D d n ⟨b, γ.b2, γ.b3⟩ j := by
 unfold wrV
 split <;> first | rfl | (exact absurd rfl h)
theorem wrV_k2 {D : Nat} {d : Dv} {n : Int} {γ : WrG} {b : Nat} {j : Nat} (h : j ≠ 8) : wrV D d n γ j = wrV D d n ⟨γ.b1, b, γ.b3⟩ j := by
 unfold wrV
 split <;> first | rfl | (exact absurd rfl h)
theorem wrV_k3 {D : Nat} {d : Dv} {n : Int} {γ : WrG} {b : Nat} {j : Nat} (h : j ≠ 10) : wrV D d n γ j = wrV D d n ⟨γ.b1, γ.b2, b⟩ j := by
 unfold wrV
 split <;> first | rfl | (exact absurd rfl h)
structure WrW (w1 : World) (d : Dv) (γ : WrG) (x : Array Bool) (z : World) : Prop where
 low : Below w1.heap.size w1 z
 bd : x.getD 12 false = false → ShB w1.heap.size d 2 z
 be : x.getD 12 false = true → ShB w1.heap.size d 3 z
 s1 : x.getD 3 false = true → x.getD 12 false = false → z.cell? ⟨γ.b1, 0, none⟩ = some (.int .u8 d.es) ∧ γ.b1 < z.heap.size
 s2 : x.getD 8 false = true → x.getD 12 false = false → z.cell? ⟨γ.b2, 0, none⟩ = some (.int .u8 d.mx) ∧ γ.b2 < z.heap.size
 s3 : x.getD 10 false = true → x.getD 12 false = false → StrsIn z γ.b3 0 [kEsc, hexW [d.es.toNat], hexW [d.mx.toNat]] ∧ γ.b3 < z.heap.size
theorem cell_keep {z z' : World} {b : Nat} {v : Value} (h : z.cell? ⟨b, 0, none⟩ = some v ∧ b < z.heap.size) (hb : Below z.heap.size z z') : z'.cell? ⟨b, 0, none⟩ = some v ∧ b < z'.heap.size :=
 ⟨(hb.cell (p := ⟨b, 0, none⟩) h.2).trans h.1, Nat.lt_of_lt_of_le h.2 hb.size⟩
theorem strs_keep {z z' : World} {b : Nat} {ws : List Wd} (h : StrsIn z b 0 ws ∧ b < z.heap.size) (hb : Below z.heap.size z z') : StrsIn z' b 0 ws ∧ b < z'.heap.size := ⟨strs_below h.1 h.2 hb, Nat.lt_of_lt_of_le h.2 hb.size⟩
theorem WrW.go {w1 : World} {d : Dv} {γ : WrG} {x : Array Bool} {z z' : World} (h : WrW w1 d γ x z) {i : Nat} (h3 : i ≠ 3) (h8 : i ≠ 8) (h10 : i ≠ 10) (h12 : i ≠ 12) (hb : Below z.heap.size z z') : WrW w1 d γ (x.setIfInBounds i true) z' := by
 refine ⟨h.low.trans (hb.mono h.low.size), ?_, ?_, ?_, ?_, ?_⟩
 · rw [getD_set_ne false h12]; exact fun e => (h.bd e).below hb
 · rw [getD_set_ne false h12]; exact fun e => (h.be e).below hb
 · rw [getD_set_ne false h3, getD_set_ne false h12]; exact fun e e' => cell_keep (h.s1 e e') hb
 · rw [getD_set_ne false h8, getD_set_ne false h12]; exact fun e e' => cell_keep (h.s2 e e') hb
 · rw [getD_set_ne false h10, getD_set_ne false h12]; exact fun e e' => strs_keep (h.s3 e e') hb
theorem WrW.k1 {w1 : World} {d : Dv} {γ : WrG} {x : Array Bool} {z : World} (h : WrW w1 d γ x z) (h12 : x.getD 12 false = false) : WrW w1 d ⟨z.heap.size, γ.b2, γ.b3⟩ (x.setIfInBounds 3 true) (z.alloc (.cells #[.int .u8 d.es] 5)) := by
 have hb : Below z.heap.size z (z.alloc (.cells #[.int .u8 d.es] 5)) := (Below.refl _ _).alloc (Nat.le_refl _) _
 refine ⟨h.low.trans (hb.mono h.low.size), ?_, ?_, fun _ _ => ⟨cell_1 z _ _, by rw [World.size_alloc]; exact Nat.lt_succ_self _⟩, ?_, ?_⟩
 · exact fun _ => (h.bd h12).below hb
 · rw [getD_set_ne false (by decide), h12]; intro e; cases e
 · rw [getD_set_ne false (by decide)]; exact fun e _ => cell_keep (h.s2 e h12) hb
 · rw [getD_set_ne false (by decide)]; exact fun e _ => strs_keep (h.s3 e h12) hb
theorem WrW.k2 {w1 : World} {d : Dv} {γ : WrG} {x : Array Bool} {z : World} (h : WrW w1 d γ x z) (h12 : x.getD 12 false = false) : WrW w1 d ⟨γ.b1, z.heap.size, γ.b3⟩ (x.setIfInBounds 8 true) (z.alloc (.cells #[.int .u8 d.mx] 5)) := by
 have hb : Below z.heap.size z (z.alloc (.cells #[.int .u8 d.mx] 5)) := (Below.refl _ _).alloc (Nat.le_refl _) _
 refine ⟨h.low.trans (hb.mono h.low.size), ?_, ?_, ?_, fun _ _ => ⟨cell_1 z _ _, by rw [World.size_alloc]; exact Nat.lt_succ_self _⟩, ?_⟩
 · exact fun _ => (h.bd h12).below hb
 · rw [getD_set_ne false (by decide), h12]; intro e; cases e
 · rw [getD_set_ne false (by decide)]; exact fun e _ => cell_keep (h.s1 e h12) hb
 · rw [getD_set_ne false (by decide)]; exact fun e _ => strs_keep (h.s3 e h12) hb
theorem WrW.k3 {w1 : World} {d : Dv} {γ : WrG} {x : Array Bool} {z : World} (h : WrW w1 d γ x z) (h12 : x.getD 12 false = false) : WrW w1 d ⟨γ.b1, γ.b2, z.heap.size⟩ (x.setIfInBounds 10 true) (z.alloc (.cells #[.string ⟨#[101, 115, 99, 97, 112, 101]⟩, .string (txt (hexW [d.es.toNat])), .string (txt (hexW [d.mx.toNat]))] 9)) := by
 have hb : Below z.heap.size z (z.alloc (.cells #[.string ⟨#[101, 115, 99, 97, 112, 101]⟩, .string (txt (hexW [d.es.toNat])), .string (txt (hexW [d.mx.toNat]))] 9)) := (Below.refl _ _).alloc (Nat.le_refl _) _
 refine ⟨h.low.trans (hb.mono h.low.size), ?_, ?_, ?_, ?_, fun _ _ => ⟨strs_new z [kEsc, hexW [d.es.toNat], hexW [d.mx.toNat]] 9, by rw [World.size_alloc]; exact Nat.lt_succ_self _⟩⟩
 · exact fun _ => (h.bd h12).below hb
 · rw [getD_set_ne false (by decide), h12]; intro e; cases e
 · rw [getD_set_ne false (by decide)]; exact fun e _ => cell_keep (h.s1 e h12) hb
 · rw [getD_set_ne false (by decide)]; exact fun e _ => cell_keep (h.s2 e h12) hb
theorem WrW.wr {w1 : World} {d : Dv} {γ : WrG} {x : Array Bool} {z z' : World} (h : WrW w1 d γ x z) (hx : 12 < x.size) (hs : ShB w1.heap.size d 3 z') (hb : Below w1.heap.size z z') : WrW w1 d γ (x.setIfInBounds 12 true) z' := by
 refine ⟨h.low.trans hb, ?_, fun _ => hs, ?_, ?_, ?_⟩
 · rw [getD_set_at hx]; intro e; cases e
 · rw [getD_set_at hx]; intro _ e; cases e
 · rw [getD_set_at hx]; intro _ e; cases e
 · rw [getD_set_at hx]; intro _ e; cases e
theorem FdOk.w {f : Fd} (h : FdOk f) : FdW f := by
 have n1 := name_le12 h.nm
 have n2 := name_le12 h.kd
 have n3 := name_le12 h.un
 exact ⟨by omega, by omega, by omega, ⟨by have := h.pl; omega, by have := h.pl; omega⟩, ⟨by have := h.wd; omega, by have := h.wd; omega⟩, h.s.1, h.s.2.1, h.o.1, h.o.2.1⟩
theorem lines_at {d : Dv} {k : Nat} (hk : k < d.fs.length) : (linesW d)[5 + k]? = some (fieldW d.fs[k]) := by
 unfold linesW
 rw [List.getElem?_append_right (by show 5 ≤ 5 + k; omega), show 5 + k - (headW d).length = k by show 5 + k - 5 = k; omega, List.getElem?_append_left (by rw [List.length_map]; exact hk), List.getElem?_map, List.getElem?_eq_getElem hk]
 rfl
theorem lines_tail (d : Dv) (i : Nat) : (linesW d)[5 + d.fs.length + i]? = (tailW d)[i]? := by
 unfold linesW
 rw [List.getElem?_append_right (by show 5 ≤ 5 + d.fs.length + i; omega), show 5 + d.fs.length + i - (headW d).length = d.fs.length + i by show 5 + d.fs.length + i - 5 = _; omega, List.getElem?_append_right (by rw [List.length_map]; omega), List.length_map, show d.fs.length + i - d.fs.length = i by omega]
theorem linesW_len (d : Dv) : (linesW d).length = 5 + d.fs.length + 5 := by
 unfold linesW
 rw [List.length_append, List.length_append, List.length_map]
 show 5 + (d.fs.length + 5) = _
 omega
def FlC (b : Nat) (d : Dv) : Prop := ∀ k (h : k < d.fs.length), ShTxC 58 #[fdV d.fs[k]] (lineB (fieldW d.fs[k])) ∧ ShWrC b d (5 + k) (5 + (k + 1)) (fieldW d.fs[k])
theorem shwritten_any (d : Dv) (fv qv : Value) (w : World) (hd : DvOk d) (hfv : FldsV w fv d.fs) (hqv : BytesAt w qv d.rq) :
 Calls Tryz.prog 23 #[dvV d fv qv] w fun e y => e = .returned (.string (txt (textD d))) ∧ Below w.heap.size w y := by
 have n1 := name_le12 hd.nm
 have n2 := name_le12 hd.sm
 have r1 := hd.rq.2
 have t0 := hexW_len d.rq
 have t1 := (textL_len d.sz).2
 have t2 := (textL_len d.po).2
 have t3 := (textL_len d.ti).2
 have t4 := (textL_len d.re).2
 have t5 := (textL_len d.ag).2
 have t6 := hexW_len [d.st.toNat]
 have t7 := hexW_len [d.es.toNat]
 have t8 := hexW_len [d.mx.toNat]
 simp only [List.length_cons, List.length_nil] at t6 t7 t8
 have ln0 : Hid (LnN [kDev, d.nm] #[.string ⟨#[100, 101, 118, 105, 99, 101]⟩, .string (txt (d.nm))] 2) := lnN (ws := [kDev, d.nm]) (by simp) (fun x hx => by simp only [List.mem_cons, List.not_mem_nil, or_false] at hx; rcases hx with e | e <;> subst e <;> first | decide | omega)
 have ln1 : Hid (LnN [kSta, hexW [d.st.toNat]] #[.string ⟨#[115, 116, 97, 114, 116]⟩, .string (txt (hexW [d.st.toNat]))] 2) := lnN (ws := [kSta, hexW [d.st.toNat]]) (by simp) (fun x hx => by simp only [List.mem_cons, List.not_mem_nil, or_false] at hx; rcases hx with e | e <;> subst e <;> first | decide | omega)
 have ln3 : Hid (ShLnC [kEsc, hexW [d.es.toNat], hexW [d.mx.toNat]] 3) := shLnC (ws := [kEsc, hexW [d.es.toNat], hexW [d.mx.toNat]]) (by simp) (fun x hx => by simp only [List.mem_cons, List.not_mem_nil, or_false] at hx; rcases hx with e | e | e <;> subst e <;> first | decide | omega)
 have ln4 : Hid (LnN [kSiz, textL d.sz] #[.string ⟨#[115, 105, 122, 101]⟩, .string (txt (textL d.sz))] 2) := lnN (ws := [kSiz, textL d.sz]) (by simp) (fun x hx => by simp only [List.mem_cons, List.not_mem_nil, or_false] at hx; rcases hx with e | e <;> subst e <;> first | decide | omega)
 have ln5 : Hid (LnN [kSum, d.sm] #[.string ⟨#[115, 117, 109]⟩, .string (txt (d.sm))] 2) := lnN (ws := [kSum, d.sm]) (by simp) (fun x hx => by simp only [List.mem_cons, List.not_mem_nil, or_false] at hx; rcases hx with e | e <;> subst e <;> first | decide | omega)
 have lna : Hid (LnN [kReq, hexW d.rq] #[.string ⟨#[114, 101, 113, 117, 101, 115, 116]⟩, .string (txt (hexW d.rq))] 2) := lnN (ws := [kReq, hexW d.rq]) (by simp) (fun x hx => by simp only [List.mem_cons, List.not_mem_nil, or_false] at hx; rcases hx with e | e <;> subst e <;> first | decide | omega)
 have lnb : Hid (LnN [kPol, textL d.po] #[.string ⟨#[112, 111, 108, 108]⟩, .string (txt (textL d.po))] 2) := lnN (ws := [kPol, textL d.po]) (by simp) (fun x hx => by simp only [List.mem_cons, List.not_mem_nil, or_false] at hx; rcases hx with e | e <;> subst e <;> first | decide | omega)
 have lnc : Hid (LnN [kTim, textL d.ti] #[.string ⟨#[116, 105, 109, 101, 111, 117, 116]⟩, .string (txt (textL d.ti))] 2) := lnN (ws := [kTim, textL d.ti]) (by simp) (fun x hx => by simp only [List.mem_cons, List.not_mem_nil, or_false] at hx; rcases hx with e | e <;> subst e <;> first | decide | omega)
 have lnd : Hid (LnN [kRet, textL d.re] #[.string ⟨#[114, 101, 116, 114, 105, 101, 115]⟩, .string (txt (textL d.re))] 2) := lnN (ws := [kRet, textL d.re]) (by simp) (fun x hx => by simp only [List.mem_cons, List.not_mem_nil, or_false] at hx; rcases hx with e | e <;> subst e <;> first | decide | omega)
 have lne : Hid (LnN [kAge, textL d.ag] #[.string ⟨#[97, 103, 101]⟩, .string (txt (textL d.ag))] 2) := lnN (ws := [kAge, textL d.ag]) (by simp) (fun x hx => by simp only [List.mem_cons, List.not_mem_nil, or_false] at hx; rcases hx with e | e <;> subst e <;> first | decide | omega)
 clear n1 n2 t0 t1 t2 t3 t4 t5 t6 t7 t8
 have hx1 : Hid (HxN d.st) := hxN (hxC hd.st)
 have hx2 : Hid (HxC d.es) := hxC hd.es
 have hx3 : Hid (HxC d.mx) := hxC hd.mx
 have wst : IntKind.u8.wrap d.st = d.st := by have := hd.st; simp only [IntKind.wrap_u8]; omega
 have we : Hid (IntKind.u8.wrap d.es = d.es) := by have := hd.es; unfold Hid; simp only [IntKind.wrap_u8]; omega
 have wm : Hid (IntKind.u8.wrap d.mx = d.mx) := by have := hd.mx; unfold Hid; simp only [IntKind.wrap_u8]; omega
 have nz : Hid (ShTxC 57 #[.int .i64 d.sz] (textL d.sz)) := fun z => shnum_any d.sz z ⟨by have := hd.sz; omega, by have := hd.sz; omega⟩
 have np : Hid (ShTxC 57 #[.int .i64 d.po] (textL d.po)) := fun z => shnum_any d.po z ⟨by have := hd.po; omega, by have := hd.po; omega⟩
 have nt : Hid (ShTxC 57 #[.int .i64 d.ti] (textL d.ti)) := fun z => shnum_any d.ti z ⟨by have := hd.ti; omega, by have := hd.ti; omega⟩
 have nr : Hid (ShTxC 57 #[.int .i64 d.re] (textL d.re)) := fun z => shnum_any d.re z ⟨by have := hd.re; omega, by have := hd.re; omega⟩
 have na : Hid (ShTxC 57 #[.int .i64 d.ag] (textL d.ag)) := fun z => shnum_any d.ag z ⟨by have := hd.ag; omega, by have := hd.ag; omega⟩
 have B0 : Hid (Below w.heap.size w (w.alloc (.cells #[.string (txt d.nm), .int .i64 d.st, .int .i64 d.es, .int .i64 d.mx, .int .i64 d.sz, .string (txt d.sm), fv, qv, .int .i64 d.po, .int .i64 d.ti, .int .i64 d.re, .int .i64 d.ag] 33))) := (Below.refl _ _).alloc (Nat.le_refl _) _
 have DD : Hid (DevB (w.alloc (.cells #[.string (txt d.nm), .int .i64 d.st, .int .i64 d.es, .int .i64 d.mx, .int .i64 d.sz, .string (txt d.sm), fv, qv, .int .i64 d.po, .int .i64 d.ti, .int .i64 d.re, .int .i64 d.ag] 33)) w.heap.size d fv qv) := DevB.new hfv _
 have QQ : Hid (BytesAt (w.alloc (.cells #[.string (txt d.nm), .int .i64 d.st, .int .i64 d.es, .int .i64 d.mx, .int .i64 d.sz, .string (txt d.sm), fv, qv, .int .i64 d.po, .int .i64 d.ti, .int .i64 d.re, .int .i64 d.ag] 33)) qv d.rq) := hqv.below B0.out
 obtain ⟨pv, cap, rfl⟩ := hfv.form
 obtain ⟨len, hlen⟩ : ∃ len, d.fs.length = len := ⟨_, rfl⟩
 obtain ⟨pq, nq, cq, rfl⟩ : ∃ p n c, qv = .slice p n c := by
  rcases hqv with ⟨h, _⟩ | ⟨g, o, cap, h, _⟩
  · exact ⟨none, 0, 0, h⟩
  · exact ⟨_, _, _, h⟩
 have hl8 : len ≤ 8 := by have := hd.fn; omega
 rw [hlen] at DD QQ B0 ⊢
 replace hlen : Hid (d.fs.length = len) := hlen
 clear hfv hqv
 go_enter Tryz.func23, Tryz.ntmps23
 go_upto_region 1 with fail
 generalize w.alloc (.cells #[.string (txt d.nm), .int .i64 d.st, .int .i64 d.es, .int .i64 d.mx, .int .i64 d.sz, .string (txt d.sm), .slice pv len cap, .slice pq nq cq, .int .i64 d.po, .int .i64 d.ti, .int .i64 d.re, .int .i64 d.ag] 33) = w1 at *
 have wr0 : Hid (ShWrC w1.heap.size d 0 1 [kDev, d.nm]) := shWrC _ hd rfl rfl
 have wr1 : Hid (ShWrC w1.heap.size d 1 2 [kSta, hexW [d.st.toNat]]) := shWrC _ hd rfl rfl
 have wr2 : Hid (ShWrC w1.heap.size d 2 3 [kEsc, hexW [d.es.toNat], hexW [d.mx.toNat]]) := shWrC _ hd rfl rfl
 have wr4 : Hid (ShWrC w1.heap.size d 3 4 [kSiz, textL d.sz]) := shWrC _ hd rfl rfl
 have wr5 : Hid (ShWrC w1.heap.size d 4 5 [kSum, d.sm]) := shWrC _ hd rfl rfl
 have fl : Hid (FlC w1.heap.size d) := fun k hk => ⟨fun z => shfield_any _ z (hd.fs _ (List.getElem_mem hk)).w, shWrC _ hd (lines_at hk) (by omega)⟩
 have wra : Hid (ShWrC w1.heap.size d (5 + d.fs.length) (5 + d.fs.length + 1) [kReq, hexW d.rq]) := shWrC _ hd (lines_tail d 0) (by omega)
 have wrb : Hid (ShWrC w1.heap.size d (5 + d.fs.length + 1) (5 + d.fs.length + 2) [kPol, textL d.po]) := shWrC _ hd (lines_tail d 1) (by omega)
 have wrc : Hid (ShWrC w1.heap.size d (5 + d.fs.length + 2) (5 + d.fs.length + 3) [kTim, textL d.ti]) := shWrC _ hd (lines_tail d 2) (by omega)
 have wrd : Hid (ShWrC w1.heap.size d (5 + d.fs.length + 3) (5 + d.fs.length + 4) [kRet, textL d.re]) := shWrC _ hd (lines_tail d 3) (by omega)
 have wre : Hid (ShWrC w1.heap.size d (5 + d.fs.length + 4) (5 + d.fs.length + 5) [kAge, textL d.ag]) := shWrC _ hd (lines_tail d 4) (by omega)
 have hxq : Hid (∀ z, Below w1.heap.size w1 z → Calls Tryz.prog 56 #[.slice pq nq cq] z fun e y => e = .returned (.string (txt (hexW d.rq))) ∧ Below z.heap.size z y) := fun z hz => shhex_any d.rq _ z (QQ.out.below hz) hd.rb (by omega)
 clear hd r1 QQ
 have Lz : Hid (Below w1.heap.size w1 (w1.alloc (.cells #[.pointer none, .slice none 0 0] 82))) := (Below.refl _ _).alloc (Nat.le_refl _) _
 have Sz : Hid (ShB w1.heap.size d 0 (w1.alloc (.cells #[.pointer none, .slice none 0 0] 82))) := BldAt.new w1
 go_upto_region 2 with fail
 generalize w1.alloc (.cells #[.pointer none, .slice none 0 0] 82) = z at *
 have m0 := (DD.out.below Lz.out).c 0 _ rfl
 go_wp2_with fail
 refine (ln0.out z).mono ?_
 rintro e za ⟨rfl, hb⟩
 have Lza : Hid (Below w1.heap.size w1 za) := Lz.out.trans (hb.mono Lz.out.size)
 have Sza : Hid (ShB w1.heap.size d 0 za) := Sz.out.below hb
 clear hb Lz Sz
 clear m0
 go_wp2_with fail
 refine (wr0.out za Sza.out).mono ?_
 rintro e y ⟨rfl, hs, hb⟩
 have Ly : Hid (Below w1.heap.size w1 y) := Lza.out.trans hb
 have Sy : Hid (ShB w1.heap.size d 1 y) := hs
 clear hb hs Lza Sza ln0 wr0
 have m0 := (DD.out.below Ly.out).c 1 _ rfl
 go_wp2_with fail
 refine (hx1.out y).mono ?_
 rintro e ya ⟨rfl, hb⟩
 have Lya : Hid (Below w1.heap.size w1 ya) := Ly.out.trans (hb.mono Ly.out.size)
 have Sya : Hid (ShB w1.heap.size d 1 ya) := Sy.out.below hb
 clear hb Ly Sy
 clear m0
 go_wp2_with fail
 refine (ln1.out ya).mono ?_
 rintro e yaa ⟨rfl, hb⟩
 have Lyaa : Hid (Below w1.heap.size w1 yaa) := Lya.out.trans (hb.mono Lya.out.size)
 have Syaa : Hid (ShB w1.heap.size d 1 yaa) := Sya.out.below hb
 clear hb Lya Sya
 go_wp2_with fail
 refine (wr1.out yaa Syaa.out).mono ?_
 rintro e x ⟨rfl, hs, hb⟩
 have Lx : Hid (Below w1.heap.size w1 x) := Lyaa.out.trans hb
 have Sx : Hid (ShB w1.heap.size d 2 x) := hs
 clear hb hs Lyaa Syaa ln1 wr1
 clear hx1 wst
 go_upto_region 4 with fail
 refine region_props4 (fun γ i v => WrP w.heap.size d ((lineB [kEsc, hexW [d.es.toNat], hexW [d.mx.toNat]]).length : Int) γ i v) (WrW w1 d) ⟨0, 0, 0⟩ (by kernel_rfl) (by kernel_rfl) ?_ ?_ ⟨Lx.out.trans ((Below.refl x.heap.size x).drew.mono Lx.out.size), fun _ => Sx.out.below (Below.refl _ _).drew, fun h => (by cases h), fun h => (by cases h), fun h => (by cases h), fun h => (by cases h)⟩
 · intro γ x a z i op ho hI haf hcl hx hxi hW
   have hi : i < 13 := (List.getElem?_eq_some_iff.1 ho).1
   have xi := getD_false hxi
   match i, hi with
    | 0, _ =>
     obtain rfl := Option.some.inj ho
     have e1 : a.tmps.getD 1 undef = .pointer (some ⟨w.heap.size, 0, none⟩) := (hI.was (by kernel_rfl)).trans rfl
     go_simp
     exact ⟨_, rfl, γ, rfl, fun j v _ h => h, hW.go (by decide) (by decide) (by decide) (by decide) (Below.refl _ _)⟩
    | 1, _ =>
     obtain rfl := Option.some.inj ho
     have e1 : a.tmps.getD 19 undef = .pointer (some ⟨w.heap.size, 2, none⟩) := Eq.trans (hI.val 0 _ 19 rfl rfl (dep_at haf (by kernel_rfl))) rfl
     have m0 := (DD.out.below hW.low).c 2 _ rfl
     go_simp
     exact ⟨_, rfl, γ, rfl, fun j v _ h => h, hW.go (by decide) (by decide) (by decide) (by decide) (Below.refl _ _)⟩
    | 2, _ =>
     obtain rfl := Option.some.inj ho
     have e1 : a.tmps.getD 20 undef = .int .i64 d.es := Eq.trans (hI.val 1 _ 20 rfl rfl (dep_at haf (by kernel_rfl))) rfl
     have wk : IntKind.u8.wrap d.es = d.es := we.out
     go_simp
     exact ⟨_, rfl, γ, rfl, fun j v _ h => h, hW.go (by decide) (by decide) (by decide) (by decide) (Below.refl _ _)⟩
    | 3, _ =>
     obtain rfl := Option.some.inj ho
     have e1 : a.tmps.getD 21 undef = .int .u8 d.es := Eq.trans (hI.val 2 _ 21 rfl rfl (dep_at haf (by kernel_rfl))) rfl
     have x12 : x.getD 12 false = false := no_bit xi fun h => hcl.at (j := 4) rfl (k := 3) (by kernel_rfl) (hcl.at (j := 10) rfl (k := 4) (by kernel_rfl) (hcl.at (j := 11) rfl (k := 10) (by kernel_rfl) (hcl.at (j := 12) rfl (k := 11) (by kernel_rfl) h)))
     go_simp
     simp only [← Array.getD_eq_getD_getElem?, e1]
     go_simp
     refine ⟨_, rfl, ⟨z.heap.size, γ.b2, γ.b3⟩, rfl, fun j v hj h => Eq.trans h (wrV_k1 (fun e => ?_)), hW.k1 x12⟩
     subst e; exact gd_no xi hj
    | 4, _ =>
     obtain rfl := Option.some.inj ho
     have e1 : a.tmps.getD 22 undef = .slice (some ⟨γ.b1, 0, none⟩) 1 1 := Eq.trans (hI.val 3 _ 22 rfl rfl (dep_at haf (by kernel_rfl))) rfl
     have x12 : x.getD 12 false = false := no_bit xi fun h => hcl.at (j := 10) rfl (k := 4) (by kernel_rfl) (hcl.at (j := 11) rfl (k := 10) (by kernel_rfl) (hcl.at (j := 12) rfl (k := 11) (by kernel_rfl) h))
     have s1 := hW.s1 (dep_at haf (by kernel_rfl)) x12
     go_simp
     refine (hx2.out z γ.b1 s1.1 s1.2).mono ?_
     rintro e z' ⟨rfl, hb⟩
     exact ⟨_, rfl, γ, rfl, fun j v _ h => h, hW.go (by decide) (by decide) (by decide) (by decide) hb⟩
    | 5, _ =>
     obtain rfl := Option.some.inj ho
     have e1 : a.tmps.getD 1 undef = .pointer (some ⟨w.heap.size, 0, none⟩) := (hI.was (by kernel_rfl)).trans rfl
     go_simp
     exact ⟨_, rfl, γ, rfl, fun j v _ h => h, hW.go (by decide) (by decide) (by decide) (by decide) (Below.refl _ _)⟩
    | 6, _ =>
     obtain rfl := Option.some.inj ho
     have e1 : a.tmps.getD 24 undef = .pointer (some ⟨w.heap.size, 3, none⟩) := Eq.trans (hI.val 5 _ 24 rfl rfl (dep_at haf (by kernel_rfl))) rfl
     have m0 := (DD.out.below hW.low).c 3 _ rfl
     go_simp
     exact ⟨_, rfl, γ, rfl, fun j v _ h => h, hW.go (by decide) (by decide) (by decide) (by decide) (Below.refl _ _)⟩
    | 7, _ =>
     obtain rfl := Option.some.inj ho
     have e1 : a.tmps.getD 25 undef = .int .i64 d.mx := Eq.trans (hI.val 6 _ 25 rfl rfl (dep_at haf (by kernel_rfl))) rfl
     have wk : IntKind.u8.wrap d.mx = d.mx := wm.out
     go_simp
     exact ⟨_, rfl, γ, rfl, fun j v _ h => h, hW.go (by decide) (by decide) (by decide) (by decide) (Below.refl _ _)⟩
    | 8, _ =>
     obtain rfl := Option.some.inj ho
     have e1 : a.tmps.getD 26 undef = .int .u8 d.mx := Eq.trans (hI.val 7 _ 26 rfl rfl (dep_at haf (by kernel_rfl))) rfl
     have x12 : x.getD 12 false = false := no_bit xi fun h => hcl.at (j := 9) rfl (k := 8) (by kernel_rfl) (hcl.at (j := 10) rfl (k := 9) (by kernel_rfl) (hcl.at (j := 11) rfl (k := 10) (by kernel_rfl) (hcl.at (j := 12) rfl (k := 11) (by kernel_rfl) h)))
     go_simp
     simp only [← Array.getD_eq_getD_getElem?, e1]
     go_simp
     refine ⟨_, rfl, ⟨γ.b1, z.heap.size, γ.b3⟩, rfl, fun j v hj h => Eq.trans h (wrV_k2 (fun e => ?_)), hW.k2 x12⟩
     subst e; exact gd_no xi hj
    | 9, _ =>
     obtain rfl := Option.some.inj ho
     have e1 : a.tmps.getD 27 undef = .slice (some ⟨γ.b2, 0, none⟩) 1 1 := Eq.trans (hI.val 8 _ 27 rfl rfl (dep_at haf (by kernel_rfl))) rfl
     have x12 : x.getD 12 false = false := no_bit xi fun h => hcl.at (j := 10) rfl (k := 9) (by kernel_rfl) (hcl.at (j := 11) rfl (k := 10) (by kernel_rfl) (hcl.at (j := 12) rfl (k := 11) (by kernel_rfl) h))
     have s2 := hW.s2 (dep_at haf (by kernel_rfl)) x12
     go_simp
     refine (hx3.out z γ.b2 s2.1 s2.2).mono ?_
     rintro e z' ⟨rfl, hb⟩
     exact ⟨_, rfl, γ, rfl, fun j v _ h => h, hW.go (by decide) (by decide) (by decide) (by decide) hb⟩
    | 10, _ =>
     obtain rfl := Option.some.inj ho
     have e1 : a.tmps.getD 23 undef = .string (txt (hexW [d.es.toNat])) := Eq.trans (hI.val 4 _ 23 rfl rfl (dep_at haf (by kernel_rfl))) rfl
     have e2 : a.tmps.getD 28 undef = .string (txt (hexW [d.mx.toNat])) := Eq.trans (hI.val 9 _ 28 rfl rfl (dep_at haf (by kernel_rfl))) rfl
     have x12 : x.getD 12 false = false := no_bit xi fun h => hcl.at (j := 11) rfl (k := 10) (by kernel_rfl) (hcl.at (j := 12) rfl (k := 11) (by kernel_rfl) h)
     go_simp
     simp only [← Array.getD_eq_getD_getElem?, e1, e2]
     go_simp
     refine ⟨_, rfl, ⟨γ.b1, γ.b2, z.heap.size⟩, rfl, fun j v hj h => Eq.trans h (wrV_k3 (fun e => ?_)), hW.k3 x12⟩
     subst e; exact gd_no xi hj
    | 11, _ =>
     obtain rfl := Option.some.inj ho
     have e1 : a.tmps.getD 29 undef = .slice (some ⟨γ.b3, 0, none⟩) 3 3 := Eq.trans (hI.val 10 _ 29 rfl rfl (dep_at haf (by kernel_rfl))) rfl
     have x12 : x.getD 12 false = false := no_bit xi fun h => hcl.at (j := 12) rfl (k := 11) (by kernel_rfl) h
     have s3 := hW.s3 (dep_at haf (by kernel_rfl)) x12
     go_simp
     refine (ln3.out z γ.b3 s3.1 s3.2).mono ?_
     rintro e z' ⟨rfl, hb⟩
     exact ⟨_, rfl, γ, rfl, fun j v _ h => h, hW.go (by decide) (by decide) (by decide) (by decide) hb⟩
    | 12, _ =>
     obtain rfl := Option.some.inj ho
     have e1 : a.tmps.getD 3 undef = .pointer (some ⟨w1.heap.size, 0, none⟩) := (hI.was (by kernel_rfl)).trans rfl
     have e2 : a.tmps.getD 30 undef = .string (txt (lineB [kEsc, hexW [d.es.toNat], hexW [d.mx.toNat]])) := Eq.trans (hI.val 11 _ 30 rfl rfl (dep_at haf (by kernel_rfl))) rfl
     have bd := hW.bd xi
     go_simp
     refine (wr2.out z bd).mono ?_
     rintro e z' ⟨rfl, hs, hb⟩
     exact ⟨_, rfl, γ, rfl, fun j v _ h => h, hW.wr (by rw [hx]; decide) hs hb⟩
 · intro γ xb a z hx hall hI hW
   have Lz : Hid (Below w1.heap.size w1 z) := hW.low
   have Sz : Hid (ShB w1.heap.size d 3 z) := hW.be (hall 12 (by decide))
   have ha := RegI.tmps (V := wrV w.heap.size d ((lineB [kEsc, hexW [d.es.toNat], hexW [d.mx.toNat]]).length : Int) γ) hI (by kernel_rfl) hall
   simp only [putsL, wrV, List.setIfInBounds_toArray, List.set_cons_zero, List.set_cons_succ] at ha
   subst ha
   clear hI hW hall hx hx2 hx3 we wm ln3 wr2 Lx Sx
   generalize ((lineB [kEsc, hexW [d.es.toNat], hexW [d.mx.toNat]]).length : Int) = nE
   have m0 := (DD.out.below Lz.out).c 4 _ rfl
   go_wp2_with fail
   refine (nz.out z).mono ?_
   rintro e za ⟨rfl, hb⟩
   have Lza : Hid (Below w1.heap.size w1 za) := Lz.out.trans (hb.mono Lz.out.size)
   have Sza : Hid (ShB w1.heap.size d 3 za) := Sz.out.below hb
   clear hb Lz Sz
   clear m0
   go_wp2_with fail
   refine (ln4.out za).mono ?_
   rintro e zaa ⟨rfl, hb⟩
   have Lzaa : Hid (Below w1.heap.size w1 zaa) := Lza.out.trans (hb.mono Lza.out.size)
   have Szaa : Hid (ShB w1.heap.size d 3 zaa) := Sza.out.below hb
   clear hb Lza Sza
   go_wp2_with fail
   refine (wr4.out zaa Szaa.out).mono ?_
   rintro e y ⟨rfl, hs, hb⟩
   have Ly : Hid (Below w1.heap.size w1 y) := Lzaa.out.trans hb
   have Sy : Hid (ShB w1.heap.size d 4 y) := hs
   clear hb hs Lzaa Szaa ln4 wr4
   have m0 := (DD.out.below Ly.out).c 5 _ rfl
   go_wp2_with fail
   refine (ln5.out y).mono ?_
   rintro e ya ⟨rfl, hb⟩
   have Lya : Hid (Below w1.heap.size w1 ya) := Ly.out.trans (hb.mono Ly.out.size)
   have Sya : Hid (ShB w1.heap.size d 4 ya) := Sy.out.below hb
   clear hb Ly Sy
   clear m0
   go_wp2_with fail
   refine (wr5.out ya Sya.out).mono ?_
   rintro e x ⟨rfl, hs, hb⟩
   have Lx : Hid (Below w1.heap.size w1 x) := Lya.out.trans hb
   have Sx : Hid (ShB w1.heap.size d 5 x) := hs
   clear hb hs Lya Sya ln5 wr5
   have mf := (DD.out.below Lx.out).c 6 _ rfl
   have L0 : Hid (Below w1.heap.size w1 x) := Lx.out
   have S0 : Hid (ShB w1.heap.size d (5 + 0) x) := Sx.out
   clear nz Lx Sx
   go_wp2_with fail
   go_loopw [5, 46] (fun vf vi wr => ∃ k : Nat, (k : Int) ≤ (len : Int) ∧ vi = .int .i64 (k : Int) ∧ Hid (ShB w1.heap.size d (5 + k) wr) ∧ Hid (Below w1.heap.size w1 wr)) (fun _ vi _ => len - (intOf vi).toNat)
   case atStart => exact ⟨0, by omega, rfl, S0, L0⟩
   case round =>
    obtain ⟨k, hk, rfl, Sr, Lr⟩ := hrel
    clear mf S0 L0
    by_cases hlt : (k : Int) < (len : Int)
    · have hkl : k < d.fs.length := by have := hlen.out; omega
      have Dr := DD.out.below Lr.out
      rcases Dr.fl with ⟨_, _, _, e⟩ | ⟨g, o, cap', e, _, hin, hg⟩
      · rw [e] at hkl; cases hkl
      · injection e with e1 e2 e3
        subst e1
        obtain ⟨f, hf⟩ : ∃ f, d.fs[k] = f := ⟨_, rfl⟩
        obtain ⟨c0, c1, c2, c3, c4, c5, c6, c7, c8⟩ := hin.cells hkl hf
        obtain ⟨fc, wc⟩ := fl.out k hkl
        rw [hf] at fc wc
        replace fc : Hid (ShTxC 58 #[fdV f] (lineB (fieldW f))) := fc
        replace wc : Hid (ShWrC w1.heap.size d (5 + k) (5 + (k + 1)) (fieldW f)) := wc
        have ba : Hid (∀ o, Below wr.heap.size wr (wr.alloc o)) := fun o => (Below.refl _ _).alloc (Nat.le_refl _) o
        clear hin hf hkl e2 e3 Dr hg
        go_wp2_with fail
        refine (fc.out _).mono ?_
        rintro e y ⟨rfl, hb⟩
        have by1 := (ba.out _).trans (hb.mono (ba.out _).size)
        have Ly : Hid (Below w1.heap.size w1 y) := Lr.out.trans (by1.mono Lr.out.size)
        have Sy : Hid (ShB w1.heap.size d (5 + k) y) := Sr.out.below by1
        clear by1 hb ba fc Lr Sr c0 c1 c2 c3 c4 c5 c6 c7 c8
        go_wp2_with fail
        refine (wc.out y Sy.out).mono ?_
        rintro e x' ⟨rfl, hs, hb⟩
        have Lx : Hid (Below w1.heap.size w1 x') := Ly.out.trans hb
        replace hs : Hid (ShB w1.heap.size d (5 + (k + 1)) x') := hs
        clear hb Ly Sy wc
        go_wp2
        exact ⟨⟨k + 1, by omega, by simp, hs, Lx⟩, by simp [intOf]; omega⟩
    · obtain rfl : k = len := by omega
      have Lz : Hid (Below w1.heap.size w1 wr) := Lr.out
      have Sz : Hid (ShB w1.heap.size d (5 + d.fs.length) wr) := by rw [hlen.out]; exact Sr.out
      clear Sr Lr fl
      generalize wr = z at *
      have m0 := (DD.out.below Lz.out).c 7 _ rfl
      go_wp2_with fail
      refine (hxq.out z Lz.out).mono ?_
      rintro e za ⟨rfl, hb⟩
      have Lza : Hid (Below w1.heap.size w1 za) := Lz.out.trans (hb.mono Lz.out.size)
      have Sza : Hid (ShB w1.heap.size d (5 + d.fs.length) za) := Sz.out.below hb
      clear hb Lz Sz
      clear m0
      go_wp2_with fail
      refine (lna.out za).mono ?_
      rintro e zaa ⟨rfl, hb⟩
      have Lzaa : Hid (Below w1.heap.size w1 zaa) := Lza.out.trans (hb.mono Lza.out.size)
      have Szaa : Hid (ShB w1.heap.size d (5 + d.fs.length) zaa) := Sza.out.below hb
      clear hb Lza Sza
      go_wp2_with fail
      refine (wra.out zaa Szaa.out).mono ?_
      rintro e y ⟨rfl, hs, hb⟩
      have Ly : Hid (Below w1.heap.size w1 y) := Lzaa.out.trans hb
      have Sy : Hid (ShB w1.heap.size d (5 + d.fs.length + 1) y) := hs
      clear hb hs Lzaa Szaa lna wra
      have m0 := (DD.out.below Ly.out).c 8 _ rfl
      go_wp2_with fail
      refine (np.out y).mono ?_
      rintro e ya ⟨rfl, hb⟩
      have Lya : Hid (Below w1.heap.size w1 ya) := Ly.out.trans (hb.mono Ly.out.size)
      have Sya : Hid (ShB w1.heap.size d (5 + d.fs.length + 1) ya) := Sy.out.below hb
      clear hb Ly Sy
      clear m0
      go_wp2_with fail
      refine (lnb.out ya).mono ?_
      rintro e yaa ⟨rfl, hb⟩
      have Lyaa : Hid (Below w1.heap.size w1 yaa) := Lya.out.trans (hb.mono Lya.out.size)
      have Syaa : Hid (ShB w1.heap.size d (5 + d.fs.length + 1) yaa) := Sya.out.below hb
      clear hb Lya Sya
      go_wp2_with fail
      refine (wrb.out yaa Syaa.out).mono ?_
      rintro e x ⟨rfl, hs, hb⟩
      have Lx : Hid (Below w1.heap.size w1 x) := Lyaa.out.trans hb
      have Sx : Hid (ShB w1.heap.size d (5 + d.fs.length + 2) x) := hs
      clear hb hs Lyaa Syaa lnb wrb
      have m0 := (DD.out.below Lx.out).c 9 _ rfl
      go_wp2_with fail
      refine (nt.out x).mono ?_
      rintro e xa ⟨rfl, hb⟩
      have Lxa : Hid (Below w1.heap.size w1 xa) := Lx.out.trans (hb.mono Lx.out.size)
      have Sxa : Hid (ShB w1.heap.size d (5 + d.fs.length + 2) xa) := Sx.out.below hb
      clear hb Lx Sx
      clear m0
      go_wp2_with fail
      refine (lnc.out xa).mono ?_
      rintro e xaa ⟨rfl, hb⟩
      have Lxaa : Hid (Below w1.heap.size w1 xaa) := Lxa.out.trans (hb.mono Lxa.out.size)
      have Sxaa : Hid (ShB w1.heap.size d (5 + d.fs.length + 2) xaa) := Sxa.out.below hb
      clear hb Lxa Sxa
      go_wp2_with fail
      refine (wrc.out xaa Sxaa.out).mono ?_
      rintro e z ⟨rfl, hs, hb⟩
      have Lz : Hid (Below w1.heap.size w1 z) := Lxaa.out.trans hb
      have Sz : Hid (ShB w1.heap.size d (5 + d.fs.length + 3) z) := hs
      clear hb hs Lxaa Sxaa lnc wrc
      have m0 := (DD.out.below Lz.out).c 10 _ rfl
      go_wp2_with fail
      refine (nr.out z).mono ?_
      rintro e za ⟨rfl, hb⟩
      have Lza : Hid (Below w1.heap.size w1 za) := Lz.out.trans (hb.mono Lz.out.size)
      have Sza : Hid (ShB w1.heap.size d (5 + d.fs.length + 3) za) := Sz.out.below hb
      clear hb Lz Sz
      clear m0
      go_wp2_with fail
      refine (lnd.out za).mono ?_
      rintro e zaa ⟨rfl, hb⟩
      have Lzaa : Hid (Below w1.heap.size w1 zaa) := Lza.out.trans (hb.mono Lza.out.size)
      have Szaa : Hid (ShB w1.heap.size d (5 + d.fs.length + 3) zaa) := Sza.out.below hb
      clear hb Lza Sza
      go_wp2_with fail
      refine (wrd.out zaa Szaa.out).mono ?_
      rintro e y ⟨rfl, hs, hb⟩
      have Ly : Hid (Below w1.heap.size w1 y) := Lzaa.out.trans hb
      have Sy : Hid (ShB w1.heap.size d (5 + d.fs.length + 4) y) := hs
      clear hb hs Lzaa Szaa lnd wrd
      have m0 := (DD.out.below Ly.out).c 11 _ rfl
      go_wp2_with fail
      refine (na.out y).mono ?_
      rintro e ya ⟨rfl, hb⟩
      have Lya : Hid (Below w1.heap.size w1 ya) := Ly.out.trans (hb.mono Ly.out.size)
      have Sya : Hid (ShB w1.heap.size d (5 + d.fs.length + 4) ya) := Sy.out.below hb
      clear hb Ly Sy
      clear m0
      go_wp2_with fail
      refine (lne.out ya).mono ?_
      rintro e yaa ⟨rfl, hb⟩
      have Lyaa : Hid (Below w1.heap.size w1 yaa) := Lya.out.trans (hb.mono Lya.out.size)
      have Syaa : Hid (ShB w1.heap.size d (5 + d.fs.length + 4) yaa) := Sya.out.below hb
      clear hb Lya Sya
      go_wp2_with fail
      refine (wre.out yaa Syaa.out).mono ?_
      rintro e x ⟨rfl, hs, hb⟩
      have Lx : Hid (Below w1.heap.size w1 x) := Lyaa.out.trans hb
      have Sx : Hid (ShB w1.heap.size d (5 + d.fs.length + 5) x) := hs
      clear hb hs Lyaa Syaa lne wre
      have st : Hid (Calls Tryz.prog 37 #[.pointer (some ⟨w1.heap.size, 0, none⟩)] x fun e y => e = .returned (.string (txt (textD d))) ∧ Below w1.heap.size x y) := by
       have h : BldAt w1.heap.size w1.heap.size (bytesL ((linesW d).take (5 + d.fs.length + 5))) x := Sx.out
       rw [List.take_of_length_le (by rw [linesW_len]; exact Nat.le_refl _)] at h
       exact bst_any _ _ _ x h
      go_wp2_with fail
      refine st.out.mono ?_
      rintro e y ⟨rfl, hy⟩
      have BF : Hid (Below w.heap.size w y) := B0.out.trans ((Lx.out.trans hy).mono B0.out.size)
      clear st hy Lx Sx
      go_wp2
      go_ret
      exact ⟨rfl, BF.out⟩
abbrev wdsOf (rs : List Lr) : List (List Wd) := rs.map fun r => r.2
theorem wds_cons {rs : List Lr} {w : List Wd} {W : List (List Wd)} (h : wdsOf rs = w :: W) : ∃ n r, rs = (n, w) :: r ∧ wdsOf r = W := by
 cases rs with
 | nil => cases h
 | cons a r =>
  have h1 : a.2 = w := (List.cons.inj h).1
  exact ⟨a.1, r, by rw [← h1], (List.cons.inj h).2⟩
theorem go_at {d : Dv} {s : List Wd} {f : Wd} {a : List Wd} {W : List (List Wd)} {rs : List Lr} {u : Dv → Dv} (h : wdsOf rs = (f :: a) :: W) (h1 : knownB f = true) (h2 : ¬ (f ≠ kFie ∧ f ∈ s)) (h3 : ¬ (f = kFie ∧ d.fs.length = 8)) (hu : updM f a = some u) :
 ∃ r, wdsOf r = W ∧ goM d s rs = goM (u d) (s ++ [f]) r := by
 obtain ⟨n, r, e, hr⟩ := wds_cons h
 refine ⟨r, hr, ?_⟩
 rw [e]
 exact go_ok (r := (n, f :: a)) (ok_step h1 h2 h3 hu)
theorem u_dev {x : Wd} (h : nameB x = true) : updM kDev [x] = some fun d => { d with nm := x } := by
 unfold updM mName
 rw [if_pos rfl]
 exact if_pos h
theorem u_sum {x : Wd} (h : nameB x = true) : updM kSum [x] = some fun d => { d with sm := x } := by
 unfold updM mName
 rw [if_neg (by decide), if_neg (by decide), if_neg (by decide), if_neg (by decide), if_pos rfl]
 exact if_pos h
theorem u_sta {n : Int} (h : 0 ≤ n ∧ n ≤ 255) : updM kSta [hexW [n.toNat]] = some fun d => { d with st := n } := by
 unfold updM mSta
 rw [if_neg (by decide), if_pos rfl]
 show Option.map _ (octO (hexW [n.toNat])) = _
 rw [octO_hexW (by omega)]
 show (some fun d : Dv => { d with st := ((n.toNat : Nat) : Int) }) = _
 rw [show ((n.toNat : Nat) : Int) = n by omega]
theorem u_esc {n m : Int} (h : 0 ≤ n ∧ n ≤ 255) (k : 0 ≤ m ∧ m ≤ 255) : updM kEsc [hexW [n.toNat], hexW [m.toNat]] = some fun d => { d with es := n, mx := m } := by
 unfold updM mEsc
 rw [if_neg (by decide), if_neg (by decide), if_pos rfl]
 show (octO (hexW [n.toNat])).bind _ = _
 rw [octO_hexW (by omega)]
 show Option.map _ (octO (hexW [m.toNat])) = _
 rw [octO_hexW (by omega)]
 show (some fun d : Dv => { d with es := ((n.toNat : Nat) : Int), mx := ((m.toNat : Nat) : Int) }) = _
 rw [show ((n.toNat : Nat) : Int) = n by omega, show ((m.toNat : Nat) : Int) = m by omega]
theorem u_siz {n : Int} (h : 1 ≤ n ∧ n ≤ 32) : updM kSiz [textL n] = some fun d => { d with sz := n } := by
 obtain ⟨k1, k2⟩ := num_textL (n := n) ⟨by omega, by omega⟩ h.1 h.2
 unfold updM mNum
 rw [if_neg (by decide), if_neg (by decide), if_neg (by decide), if_pos rfl]
 show (if numB (textL n) 1 32 = true then some _ else none) = _
 rw [if_pos k1, k2]
theorem u_req {bs : List Nat} (h : AllBytes bs) (h1 : 1 ≤ bs.length ∧ bs.length ≤ 16) : updM kReq [hexW bs] = some fun d => { d with rq := bs } := by
 unfold updM mReq
 rw [if_neg (by decide), if_neg (by decide), if_neg (by decide), if_neg (by decide), if_neg (by decide), if_pos rfl]
 show (hexR (hexW bs)).bind _ = _
 rw [hexR_hexW h (by intro e; rw [e] at h1; simp at h1)]
 exact if_pos h1.2
theorem u_pol {n : Int} (h : 1 ≤ n ∧ n ≤ 1000) : updM kPol [textL n] = some fun d => { d with po := n } := by
 obtain ⟨k1, k2⟩ := num_textL (n := n) ⟨by omega, by omega⟩ h.1 h.2
 unfold updM mNum
 rw [if_neg (by decide), if_neg (by decide), if_neg (by decide), if_neg (by decide), if_neg (by decide), if_neg (by decide), if_pos rfl]
 show (if numB (textL n) 1 1000 = true then some _ else none) = _
 rw [if_pos k1, k2]
theorem u_tim {n : Int} (h : 1 ≤ n ∧ n ≤ 1000) : updM kTim [textL n] = some fun d => { d with ti := n } := by
 obtain ⟨k1, k2⟩ := num_textL (n := n) ⟨by omega, by omega⟩ h.1 h.2
 unfold updM mNum
 rw [if_neg (by decide), if_neg (by decide), if_neg (by decide), if_neg (by decide), if_neg (by decide), if_neg (by decide), if_neg (by decide), if_pos rfl]
 show (if numB (textL n) 1 1000 = true then some _ else none) = _
 rw [if_pos k1, k2]
theorem u_ret {n : Int} (h : 0 ≤ n ∧ n ≤ 10) : updM kRet [textL n] = some fun d => { d with re := n } := by
 obtain ⟨k1, k2⟩ := num_textL (n := n) ⟨by omega, by omega⟩ h.1 h.2
 unfold updM mNum
 rw [if_neg (by decide), if_neg (by decide), if_neg (by decide), if_neg (by decide), if_neg (by decide), if_neg (by decide), if_neg (by decide), if_neg (by decide), if_pos rfl]
 show (if numB (textL n) 0 10 = true then some _ else none) = _
 rw [if_pos k1, k2]
theorem u_age {n : Int} (h : 1 ≤ n ∧ n ≤ 1000) : updM kAge [textL n] = some fun d => { d with ag := n } := by
 obtain ⟨k1, k2⟩ := num_textL (n := n) ⟨by omega, by omega⟩ h.1 h.2
 unfold updM mNum
 rw [if_neg (by decide), if_neg (by decide), if_neg (by decide), if_neg (by decide), if_neg (by decide), if_neg (by decide), if_neg (by decide), if_neg (by decide), if_neg (by decide), if_pos rfl]
 show (if numB (textL n) 1 1000 = true then some _ else none) = _
 rw [if_pos k1, k2]
theorem fld_field {f : Fd} (h : FdOk f) : fldO [f.nm, textL f.pl, f.kd, textL f.wd, ratW f.sn f.sd, ratW f.on f.od, f.un] = some f := by
 obtain ⟨a1, a2⟩ := num_textL (n := f.pl) ⟨by have := h.pl; omega, by have := h.pl; omega⟩ h.pl.1 h.pl.2
 obtain ⟨b1, b2⟩ := num_textL (n := f.wd) ⟨by have := h.wd; omega, by have := h.wd; omega⟩ h.wd.1 h.wd.2
 obtain ⟨c1, c2, c3⟩ := fr_ratW h.s.1 h.s.2.1 h.s.2.2
 obtain ⟨e1, e2, e3⟩ := fr_ratW h.o.1 h.o.2.1 h.o.2.2
 unfold fldO
 show (if _ then some _ else none) = _
 rw [if_pos ⟨⟨h.nm, h.kd, h.un⟩, a1, b1, c1, e1⟩, a2, b2, c2, c3, e2, e3]
theorem u_fie {f : Fd} (h : FdOk f) : updM kFie [f.nm, textL f.pl, f.kd, textL f.wd, ratW f.sn f.sd, ratW f.on f.od, f.un] = some fun d => { d with fs := d.fs ++ [f] } := by
 unfold updM
 rw [if_neg (by decide), if_neg (by decide), if_neg (by decide), if_neg (by decide), if_neg (by decide), if_neg (by decide), if_neg (by decide), if_neg (by decide), if_neg (by decide), if_neg (by decide), if_pos rfl, fld_field h]
 rfl
abbrev fieS (fs : List Fd) : List Wd := fs.map fun _ => kFie
theorem go_fields (fs : List Fd) : ∀ {d : Dv} {s : List Wd} {W : List (List Wd)} {rs : List Lr} (h : wdsOf rs = fs.map fieldW ++ W) (hf : ∀ f ∈ fs, FdOk f) (hn : d.fs.length + fs.length ≤ 8),
 ∃ r, wdsOf r = W ∧ goM d s rs = goM { d with fs := d.fs ++ fs } (s ++ fieS fs) r := by
 induction fs with
 | nil =>
  intro d s W rs h hf hn
  refine ⟨rs, h, ?_⟩
  rw [List.append_nil]
  show _ = goM _ (s ++ []) rs
  rw [List.append_nil]
 | cons f fs ih =>
  intro d s W rs h hf hn
  rw [List.length_cons] at hn
  obtain ⟨r1, e1, g1⟩ := go_at (d := d) (s := s) (f := kFie) (a := (fieldW f).tail) (W := fs.map fieldW ++ W) h (by decide) (fun c => c.1 rfl) (fun c => by omega) (u_fie (hf f (by simp)))
  obtain ⟨r2, e2, g2⟩ := ih (d := { d with fs := d.fs ++ [f] }) (s := s ++ [kFie]) e1 (fun x hx => hf x (by simp [hx])) (by simp only [List.length_append, List.length_cons, List.length_nil]; omega)
  refine ⟨r2, e2, ?_⟩
  rw [g1, g2]
  show goM { d with fs := (d.fs ++ [f]) ++ fs } ((s ++ [kFie]) ++ fieS fs) r2 = _
  rw [List.append_assoc, List.append_assoc]
  rfl
theorem fie_no {fs : List Fd} {k : Wd} (h : ¬ k = kFie) : k ∉ fieS fs := by
 intro c
 obtain ⟨_, _, e⟩ := List.mem_map.1 c
 exact h e.symm
def seenW (d : Dv) : List Wd := ([kDev, kSta, kEsc, kSiz, kSum] ++ fieS d.fs) ++ [kReq, kPol, kTim, kRet, kAge]
theorem lack_no (d : Dv) : lackB (seenW d) = false := by
 refine decide_eq_false fun ⟨k, hk, hn⟩ => hn ?_
 unfold seenW
 simp only [tenK, List.mem_cons, List.not_mem_nil, or_false] at hk
 rw [List.mem_append, List.mem_append]
 rcases hk with e | e | e | e | e | e | e | e | e | e <;> subst e
 · exact .inl (.inl (by simp))
 · exact .inl (.inl (by simp))
 · exact .inl (.inl (by simp))
 · exact .inl (.inl (by simp))
 · exact .inl (.inl (by simp))
 · exact .inr (by simp)
 · exact .inr (by simp)
 · exact .inr (by simp)
 · exact .inr (by simp)
 · exact .inr (by simp)
theorem not_in {k : Wd} {fs : List Fd} {t : List Wd} (h : k ∉ [kDev, kSta, kEsc, kSiz, kSum]) (h1 : ¬ k = kFie) (h2 : k ∉ t) : ¬ (k ≠ kFie ∧ k ∈ ([kDev, kSta, kEsc, kSiz, kSum] ++ fieS fs) ++ t) := by
 rintro ⟨_, c⟩
 rw [List.mem_append, List.mem_append] at c
 rcases c with (c | c) | c
 · exact h c
 · exact fie_no h1 c
 · exact h2 c
theorem read_lines {d : Dv} (h : DvOk d) {rs : List Lr} (e : wdsOf rs = linesW d) : readM rs = (d, 0, 0) := by
 unfold readM
 obtain ⟨r1, e1, g1⟩ := go_at (d := dv0) (s := []) (f := kDev) (a := [d.nm]) e (by decide) (by decide) (fun c => by cases c.1) (u_dev h.nm)
 obtain ⟨r2, e2, g2⟩ := go_at (s := [] ++ [kDev]) (f := kSta) (a := [hexW [d.st.toNat]]) e1 (by decide) (by decide) (fun c => by cases c.1) (u_sta h.st)
 obtain ⟨r3, e3, g3⟩ := go_at (s := ([] ++ [kDev]) ++ [kSta]) (f := kEsc) (a := [hexW [d.es.toNat], hexW [d.mx.toNat]]) e2 (by decide) (by decide) (fun c => by cases c.1) (u_esc h.es h.mx)
 obtain ⟨r4, e4, g4⟩ := go_at (s := (([] ++ [kDev]) ++ [kSta]) ++ [kEsc]) (f := kSiz) (a := [textL d.sz]) e3 (by decide) (by decide) (fun c => by cases c.1) (u_siz h.sz)
 obtain ⟨r5, e5, g5⟩ := go_at (s := ((([] ++ [kDev]) ++ [kSta]) ++ [kEsc]) ++ [kSiz]) (f := kSum) (a := [d.sm]) e4 (by decide) (by decide) (fun c => by cases c.1) (u_sum h.sm)
 rw [g1, g2, g3, g4, g5]
 have e5' : wdsOf r5 = d.fs.map fieldW ++ tailW d := e5
 obtain ⟨r6, e6, g6⟩ := go_fields d.fs (d := ⟨d.nm, d.st, d.es, d.mx, d.sz, d.sm, [], [], 0, 0, 0, 0⟩) (s := [kDev, kSta, kEsc, kSiz, kSum]) e5' h.fs (by have := h.fn; simp only [List.length_nil]; omega)
 refine Eq.trans g6 ?_
 obtain ⟨r7, e7, g7⟩ := go_at (d := ⟨d.nm, d.st, d.es, d.mx, d.sz, d.sm, d.fs, [], 0, 0, 0, 0⟩) (s := [kDev, kSta, kEsc, kSiz, kSum] ++ fieS d.fs) (f := kReq) (a := [hexW d.rq]) e6 (by decide) (by have k := not_in (k := kReq) (fs := d.fs) (t := []) (by decide) (by decide) (by decide); rwa [List.append_nil] at k) (fun c => by cases c.1) (u_req h.rb h.rq)
 obtain ⟨r8, e8, g8⟩ := go_at (d := ⟨d.nm, d.st, d.es, d.mx, d.sz, d.sm, d.fs, d.rq, 0, 0, 0, 0⟩) (s := ([kDev, kSta, kEsc, kSiz, kSum] ++ fieS d.fs) ++ [kReq]) (f := kPol) (a := [textL d.po]) e7 (by decide) (not_in (by decide) (by decide) (by decide)) (fun c => by cases c.1) (u_pol h.po)
 obtain ⟨r9, e9, g9⟩ := go_at (d := ⟨d.nm, d.st, d.es, d.mx, d.sz, d.sm, d.fs, d.rq, d.po, 0, 0, 0⟩) (s := (([kDev, kSta, kEsc, kSiz, kSum] ++ fieS d.fs) ++ [kReq]) ++ [kPol]) (f := kTim) (a := [textL d.ti]) e8 (by decide) (by rw [List.append_assoc]; exact not_in (by decide) (by decide) (by decide)) (fun c => by cases c.1) (u_tim h.ti)
 obtain ⟨ra, ea, ga⟩ := go_at (d := ⟨d.nm, d.st, d.es, d.mx, d.sz, d.sm, d.fs, d.rq, d.po, d.ti, 0, 0⟩) (s := ((([kDev, kSta, kEsc, kSiz, kSum] ++ fieS d.fs) ++ [kReq]) ++ [kPol]) ++ [kTim]) (f := kRet) (a := [textL d.re]) e9 (by decide) (by rw [List.append_assoc, List.append_assoc]; exact not_in (by decide) (by decide) (by decide)) (fun c => by cases c.1) (u_ret h.re)
 obtain ⟨rb, eb, gb⟩ := go_at (d := ⟨d.nm, d.st, d.es, d.mx, d.sz, d.sm, d.fs, d.rq, d.po, d.ti, d.re, 0⟩) (s := (((([kDev, kSta, kEsc, kSiz, kSum] ++ fieS d.fs) ++ [kReq]) ++ [kPol]) ++ [kTim]) ++ [kRet]) (f := kAge) (a := [textL d.ag]) ea (by decide) (by rw [List.append_assoc, List.append_assoc, List.append_assoc]; exact not_in (by decide) (by decide) (by decide)) (fun c => by cases c.1) (u_age h.ag)
 refine Eq.trans g7 (Eq.trans g8 (Eq.trans g9 (Eq.trans ga (Eq.trans gb ?_))))
 have e0 : rb = [] := List.map_eq_nil_iff.1 eb
 rw [e0]
 have es : ((((([kDev, kSta, kEsc, kSiz, kSum] ++ fieS d.fs) ++ [kReq]) ++ [kPol]) ++ [kTim]) ++ [kRet]) ++ [kAge] = seenW d := by
  unfold seenW
  simp only [List.append_assoc]
  rfl
 rw [es, goM, lack_no d]
 rfl
theorem wds_nr (L : List (List Wd)) : ∀ l, wdsOf (lrOf (nrL l L)) = L := by
 induction L with
 | nil => intro l; rfl
 | cons a r ih => intro l; show a :: wdsOf (lrOf (nrL (l + 1) r)) = _; rw [ih]
theorem go_fs (rs : List Lr) : ∀ {d : Dv} {s : List Wd}, SeenOk d s → (goM d s rs).1.fs.length ≤ 8 := by
 induction rs with
 | nil =>
  intro d s h
  unfold goM
  split
  · exact Nat.zero_le _
  · exact h.le
 | cons r rs ih =>
  intro d s h
  unfold goM
  cases hs : stepM d s r.2 with
  | error n => exact Nat.zero_le _
  | ok d' => exact ih (h.step hs)
theorem read_fs (rs : List Lr) : (readM rs).1.fs.length ≤ 8 := go_fs _ SeenOk.first
structure FdJ (f : Fd) : Prop where
 nm : f.nm.length ≤ 12
 kd : f.kd.length ≤ 12
 un : f.un.length ≤ 12
 pl : I64 f.pl
 wd : I64 f.wd
 sn : I64 f.sn
 sd : I64 f.sd
 on : I64 f.on
 od : I64 f.od
structure DvJ (d : Dv) : Prop where
 nm : d.nm.length ≤ 12
 sm : d.sm.length ≤ 12
 sz : I64 d.sz
 fs : ∀ f ∈ d.fs, FdJ f
 rq : AllBytes d.rq
 rl : d.rq.length ≤ 16
theorem dv0_j : DvJ dv0 := ⟨by decide, by decide, ⟨by decide, by decide⟩, fun f h => (by cases h), fun c h => (by cases h), by decide⟩
theorem fldO_j {a : List Wd} {f : Fd} (h : fldO a = some f) : FdJ f := by
 unfold fldO at h
 split at h
 · split at h
   · rename_i hc
     have e := Option.some.inj h
     subst e
     exact ⟨name_le12 hc.1.1, name_le12 hc.1.2.1, name_le12 hc.1.2.2, readV_bd _, readV_bd _, readV_bd _, readV_bd _, readV_bd _, readV_bd _⟩
   · cases h
 · cases h
theorem mName_i {a : List Wd} {k : Wd → Dv → Dv} {u : Dv → Dv} (h : mName a k = some u) : ∃ x, nameB x = true ∧ u = k x := by
 unfold mName at h
 split at h
 · split at h
   · exact ⟨_, by assumption, (Option.some.inj h).symm⟩
   · cases h
 · cases h
theorem mNum_i {a : List Wd} {lo hi : Int} {k : Int → Dv → Dv} {u : Dv → Dv} (h : mNum a lo hi k = some u) : ∃ x : Int, I64 x ∧ u = k x := by
 unfold mNum at h
 split at h
 · split at h
   · exact ⟨_, readV_bd _, (Option.some.inj h).symm⟩
   · cases h
 · cases h
theorem upd_j {f : Wd} {a : List Wd} {u : Dv → Dv} {d : Dv} (h : updM f a = some u) (hd : DvJ d) : DvJ (u d) := by
 have num : ∀ {lo hi : Int} {k : Int → Dv → Dv}, mNum a lo hi k = some u → (∀ x : Int, I64 x → DvJ (k x d)) → DvJ (u d) := fun h1 h2 => by
  obtain ⟨x, hx, rfl⟩ := mNum_i h1
  exact h2 x hx
 unfold updM at h
 by_cases c0 : f = kDev
 · rw [if_pos c0] at h
   obtain ⟨x, hx, rfl⟩ := mName_i h
   exact ⟨name_le12 hx, hd.sm, hd.sz, hd.fs, hd.rq, hd.rl⟩
 rw [if_neg c0] at h
 by_cases c1 : f = kSta
 · rw [if_pos c1] at h
   unfold mSta at h
   split at h
   · obtain ⟨b, _, rfl⟩ := Option.map_eq_some_iff.1 h
     exact ⟨hd.nm, hd.sm, hd.sz, hd.fs, hd.rq, hd.rl⟩
   · cases h
 rw [if_neg c1] at h
 by_cases c2 : f = kEsc
 · rw [if_pos c2] at h
   unfold mEsc at h
   split at h
   · obtain ⟨b, _, h⟩ := Option.bind_eq_some_iff.1 h
     obtain ⟨c, _, rfl⟩ := Option.map_eq_some_iff.1 h
     exact ⟨hd.nm, hd.sm, hd.sz, hd.fs, hd.rq, hd.rl⟩
   · cases h
 rw [if_neg c2] at h
 by_cases c3 : f = kSiz
 · rw [if_pos c3] at h
   exact num h fun x hx => ⟨hd.nm, hd.sm, hx, hd.fs, hd.rq, hd.rl⟩
 rw [if_neg c3] at h
 by_cases c4 : f = kSum
 · rw [if_pos c4] at h
   obtain ⟨x, hx, rfl⟩ := mName_i h
   exact ⟨hd.nm, name_le12 hx, hd.sz, hd.fs, hd.rq, hd.rl⟩
 rw [if_neg c4] at h
 by_cases c5 : f = kReq
 · rw [if_pos c5] at h
   unfold mReq at h
   split at h
   · obtain ⟨b, hb, h⟩ := Option.bind_eq_some_iff.1 h
     split at h
     · obtain rfl := Option.some.inj h
       unfold hexR at hb
       split at hb
       · cases hb
       · exact ⟨hd.nm, hd.sm, hd.sz, hd.fs, (hex_bytes _ hb).1, by assumption⟩
     · cases h
   · cases h
 rw [if_neg c5] at h
 by_cases c6 : f = kPol
 · rw [if_pos c6] at h
   exact num h fun x hx => ⟨hd.nm, hd.sm, hd.sz, hd.fs, hd.rq, hd.rl⟩
 rw [if_neg c6] at h
 by_cases c7 : f = kTim
 · rw [if_pos c7] at h
   exact num h fun x hx => ⟨hd.nm, hd.sm, hd.sz, hd.fs, hd.rq, hd.rl⟩
 rw [if_neg c7] at h
 by_cases c8 : f = kRet
 · rw [if_pos c8] at h
   exact num h fun x hx => ⟨hd.nm, hd.sm, hd.sz, hd.fs, hd.rq, hd.rl⟩
 rw [if_neg c8] at h
 by_cases c9 : f = kAge
 · rw [if_pos c9] at h
   exact num h fun x hx => ⟨hd.nm, hd.sm, hd.sz, hd.fs, hd.rq, hd.rl⟩
 rw [if_neg c9] at h
 by_cases c10 : f = kFie
 · rw [if_pos c10] at h
   obtain ⟨x, hx, rfl⟩ := Option.map_eq_some_iff.1 h
   refine ⟨hd.nm, hd.sm, hd.sz, fun f hf => ?_, hd.rq, hd.rl⟩
   rcases List.mem_append.1 hf with hf | hf
   · exact hd.fs f hf
   · rw [List.mem_singleton.1 hf]; exact fldO_j hx
 · rw [if_neg c10] at h; cases h
theorem go_j (rs : List Lr) : ∀ {d : Dv} {s : List Wd}, DvJ d → DvJ (goM d s rs).1 := by
 induction rs with
 | nil =>
  intro d s h
  unfold goM
  split
  · exact dv0_j
  · exact h
 | cons r rs ih =>
  intro d s h
  unfold goM
  cases hs : stepM d s r.2 with
  | error e => exact dv0_j
  | ok d' =>
   obtain ⟨f, a, u, _, _, _, _, hu, rfl⟩ := step_ok hs
   exact ih (upd_j hu h)
theorem read_j (rs : List Lr) : DvJ (readM rs).1 := go_j rs dv0_j
theorem ck_nat (d : Dv) : (((ckE d).toNat : Nat) : Int) = ckE d := by
 have h : 0 ≤ ckE d := by
  rw [ckE_form]
  have k := flds_cases d.sz d.fs []
  split
  · split
    · split
      · split
        · omega
        · decide
      · decide
    · decide
  · decide
 omega
def cN (d : Dv) : Nat := (ckE d).toNat
theorem cN_0 {d : Dv} : cN d = 0 ↔ ckE d = 0 := by
 have k := ck_nat d
 unfold cN
 omega
def shT (d : Dv) : List UInt8 := if ckE d = 0 then textD d else []
def chkM (T : Dv × Int × Nat) : Dv × Int × Nat := if T.2.2 = 0 then (if cN T.1 = 0 then (T.1, 0, 0) else (dv0, T.2.1, cN T.1)) else (dv0, T.2.1, T.2.2)
theorem chk_sound {d : Dv} (h : ckE d = 0) : chkM (d, 0, 0) = (d, 0, 0) := by
 unfold chkM
 rw [if_pos rfl, if_pos (cN_0.2 h)]
theorem go_at0 (rs : List Lr) : ∀ (d : Dv) (s : List Wd), (goM d s rs).2.2 = 0 → (goM d s rs).2.1 = 0 := by
 induction rs with
 | nil => intro d s; unfold goM; split <;> simp
 | cons r rs ih =>
  intro d s
  unfold goM
  cases hs : stepM d s r.2 with
  | error e =>
   intro h
   exfalso
   have h : e = 0 := h
   subst h
   unfold stepM at hs
   split at hs
   · cases hs
   · split at hs
     · cases hs
     · split at hs
       · cases hs
       · split at hs
         · cases hs
         · split at hs
           · cases hs
           · cases hs
  | ok d' => exact ih d' _
theorem go_err0 (rs : List Lr) : ∀ (d : Dv) (s : List Wd), ¬ (goM d s rs).2.2 = 0 → (goM d s rs).1 = dv0 ∧ ((goM d s rs).2.1 = 0 ∨ ∃ r ∈ rs, (goM d s rs).2.1 = r.1) := by
 induction rs with
 | nil => intro d s; unfold goM; split <;> simp
 | cons r rs ih =>
  intro d s
  unfold goM
  cases hs : stepM d s r.2 with
  | error e => exact fun _ => ⟨rfl, .inr ⟨r, by simp, rfl⟩⟩
  | ok d' =>
   intro h
   obtain ⟨h1, h2⟩ := ih d' _ h
   exact ⟨h1, h2.imp id fun ⟨x, hx, e⟩ => ⟨x, by simp [hx], e⟩⟩
end Go.Proofs.YthabffjgdhfbmaaGreatDoor
