/-
  The statement on lancetlaw04.CrcLine, as given: for every input the law returns true, and the arguments read as before. No conditions.
-/
import Derived.Test.YtjbgjiodmhpbbaaRows
import Derived.Test.YtjbgjiodmhpbbaaCrcLineA
import Derived.Test.YtjbgjiodmhpbbaaCrcLineB
import Derived.Test.YtjbgjiodmhpbbaaCrcLineC
import Derived.Test.YtjbgjiodmhpbbaaCrcLineD
import Derived.Test.YtjbgjiodmhpbbaaCrcLineE
import Derived.Test.YtjbgjiodmhpbbaaCrcLineF
import Derived.WalkKit
import Derived.ProofKit
import Derived.OpenShut
import Derived.ShutString
import Derived.ChangeOld
import Derived.Below
import Derived.Carry
namespace Go.Proofs.Ytjbgjiodmhpbbaa.crcLine
open Go.ChangeShapes Go.WideShapes Go.ChangeAt Go.RowKit
open Go.ChangeMaps (open_string shut_string)
set_option linter.unusedVariables false

theorem own : ownKnob Try.prog.godebug = none := by kernel_rfl
theorem laidOut : laidOutB Try.prog = true := by kernel_rfl

theorem sumCp {W : Int} {p f : Nat} {t : Bool} {z : Nat} {bs : List Nat} {L : Nat} (hp : p < 4294967296) (hf : f < 4294967296) (hz : z < 4294967296) (hb : AllBytes bs) (hl : bs.length = L) (h3 : (L : Int) ≤ 300) (hk : kindB W p f z = true) : SumCp (kv W p f t z) bs L (sumV W p f t z bs) := by
  intro x g cap h
  have k := sum_any W p f t z _ bs x hp hf hz hb (by omega) h.at
  rw [sumE_yes hk, hl] at k
  exact k
/-- all three are rows -/
theorem line_rows (w : World) (W : Int) (p f : Nat) (t : Bool) (z : Nat) (hk : KindV (kv W p f t z) W p f t z) (g1 o1 c1 g2 o2 c2 g3 o3 c3 : Nat) (l1 l2 l3 : List Nat)
    (hc1 : l1.length ≤ c1) (hm1 : c1 ≤ maxLen) (hc2 : l2.length ≤ c2) (hm2 : c2 ≤ maxLen) (hc3 : l3.length ≤ c3) (hm3 : c3 ≤ maxLen) (b1 : BytesIn w g1 o1 l1) (d1 : g1 < w.heap.size) (b2 : BytesIn w g2 o2 l2) (d2 : g2 < w.heap.size) (b3 : BytesIn w g3 o3 l3) (d3 : g3 < w.heap.size)
    (y1 : AllBytes l1) (y2 : AllBytes l2) (y3 : AllBytes l3) :
    Calls Try.prog 6 #[kv W p f t z, .slice (some ⟨g1, o1, none⟩) l1.length c1, .slice (some ⟨g2, o2, none⟩) l2.length c2, .slice (some ⟨g3, o3, none⟩) l3.length c3] w fun e w' => e = .returned (.bool true) ∧ Below w.heap.size w w' := by
  unfold maxLen at hm1 hm2 hm3
  have ways : ∃ n : Nat, (n = l1.length ∧ n ≤ l2.length ∧ n ≤ l3.length) ∨ (n = l2.length ∧ n < l1.length ∧ n ≤ l3.length) ∨ (n = l3.length ∧ l2.length < l1.length ∧ n < l2.length ∧ n < l1.length) ∨ (n = l3.length ∧ l1.length ≤ l2.length ∧ n < l1.length ∧ n < l2.length) := by
    by_cases h1 : l1.length ≤ l2.length
    · by_cases h2 : l1.length ≤ l3.length
      · exact ⟨l1.length, .inl ⟨rfl, h1, h2⟩⟩
      · exact ⟨l3.length, .inr (.inr (.inr ⟨rfl, h1, by omega, by omega⟩))⟩
    · by_cases h2 : l2.length ≤ l3.length
      · exact ⟨l2.length, .inr (.inl ⟨rfl, by omega, h2⟩)⟩
      · exact ⟨l3.length, .inr (.inr (.inl ⟨rfl, by omega, by omega, by omega⟩))⟩
  have cO := ofC W p f t z
  have cR := rightC (t := t) hk.W hk.p hk.f hk.z
  obtain ⟨n, hw⟩ := ways
  have n1 : n ≤ l1.length := by omega
  have n2 : n ≤ l2.length := by omega
  have n3 : n ≤ l3.length := by omega
  by_cases hl : (n : Int) ≤ 300
  · cases hR : kindB W p f z
    · rw [hR] at cR
      rcases hw with ⟨rfl, h1, h2⟩ | ⟨rfl, h1, h2⟩ | ⟨rfl, h0, h1, h2⟩ | ⟨rfl, h0, h1, h2⟩
      · exact line_no_RRR1 w W p f t z g1 o1 _ c1 g2 o2 _ c2 g3 o3 _ c3 (by omega) (by omega) hl awC cR
      · exact line_no_RRR2 w W p f t z g1 o1 _ c1 g2 o2 _ c2 g3 o3 _ c3 (by omega) (by omega) hl awC cR
      · exact line_no_RRR3a w W p f t z g1 o1 _ c1 g2 o2 _ c2 g3 o3 _ c3 (by omega) (by omega) (by omega) hl awC cR
      · exact line_no_RRR3b w W p f t z g1 o1 _ c1 g2 o2 _ c2 g3 o3 _ c3 (by omega) (by omega) (by omega) hl awC cR
    · rw [hR] at cR
      have t1 : (l1.take n).length = n := by rw [List.length_take]; omega
      have t2 : (l2.take n).length = n := by rw [List.length_take]; omega
      have t3 : (l3.take n).length = n := by rw [List.length_take]; omega
      have tz := x3_len t1 t2 t3
      have az := x3_bytes (take_all y1 n) (take_all y2 n) (take_all y3 n)
      obtain ⟨q, e1, e2⟩ := line_fact (t := t) hR t1 t2 t3
      have sm : ∀ (g o c : Nat) (l : List Nat), n ≤ l.length → l.length ≤ c → c ≤ 9223372036854775807 → BytesIn w g o l → g < w.heap.size → AllBytes l → SumAt w W p f t z (.slice (some ⟨g, o, none⟩) n c) (sumV W p f t z (l.take n)) 0 := by
        intro g o c l hn hc hm hb hg ha x hx
        have tl : (l.take n).length = n := by rw [List.length_take]; omega
        have hv : BytesAt w (.slice (some ⟨g, o, none⟩) n c) (l.take n) := .inr ⟨g, o, c, by rw [tl], take_in hb n, hg⟩
        have k := sum_any W p f t z _ (l.take n) x hk.p hk.f hk.z (take_all ha n) (by rw [tl]; omega) (hv.below hx)
        rw [sumE_yes hR] at k
        exact k
      have cX := sm g1 o1 c1 l1 n1 hc1 (by omega) b1 d1 y1
      have cY := sm g2 o2 c2 l2 n2 hc2 (by omega) b2 d2 y2
      have cZ := sm g3 o3 c3 l3 n3 hc3 (by omega) b3 d3 y3
      have cB := sumCp (t := t) hk.p hk.f hk.z az tz hl hR
      obtain ⟨zs, hzs⟩ : ∃ zs, zs = x3 (l1.take n) (l2.take n) (l3.take n) := ⟨_, rfl⟩
      rw [← hzs] at tz e2 cB
      have HZ : Hid (zs = x3 (l1.take n) (l2.take n) (l3.take n) ∧ (l1.take n).length = zs.length ∧ (l2.take n).length = zs.length ∧ (l3.take n).length = zs.length ∧ AllBytes (l1.take n) ∧ AllBytes (l2.take n) ∧ AllBytes (l3.take n)) :=
        ⟨hzs, by rw [t1, tz], by rw [t2, tz], by rw [t3, tz], take_all y1 n, take_all y2 n, take_all y3 n⟩
      have B1 : Hid (BytesIn w g1 o1 (l1.take n) ∧ g1 < w.heap.size) := ⟨take_in b1 n, d1⟩
      have B2 : Hid (BytesIn w g2 o2 (l2.take n) ∧ g2 < w.heap.size) := ⟨take_in b2 n, d2⟩
      have B3 : Hid (BytesIn w g3 o3 (l3.take n) ∧ g3 < w.heap.size) := ⟨take_in b3 n, d3⟩
      generalize l1.take n = ss at *
      generalize l2.take n = ts at *
      generalize l3.take n = us at *
      clear t1 t2 t3 sm az hzs
      subst tz
      rcases hw with ⟨h0, h1, h2⟩ | ⟨h0, h1, h2⟩ | ⟨h0, h3, h1, h2⟩ | ⟨h0, h3, h1, h2⟩
      · rw [← h0] at hc1 ⊢
        exact line_RRR1 w W p f t z zs ss ts us g1 o1 c1 g2 o2 _ c2 g3 o3 _ c3 _ _ _ _ q (by omega) (by omega) (by omega) (by omega) (by omega) (by omega) hl (by omega) (by omega) HZ B1 B2 B3 e1 e2 awC cO cR cX cY cZ cB
      · rw [← h0] at hc2 ⊢
        exact line_RRR2 w W p f t z zs ss ts us g1 o1 _ c1 g2 o2 c2 g3 o3 _ c3 _ _ _ _ q (by omega) (by omega) (by omega) (by omega) (by omega) (by omega) hl (by omega) (by omega) HZ B1 B2 B3 e1 e2 awC cO cR cX cY cZ cB
      · rw [← h0] at hc3 ⊢
        exact line_RRR3a w W p f t z zs ss ts us g1 o1 _ c1 g2 o2 _ c2 g3 o3 c3 _ _ _ _ q (by omega) (by omega) (by omega) (by omega) (by omega) (by omega) hl (by omega) (by omega) (by omega) HZ B1 B2 B3 e1 e2 awC cO cR cX cY cZ cB
      · rw [← h0] at hc3 ⊢
        exact line_RRR3b w W p f t z zs ss ts us g1 o1 _ c1 g2 o2 _ c2 g3 o3 c3 _ _ _ _ q (by omega) (by omega) (by omega) (by omega) (by omega) (by omega) hl (by omega) (by omega) (by omega) HZ B1 B2 B3 e1 e2 awC cO cR cX cY cZ cB
  · rcases hw with ⟨rfl, h1, h2⟩ | ⟨rfl, h1, h2⟩ | ⟨rfl, h0, h1, h2⟩ | ⟨rfl, h0, h1, h2⟩
    · exact line_long_RRR1 w W p f t z g1 o1 _ c1 g2 o2 _ c2 g3 o3 _ c3 (by omega) (by omega) (by omega) awC
    · exact line_long_RRR2 w W p f t z g1 o1 _ c1 g2 o2 _ c2 g3 o3 _ c3 (by omega) (by omega) (by omega) awC
    · exact line_long_RRR3a w W p f t z g1 o1 _ c1 g2 o2 _ c2 g3 o3 _ c3 (by omega) (by omega) (by omega) (by omega) awC
    · exact line_long_RRR3b w W p f t z g1 o1 _ c1 g2 o2 _ c2 g3 o3 _ c3 (by omega) (by omega) (by omega) (by omega) awC
theorem sumNone {w : World} {W : Int} {p f : Nat} {t : Bool} {z : Nat} {v : Value} (hk : KindV (kv W p f t z) W p f t z) (hR : kindB W p f z = true) (h : BytesAt w v []) : SumAt w W p f t z v (sumV W p f t z []) 0 := by
  intro x hx
  have k := sum_any W p f t z v [] x hk.p hk.f hk.z (fun c hc => by cases hc) (by simp) (h.below hx)
  rw [sumE_yes hR] at k
  exact k
theorem none_in (w : World) (g o : Nat) : BytesIn w g o [] := fun j hj => by cases hj


set_option maxRecDepth 100000 in
set_option maxHeartbeats 4000000 in
theorem walk (w : World) (W0 : Int) (p0 f0 : Nat) (t0 : Bool) (z0 : Nat) (hk0 : KindV (kv W0 p0 f0 t0 z0) W0 p0 f0 t0 z0) (v1 : Value) (bs1 : List Nat) (hv1 : BytesV w v1 bs1) (hb1 : AllBytes bs1) (v2 : Value) (bs2 : List Nat) (hv2 : BytesV w v2 bs2) (hb2 : AllBytes bs2) (v3 : Value) (bs3 : List Nat) (hv3 : BytesV w v3 bs3) (hb3 : AllBytes bs3) :
    Calls Try.prog 6 #[kv W0 p0 f0 t0 z0, v1, v2, v3] w fun e w' => e = .returned (.bool true) ∧ Below w.heap.size w w' := by
  have cO := ofC W0 p0 f0 t0 z0
  have cR := rightC (t := t0) hk0.W hk0.p hk0.f hk0.z
  rcases hv1 with ⟨rfl, rfl⟩ | ⟨g1, o1, c1, rfl, r1, m1, b1, d1⟩ <;> rcases hv2 with ⟨rfl, rfl⟩ | ⟨g2, o2, c2, rfl, r2, m2, b2, d2⟩ <;> rcases hv3 with ⟨rfl, rfl⟩ | ⟨g3, o3, c3, rfl, r3, m3, b3, d3⟩
  · cases hR : kindB W0 p0 f0 z0
    · rw [hR] at cR
      exact line_no_NNN w W0 p0 f0 t0 z0 awC cR
    · rw [hR] at cR
      obtain ⟨q, e1, e2⟩ := line_fact (t := t0) (n := 0) (ss := []) (ts := []) (us := []) hR rfl rfl rfl
      exact line_NNN w W0 p0 f0 t0 z0 _ _ _ _ q e1 e2 awC cO cR (sumNone hk0 hR (.inl ⟨rfl, rfl⟩)) (sumNone hk0 hR (.inl ⟨rfl, rfl⟩)) (sumNone hk0 hR (.inl ⟨rfl, rfl⟩)) (sumCp (t := t0) hk0.p hk0.f hk0.z (fun c hc => by cases hc) rfl (by omega) hR)
  · cases hR : kindB W0 p0 f0 z0
    · rw [hR] at cR
      exact line_no_NNR w W0 p0 f0 t0 z0 g3 o3 _ c3 awC cR
    · rw [hR] at cR
      obtain ⟨q, e1, e2⟩ := line_fact (t := t0) (n := 0) (ss := []) (ts := []) (us := []) hR rfl rfl rfl
      exact line_NNR w W0 p0 f0 t0 z0 g3 o3 _ c3 _ _ _ _ q (by omega) (by unfold maxLen at *; omega) e1 e2 awC cO cR (sumNone hk0 hR (.inl ⟨rfl, rfl⟩)) (sumNone hk0 hR (.inl ⟨rfl, rfl⟩)) (sumNone hk0 hR (.inr ⟨g3, o3, c3, rfl, none_in w g3 o3, d3⟩)) (sumCp (t := t0) hk0.p hk0.f hk0.z (fun c hc => by cases hc) rfl (by omega) hR)
  · cases hR : kindB W0 p0 f0 z0
    · rw [hR] at cR
      exact line_no_NRN w W0 p0 f0 t0 z0 g2 o2 _ c2 awC cR
    · rw [hR] at cR
      obtain ⟨q, e1, e2⟩ := line_fact (t := t0) (n := 0) (ss := []) (ts := []) (us := []) hR rfl rfl rfl
      exact line_NRN w W0 p0 f0 t0 z0 g2 o2 _ c2 _ _ _ _ q (by omega) (by unfold maxLen at *; omega) e1 e2 awC cO cR (sumNone hk0 hR (.inl ⟨rfl, rfl⟩)) (sumNone hk0 hR (.inr ⟨g2, o2, c2, rfl, none_in w g2 o2, d2⟩)) (sumNone hk0 hR (.inl ⟨rfl, rfl⟩)) (sumCp (t := t0) hk0.p hk0.f hk0.z (fun c hc => by cases hc) rfl (by omega) hR)
  · cases hR : kindB W0 p0 f0 z0
    · rw [hR] at cR
      exact line_no_NRR w W0 p0 f0 t0 z0 g2 o2 _ c2 g3 o3 _ c3 awC cR
    · rw [hR] at cR
      obtain ⟨q, e1, e2⟩ := line_fact (t := t0) (n := 0) (ss := []) (ts := []) (us := []) hR rfl rfl rfl
      exact line_NRR w W0 p0 f0 t0 z0 g2 o2 _ c2 g3 o3 _ c3 _ _ _ _ q (by omega) (by unfold maxLen at *; omega) (by omega) (by unfold maxLen at *; omega) e1 e2 awC cO cR (sumNone hk0 hR (.inl ⟨rfl, rfl⟩)) (sumNone hk0 hR (.inr ⟨g2, o2, c2, rfl, none_in w g2 o2, d2⟩)) (sumNone hk0 hR (.inr ⟨g3, o3, c3, rfl, none_in w g3 o3, d3⟩)) (sumCp (t := t0) hk0.p hk0.f hk0.z (fun c hc => by cases hc) rfl (by omega) hR)
  · cases hR : kindB W0 p0 f0 z0
    · rw [hR] at cR
      exact line_no_RNN w W0 p0 f0 t0 z0 g1 o1 _ c1 awC cR
    · rw [hR] at cR
      obtain ⟨q, e1, e2⟩ := line_fact (t := t0) (n := 0) (ss := []) (ts := []) (us := []) hR rfl rfl rfl
      exact line_RNN w W0 p0 f0 t0 z0 g1 o1 _ c1 _ _ _ _ q (by omega) (by unfold maxLen at *; omega) e1 e2 awC cO cR (sumNone hk0 hR (.inr ⟨g1, o1, c1, rfl, none_in w g1 o1, d1⟩)) (sumNone hk0 hR (.inl ⟨rfl, rfl⟩)) (sumNone hk0 hR (.inl ⟨rfl, rfl⟩)) (sumCp (t := t0) hk0.p hk0.f hk0.z (fun c hc => by cases hc) rfl (by omega) hR)
  · cases hR : kindB W0 p0 f0 z0
    · rw [hR] at cR
      exact line_no_RNR w W0 p0 f0 t0 z0 g1 o1 _ c1 g3 o3 _ c3 awC cR
    · rw [hR] at cR
      obtain ⟨q, e1, e2⟩ := line_fact (t := t0) (n := 0) (ss := []) (ts := []) (us := []) hR rfl rfl rfl
      exact line_RNR w W0 p0 f0 t0 z0 g1 o1 _ c1 g3 o3 _ c3 _ _ _ _ q (by omega) (by unfold maxLen at *; omega) (by omega) (by unfold maxLen at *; omega) e1 e2 awC cO cR (sumNone hk0 hR (.inr ⟨g1, o1, c1, rfl, none_in w g1 o1, d1⟩)) (sumNone hk0 hR (.inl ⟨rfl, rfl⟩)) (sumNone hk0 hR (.inr ⟨g3, o3, c3, rfl, none_in w g3 o3, d3⟩)) (sumCp (t := t0) hk0.p hk0.f hk0.z (fun c hc => by cases hc) rfl (by omega) hR)
  · cases hR : kindB W0 p0 f0 z0
    · rw [hR] at cR
      exact line_no_RRN w W0 p0 f0 t0 z0 g1 o1 _ c1 g2 o2 _ c2 awC cR
    · rw [hR] at cR
      obtain ⟨q, e1, e2⟩ := line_fact (t := t0) (n := 0) (ss := []) (ts := []) (us := []) hR rfl rfl rfl
      exact line_RRN w W0 p0 f0 t0 z0 g1 o1 _ c1 g2 o2 _ c2 _ _ _ _ q (by omega) (by unfold maxLen at *; omega) (by omega) (by unfold maxLen at *; omega) e1 e2 awC cO cR (sumNone hk0 hR (.inr ⟨g1, o1, c1, rfl, none_in w g1 o1, d1⟩)) (sumNone hk0 hR (.inr ⟨g2, o2, c2, rfl, none_in w g2 o2, d2⟩)) (sumNone hk0 hR (.inl ⟨rfl, rfl⟩)) (sumCp (t := t0) hk0.p hk0.f hk0.z (fun c hc => by cases hc) rfl (by omega) hR)
  · exact line_rows w W0 p0 f0 t0 z0 hk0 g1 o1 c1 g2 o2 c2 g3 o3 c3 bs1 bs2 bs3 r1 m1 r2 m2 r3 m3 b1 d1 b2 d2 b3 d3 hb1 hb2 hb3

set_option maxRecDepth 100000 in
theorem lifted (os : Os) (started : os.Started) (H : Type) (enc : TypeId × Value → H) :
    ReturnsInHanded {} Try.checked os 6 .any (Rows.crcLineSpec.pre6 enc Try.prog Try.f6 Rows.crcLineRow.domain false) (Rows.crcLineSpec.post enc Try.prog Try.f6 false true false false) := by
  refine returnsInHanded_of_change (C := Try.checked) own started (by kernel_rfl) Try.func6
    (ChangeSpec.witness6 (enc := enc) (C := Try.checked) false ⟨#[], #[.agg #[.int .i64 0, .int .u32 0, .int .u32 0, .bool false, .int .u32 0], .slice none 0 0, .slice none 0 0, .slice none 0 0], []⟩ 8 (by kernel_rfl) (by kernel_rfl) (by kernel_rfl) (by kernel_rfl)) ?_
  intro W base args ds gs before hval0 hW hcnd _
  have hval : ∀ (j : Nat) t v, Try.f6.params[j]? = some t → args[j]? = some v → Value.okWide Try.prog W .any base t v := hval0
  have hW' := hW
  obtain ⟨p, q, hA0, hV, rfl, hfz, hnd⟩ := hW
  have hA : DataW.TrodAll enc Try.prog W 0 (fun _ => true) true Try.f6.params.toList args.toList ds p := hA0
  rw [Try.params6] at hA hval
  obtain ⟨v0, vs0, dd0, ds0, pp0, qq0, hargs, rfl, rfl, hh0, r0⟩ := trodAll_cons hA
  obtain ⟨v1, vs1, dd1, ds1, pp1, qq1, rfl, rfl, rfl, hh1, r1⟩ := trodAll_cons r0
  obtain ⟨v2, vs2, dd2, ds2, pp2, qq2, rfl, rfl, rfl, hh2, r2⟩ := trodAll_cons r1
  obtain ⟨v3, vs3, dd3, ds3, pp3, qq3, rfl, rfl, rfl, hh3, r3⟩ := trodAll_cons r2
  obtain ⟨rfl, rfl, rfl⟩ := trodAll_nil r3
  obtain rfl : args = #[v0, v1, v2, v3] := by cases args; simp_all
  obtain ⟨rfl, rfl⟩ := trodVars_none hV
  have kk0 := hh0
  have lt0 : ∀ x ∈ pp0, x.block < W.heap.size := by obtain ⟨m, hm⟩ := kk0; exact DataW.trod_lt m _ _ _ hm
  have kk1 := hh1
  have lt1 : ∀ x ∈ pp1, x.block < W.heap.size := by obtain ⟨m, hm⟩ := kk1; exact DataW.trod_lt m _ _ _ hm
  have kk2 := hh2
  have lt2 : ∀ x ∈ pp2, x.block < W.heap.size := by obtain ⟨m, hm⟩ := kk2; exact DataW.trod_lt m _ _ _ hm
  have kk3 := hh3
  have lt3 : ∀ x ∈ pp3, x.block < W.heap.size := by obtain ⟨m, hm⟩ := kk3; exact DataW.trod_lt m _ _ _ hm
  obtain ⟨W0, p0, f0, t0, z0, hk0⟩ := open_kind (hval 0 24 v0 rfl rfl) hh0
  obtain rfl := hk0.v
  obtain ⟨bs1, hv1, hb1⟩ := open_bytes (hval 1 25 v1 rfl rfl) hh1
  obtain ⟨bs2, hv2, hb2⟩ := open_bytes (hval 2 25 v2 rfl rfl) hh2
  obtain ⟨bs3, hv3, hb3⟩ := open_bytes (hval 3 25 v3 rfl rfl) hh3
  clear hA0 hval0
  refine (walk W W0 p0 f0 t0 z0 hk0 v1 bs1 hv1 hb1 v2 bs2 hv2 hb2 v3 bs3 hv3 hb3).mono fun e W' ⟨he, bel⟩ => ?_
  subst he
  exact ⟨_, rfl, _, _, _, [], _, [], hW', trodAll_mk1 (shut_bool Try.underlying4 _), (trodAll_cons_mk (Below.trod laidOut (by kernel_rfl) (of_decide_eq_true (by kernel_rfl)) kk0 bel lt0) (trodAll_cons_mk (Below.trod laidOut (by kernel_rfl) (of_decide_eq_true (by kernel_rfl)) kk1 bel lt1) (trodAll_cons_mk (Below.trod laidOut (by kernel_rfl) (of_decide_eq_true (by kernel_rfl)) kk2 bel lt2) (trodAll_cons_mk (Below.trod laidOut (by kernel_rfl) (of_decide_eq_true (by kernel_rfl)) kk3 bel lt3) trodAll_mk0)))), rfl, bel.frame _, fun h => by cases h⟩

theorem over : Rows.crcLineRow.holds Try.pinned (OpenSpec.ofChange Rows.crcLineSpec) :=
  OpenClaim.holds_of_wide 6 Try.f6 rfl rfl rfl rfl rfl rfl rfl ⟨rfl, rfl, rfl, rfl, rfl⟩ rfl rfl rfl rfl rfl (by kernel_rfl) Try.func6 (by kernel_rfl)
    (of_decide_eq_true (by kernel_rfl)) (by unfold Func.isWrapper; first | (rw [if_pos (by decide +kernel)]; kernel_rfl) | (rw [if_neg (by decide +kernel)]; exact ⟨rfl, rfl⟩))
    (fun os started H enc _ => lifted os started H enc)

/-- THE STATEMENT -/
theorem proved : Rows.CrcLineSaid :=
  over
#print axioms proved
end Go.Proofs.Ytjbgjiodmhpbbaa.crcLine
