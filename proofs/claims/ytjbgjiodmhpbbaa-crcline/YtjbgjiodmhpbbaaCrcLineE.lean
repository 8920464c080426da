/-
  Ways through the law on three texts (layer 4). Conditions: as each says.
-/
import Derived.Test.YtjbgjiodmhpbbaaCrcLineK
namespace Go.Proofs.Ytjbgjiodmhpbbaa
open Go.RowKit
set_option linter.unusedVariables false

set_option maxRecDepth 100000 in
set_option maxHeartbeats 4000000 in
theorem line_RRR3b (w : World) (W : Int) (p f : Nat) (t : Bool) (z : Nat) (zs ss ts us : List Nat) (g1 o1 L1 c1 : Nat) (g2 o2 L2 c2 : Nat) (g3 o3 c3 : Nat) (X Y Z V q : Nat) (hc1 : (L1 : Int) ≤ (c1 : Int)) (hm1 : (c1 : Int) ≤ 9223372036854775807) (hc2 : (L2 : Int) ≤ (c2 : Int)) (hm2 : (c2 : Int) ≤ 9223372036854775807) (hc3 : (zs.length : Int) ≤ (c3 : Int)) (hm3 : (c3 : Int) ≤ 9223372036854775807) (hl : (zs.length : Int) ≤ 300) (n12 : (L1 : Int) ≤ (L2 : Int)) (n1 : (zs.length : Int) < (L1 : Int)) (n2 : (zs.length : Int) < (L2 : Int)) (hz : Hid (zs = x3 ss ts us ∧ ss.length = zs.length ∧ ts.length = zs.length ∧ us.length = zs.length ∧ AllBytes ss ∧ AllBytes ts ∧ AllBytes us)) (b1 : Hid (BytesIn w g1 o1 ss ∧ g1 < w.heap.size)) (b2 : Hid (BytesIn w g2 o2 ts ∧ g2 < w.heap.size)) (b3 : Hid (BytesIn w g3 o3 us ∧ g3 < w.heap.size)) (e1 : Hid (bits .xor .u32 (X : Int) (Y : Int) = (q : Int))) (e2 : Hid (bits .xor .u32 (q : Int) (Z : Int) = (V : Int))) (aw : AwC) (cO : OfC W p f t z) (cR : RightC W p f t z true)
    (cX : SumAt w W p f t z (.slice (some ⟨g1, o1, none⟩) zs.length c1) X 0) (cY : SumAt w W p f t z (.slice (some ⟨g2, o2, none⟩) zs.length c2) Y 0) (cZ : SumAt w W p f t z (.slice (some ⟨g3, o3, none⟩) zs.length c3) Z 0) (cB : SumCp (kv W p f t z) zs zs.length V) :
    Calls Try.prog 6 #[kv W p f t z, .slice (some ⟨g1, o1, none⟩) L1 c1, .slice (some ⟨g2, o2, none⟩) L2 c2, .slice (some ⟨g3, o3, none⟩) zs.length c3] w fun e w' => e = .returned (.bool true) ∧ Below w.heap.size w w' := by
  have Q : Hid (KBx (w.alloc (.cells #[.int .i64 W, .int .u32 (p : Int), .int .u32 (f : Int), .bool t, .int .u32 (z : Int)] 24)) w.heap.size 24 W p f t z) := KBx.new _ _ _ _ _ _ _
  have B : Hid (Below w.heap.size w (w.alloc (.cells #[.int .i64 W, .int .u32 (p : Int), .int .u32 (f : Int), .bool t, .int .u32 (z : Int)] 24))) := (Below.refl _ _).alloc (Nat.le_refl _) _
  have hmk : ∀ w, (Instr.makeSlice 25 (.int .i64 (zs.length : Nat)) (.int .i64 (zs.length : Nat))).run Try.prog w = .ok (.slice (some ⟨w.heap.size, 0, none⟩) zs.length zs.length) (w.alloc (.cells (madeCells #[.int .u8 0] zs.length) 5)) := fun w => run_make_row' (P := Try.prog) 25 5 (.int .u8 0) 1 Try.underlying25 info_u8 rfl .i64 .i64 zs.length (by omega) (by omega) w
  go_enter Try.func6, Try.ntmps6
  go_wp2_with fail
  refine (aw _).mono ?_
  rintro e w1 ⟨rfl, hb⟩
  replace Q : Hid (KBx w1 w.heap.size 24 W p f t z) := Q.out.below hb
  replace B : Hid (Below w.heap.size w w1) := belowT B.out hb
  clear hb
  obtain ⟨k0, k1, k2, k3, k4⟩ := Q.out.cells
  go_wp2_with fail
  refine (cR _).mono ?_
  rintro e w2 ⟨rfl, hb⟩
  replace Q : Hid (KBx w2 w.heap.size 24 W p f t z) := Q.out.below hb
  replace B : Hid (Below w.heap.size w w2) := belowT B.out hb
  clear hb k0 k1 k2 k3 k4
  have st0 : Hid (LineSt w (w2.alloc (.cells (madeCells #[.int .u8 0] zs.length) 5)) W p f t z w2.heap.size zs 0) := line_start (zs := zs) Q.out B.out (by unfold maxLen; omega)
  go_wp2
  clear hmk
  go_loopw [11] (fun i wr => ∃ k : Nat, (k : Int) ≤ (zs.length : Int) ∧ i = .int .i64 (k : Int) ∧ Hid (LineSt w wr W p f t z w2.heap.size zs k)) (fun i _ => zs.length - (intOf i).toNat)
  case atStart => exact ⟨0, by omega, rfl, st0⟩
  case round =>
    obtain ⟨k, hk, rfl, st⟩ := hrel
    clear st0 Q B
    by_cases hlt : k < zs.length
    · have hki : (k : Int) < (zs.length : Int) := by omega
      obtain ⟨ez, l1, l2, l3, y1, y2, y3⟩ := hz.out
      have s1 : k < ss.length := by omega
      have s2 : k < ts.length := by omega
      have s3 : k < us.length := by omega
      have q1 := b1.out.1.at b1.out.2 st.out.b k s1
      have q2 := b2.out.1.at b2.out.2 st.out.b k s2
      have q3 := b3.out.1.at b3.out.2 st.out.b k s3
      have h1 : ss[k] < 256 := y1 _ (List.getElem_mem _)
      have h2 : ts[k] < 256 := y2 _ (List.getElem_mem _)
      have h3 : us[k] < 256 := y3 _ (List.getElem_mem _)
      have hv : zs[k] = ss[k] ^^^ ts[k] ^^^ us[k] := by subst ez; exact x3_get s1 s2 s3 hlt
      have fl : k < (fillL zs k).length := by rw [fill_len (by omega)]; exact hlt
      obtain ⟨q4, q5⟩ := st.out.row.cell k fl
      have S2 : Hid (LineSt w (wr.setCell ⟨w2.heap.size, k, none⟩ (.int .u8 ((zs[k] : Nat) : Int))) W p f t z w2.heap.size zs (k + 1)) := st.out.set hlt
      rw [hv] at S2
      replace S2 : Hid (LineSt w (wr.setCell ⟨w2.heap.size, k, none⟩ (.int .u8 ((ss[k] ^^^ ts[k] ^^^ us[k] : Nat) : Int))) W p f t z w2.heap.size zs (k + 1)) := S2
      clear hv ez st y1 y2 y3 l1 l2 l3
      generalize (fillL zs k)[k] = d0 at *
      clear fl
      generalize ss[k] = d1 at *
      generalize ts[k] = d2 at *
      generalize us[k] = d3 at *
      obtain ⟨d4, hd4⟩ : ∃ d4 : Nat, d4 = d1 ^^^ d2 := ⟨_, rfl⟩
      have x1 : bits .xor .u8 (d1 : Int) (d2 : Int) = (d4 : Int) := by rw [u8_xor_nat _ _ h1 h2, hd4]
      have h4 : d4 < 256 := by rw [hd4]; exact Nat.xor_lt_two_pow (n := 8) h1 h2
      rw [← hd4] at S2
      replace S2 : Hid (LineSt w (wr.setCell ⟨w2.heap.size, k, none⟩ (.int .u8 ((d4 ^^^ d3 : Nat) : Int))) W p f t z w2.heap.size zs (k + 1)) := S2
      clear hd4
      obtain ⟨d5, hd5⟩ : ∃ d5 : Nat, d5 = d4 ^^^ d3 := ⟨_, rfl⟩
      have x2 : bits .xor .u8 (d4 : Int) (d3 : Int) = (d5 : Int) := by rw [u8_xor_nat _ _ h4 h3, hd5]
      rw [← hd5] at S2
      replace S2 : Hid (LineSt w (wr.setCell ⟨w2.heap.size, k, none⟩ (.int .u8 (d5 : Int))) W p f t z w2.heap.size zs (k + 1)) := S2
      have i1 : (k : Int) < (L1 : Int) := by omega
      have i2 : (k : Int) < (L2 : Int) := by omega
      clear hd5 s1 s2 s3 h1 h2 h3 h4
      go_wp2_with fail
      go_region
      all_goals
        go_wp2
        exact ⟨⟨k + 1, by omega, by simp, S2.out.drew⟩, by simp [intOf]; omega⟩
    · obtain rfl : k = zs.length := by omega
      obtain ⟨k0, k1, k2, k3, k4⟩ := st.out.k.cells
      go_wp2_with fail
      have a0 := cell_regrown k0
      have a1 := cell_regrown k1
      have a2 := cell_regrown k2
      have a3 := cell_regrown k3
      have a4 := cell_regrown k4
      have cO2 : Hid (∀ d os, Calls Try.prog 10 #[kv W p f t z] (Sort.grow (redrawn wr d) os) fun e w' => e = .returned (kv W p f t z) ∧ Below (Sort.grow (redrawn wr d) os).heap.size (Sort.grow (redrawn wr d) os) w') := fun d os => cO _
      have c2 : Hid (∀ d os, Calls Try.prog 9 #[kv W p f t z, .slice (some ⟨g1, o1, none⟩) zs.length c1] (Sort.grow (redrawn wr d) os) fun e w' => e = .returned (.tuple #[.int .u32 (X : Int), .int .i64 0]) ∧ Below (Sort.grow (redrawn wr d) os).heap.size (Sort.grow (redrawn wr d) os) w') := fun d os => cX _ (belowT st.out.b (below_regrown wr d os))
      refine wp_region_quiet_below (by kernel_rfl) (by kernel_rfl) ?_
      repeat (go_big_quiet_step (first
        | (go_at_call 10; with_reducible exact Calls.regrown_of (cO2.out _ _))
        | (go_at_call 9; with_reducible exact Calls.regrown_of (c2.out _ _))))
      refine wpQuiet_nil ?_
      intro _ hw'
      obtain ⟨⟨dq, osq⟩, hw''⟩ := hw'
      subst hw''
      replace st : Hid (LineSt w (Sort.grow (redrawn wr dq) osq) W p f t z w2.heap.size zs zs.length) := st.out.below (below_regrown wr dq osq)
      clear a0 a1 a2 a3 a4 cO2 c2 k0 k1 k2 k3 k4
      generalize Sort.grow (redrawn wr dq) osq = wx at *
      obtain ⟨k0, k1, k2, k3, k4⟩ := st.out.k.cells
      go_wp2_with fail
      have a0 := cell_regrown k0
      have a1 := cell_regrown k1
      have a2 := cell_regrown k2
      have a3 := cell_regrown k3
      have a4 := cell_regrown k4
      have cO2 : Hid (∀ d os, Calls Try.prog 10 #[kv W p f t z] (Sort.grow (redrawn wx d) os) fun e w' => e = .returned (kv W p f t z) ∧ Below (Sort.grow (redrawn wx d) os).heap.size (Sort.grow (redrawn wx d) os) w') := fun d os => cO _
      have c2 : Hid (∀ d os, Calls Try.prog 9 #[kv W p f t z, .slice (some ⟨g2, o2, none⟩) zs.length c2] (Sort.grow (redrawn wx d) os) fun e w' => e = .returned (.tuple #[.int .u32 (Y : Int), .int .i64 0]) ∧ Below (Sort.grow (redrawn wx d) os).heap.size (Sort.grow (redrawn wx d) os) w') := fun d os => cY _ (belowT st.out.b (below_regrown wx d os))
      refine wp_region_quiet_below (by kernel_rfl) (by kernel_rfl) ?_
      repeat (go_big_quiet_step (first
        | (go_at_call 10; with_reducible exact Calls.regrown_of (cO2.out _ _))
        | (go_at_call 9; with_reducible exact Calls.regrown_of (c2.out _ _))))
      refine wpQuiet_nil ?_
      intro _ hw'
      obtain ⟨⟨dq, osq⟩, hw''⟩ := hw'
      subst hw''
      replace st : Hid (LineSt w (Sort.grow (redrawn wx dq) osq) W p f t z w2.heap.size zs zs.length) := st.out.below (below_regrown wx dq osq)
      clear a0 a1 a2 a3 a4 cO2 c2 k0 k1 k2 k3 k4
      generalize Sort.grow (redrawn wx dq) osq = wy at *
      obtain ⟨k0, k1, k2, k3, k4⟩ := st.out.k.cells
      go_wp2_with fail
      have a0 := cell_regrown k0
      have a1 := cell_regrown k1
      have a2 := cell_regrown k2
      have a3 := cell_regrown k3
      have a4 := cell_regrown k4
      have cO2 : Hid (∀ d os, Calls Try.prog 10 #[kv W p f t z] (Sort.grow (redrawn wy d) os) fun e w' => e = .returned (kv W p f t z) ∧ Below (Sort.grow (redrawn wy d) os).heap.size (Sort.grow (redrawn wy d) os) w') := fun d os => cO _
      have c2 : Hid (∀ d os, Calls Try.prog 9 #[kv W p f t z, .slice (some ⟨g3, o3, none⟩) zs.length c3] (Sort.grow (redrawn wy d) os) fun e w' => e = .returned (.tuple #[.int .u32 (Z : Int), .int .i64 0]) ∧ Below (Sort.grow (redrawn wy d) os).heap.size (Sort.grow (redrawn wy d) os) w') := fun d os => cZ _ (belowT st.out.b (below_regrown wy d os))
      refine wp_region_quiet_below (by kernel_rfl) (by kernel_rfl) ?_
      repeat (go_big_quiet_step (first
        | (go_at_call 10; with_reducible exact Calls.regrown_of (cO2.out _ _))
        | (go_at_call 9; with_reducible exact Calls.regrown_of (c2.out _ _))))
      refine wpQuiet_nil ?_
      intro _ hw'
      obtain ⟨⟨dq, osq⟩, hw''⟩ := hw'
      subst hw''
      replace st : Hid (LineSt w (Sort.grow (redrawn wy dq) osq) W p f t z w2.heap.size zs zs.length) := st.out.below (below_regrown wy dq osq)
      clear a0 a1 a2 a3 a4 cO2 c2 k0 k1 k2 k3 k4
      generalize Sort.grow (redrawn wy dq) osq = wz at *
      obtain ⟨k0, k1, k2, k3, k4⟩ := st.out.k.cells
      go_wp2_with fail
      refine (cO _).mono ?_
      rintro e w6 ⟨rfl, hb⟩
      replace st : Hid (LineSt w w6 W p f t z w2.heap.size zs zs.length) := st.out.below hb
      clear hb k0 k1 k2 k3 k4
      have rw6 : Hid (RowU w6 w2.heap.size zs.length zs) := by have h := st.out.row; rw [fill_all] at h; exact h
      go_wp2_with fail
      refine (cB _ _ _ rw6.out).mono ?_
      rintro e w7 ⟨rfl, hb⟩
      have B7 : Hid (Below w.heap.size w w7) := belowT st.out.b hb
      clear hb st rw6
      have e1' := e1.out
      have e2' := e2.out
      go_wp2
      go_ret
      exact ⟨rfl, B7.out⟩
end Go.Proofs.Ytjbgjiodmhpbbaa
