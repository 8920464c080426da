/-
  Texts that belong together, one behind the other: SnB, SnC, ShField. Conditions: as each says.
-/
import Derived.ChangeOld
import Derived.Deep.AppendLies
import Derived.Deep.CutRange
import Derived.Deep.RegionHeld3
import Derived.Deep.SlicePairs
import Derived.Deep.Strs
import Derived.Laws.BitsAllLaws
import Derived.Laws.OwnMore
import Derived.Laws.Shifts
import Derived.Lib.QuietBelowIn
import Derived.OpenShut
import Derived.ProofKit
import Derived.RangeFuncCalls
import Derived.ShutString
import Derived.Sort.BigQuietIn
import Derived.Test.YthabffjgdhfbmaaGreatDoorProg
import Derived.Test.YthabffjgdhfbmaaGreatDoorJr1
import Derived.Test.YthabffjgdhfbmaaGreatDoorJr2
import Derived.Test.YthabffjgdhfbmaaGreatDoorJr3
import Derived.Test.YthabffjgdhfbmaaGreatDoorJr4
import Derived.Test.YthabffjgdhfbmaaGreatDoorJr5
import Derived.Test.YthabffjgdhfbmaaGreatDoorJr6
import Derived.Test.YthabffjgdhfbmaaGreatDoorJr7
import Derived.Test.YthabffjgdhfbmaaGreatDoorJr8
import Derived.Test.YthabffjgdhfbmaaGreatDoorJr9
import Derived.Test.YthabffjgdhfbmaaGreatDoorJr10
import Derived.Test.YthabffjgdhfbmaaGreatDoorJr11
import Derived.Test.YthabffjgdhfbmaaGreatDoorJr12
import Derived.Test.YthabffjgdhfbmaaGreatDoorJr13
import Derived.Test.YthabffjgdhfbmaaGreatDoorJr14
import Derived.Test.YthabffjgdhfbmaaGreatDoorJr15
set_option maxRecDepth 100000
set_option maxHeartbeats 32000000
set_option linter.unusedVariables false
namespace Go.Proofs.YthabffjgdhfbmaaGreatDoor
open Go.RowKit
theorem FldsIn.cells {x : World} {g o : Nat} {fs : List Fd} (h : FldsIn x g o fs) {j : Nat} (hj : j < fs.length) {f : Fd} (hf : fs[j] = f) :
 x.cell? ⟨g, o + j * 9, none⟩ = some (.string (txt f.nm)) ∧ x.cell? ⟨g, o + j * 9 + 1, none⟩ = some (.int .i64 f.pl) ∧ x.cell? ⟨g, o + j * 9 + 2, none⟩ = some (.string (txt f.kd)) ∧ x.cell? ⟨g, o + j * 9 + 3, none⟩ = some (.int .i64 f.wd)
 ∧ x.cell? ⟨g, o + j * 9 + 4, none⟩ = some (.int .i64 f.sn) ∧ x.cell? ⟨g, o + j * 9 + 5, none⟩ = some (.int .i64 f.sd) ∧ x.cell? ⟨g, o + j * 9 + 6, none⟩ = some (.int .i64 f.on) ∧ x.cell? ⟨g, o + j * 9 + 7, none⟩ = some (.int .i64 f.od) ∧ x.cell? ⟨g, o + j * 9 + 8, none⟩ = some (.string (txt f.un)) := by
 subst hf
 have k := h j hj
 rw [Nat.mul_comm 9 j] at k
 exact ⟨k 0 _ rfl, k 1 _ rfl, k 2 _ rfl, k 3 _ rfl, k 4 _ rfl, k 5 _ rfl, k 6 _ rfl, k 7 _ rfl, k 8 _ rfl⟩
theorem FldsIn.take {x : World} {g o : Nat} {fs : List Fd} (h : FldsIn x g o fs) (k : Nat) : FldsIn x g o (fs.take k) := by
 intro j hj i u hu
 rw [List.length_take] at hj
 refine h j (by omega) i u ?_
 rwa [List.getElem_take] at hu
theorem txtw_eqL (a b : Wd) : ((txt a).toList == (txt b).toList) = decide (a = b) := by
 have e : ∀ z, (txt z).toList = z := fun z => by rw [ByteArray.toList_eq]; rfl
 rw [e, e]
 by_cases h : a = b
 · rw [h, decide_eq_true rfl]; exact beq_self_eq_true _
 · rw [decide_eq_false h]; exact beq_eq_false_iff_ne.2 h
theorem named1_any (nm : Wd) (f : Fd) (p : Nat) (w : World) (hp : w.cell? ⟨p, 0, none⟩ = some (.string (txt nm))) :
 Calls Tryz.prog 119 #[fdV f, .pointer (some ⟨p, 0, none⟩)] w fun e w' => e = .returned (.bool (decide (f.nm = nm))) ∧ Below w.heap.size w w' := by
 obtain ⟨fm, pl, kd, wd, sn, sd, on, od, un⟩ := f
 have q2 := txtw_eqL fm nm
 have B : Hid (∀ o, Below w.heap.size w (w.alloc o)) := fun o => (Below.refl _ _).alloc (Nat.le_refl _) o
 have hpa : ∀ o, (w.alloc o).cell? ⟨p, 0, none⟩ = some (.string (txt nm)) := fun o => (((Below.refl _ _).alloc (Nat.le_refl _) o).cell (p := ⟨p, 0, none⟩) (block_lt_of_cell hp)).trans hp
 have hpb := hpa (.cells #[.string (txt fm), .int .i64 pl, .string (txt kd), .int .i64 wd, .int .i64 sn, .int .i64 sd, .int .i64 on, .int .i64 od, .string (txt un)] 70)
 clear hpa hp
 unfold fdV
 simp only
 generalize decide (fm = nm) = T at *
 generalize txt fm = S1 at *
 generalize txt nm = S2 at *
 go_enter Tryz.func119, Tryz.ntmps119
 go_wp2
 go_ret
 exact ⟨rfl, B.out _⟩
def HasW (nm : Wd) (l : List Fd) (T : Bool) : Prop := decide (nm ∈ l.map (·.nm)) = T
theorem HasW.fin {nm : Wd} {T : Bool} (h : HasW nm [] T) : false = T := h
theorem HasW.yes {nm : Wd} {f : Fd} {l : List Fd} {T : Bool} (h : HasW nm (f :: l) T) (e : decide (f.nm = nm) = true) : true = T := by
 unfold HasW at h
 rw [← h, decide_eq_true (by rw [List.map_cons, List.mem_cons]; exact .inl (of_decide_eq_true e).symm)]
theorem HasW.no {nm : Wd} {f : Fd} {l : List Fd} {T : Bool} (h : HasW nm (f :: l) T) (e : decide (f.nm = nm) = false) : HasW nm l T := by
 unfold HasW at *
 rw [← h, decide_eq_decide, List.map_cons, List.mem_cons]
 have := of_decide_eq_false e
 exact ⟨.inr, fun k => k.elim (fun k => absurd k.symm this) id⟩
theorem idxf_any (nm : Wd) (p : Nat) (v : Value) (fs : List Fd) (w : World) (hp : w.cell? ⟨p, 0, none⟩ = some (.string (txt nm))) (hv : FldsV w v fs) (hl : (fs.length : Int) ≤ 100) :
 Calls Tryz.prog 139 #[v, .func (.func 119) #[] #[.pointer (some ⟨p, 0, none⟩)]] w fun e w' => (∃ r : Int, e = .returned (.int .i64 r) ∧ (-1 ≤ r ∧ r ≤ 100) ∧ decide (0 ≤ r) = decide (nm ∈ fs.map (·.nm))) ∧ Below w.heap.size w w' := by
 obtain ⟨pv, cap, rfl⟩ := hv.form
 obtain ⟨T, hT⟩ : ∃ T, decide (nm ∈ fs.map (·.nm)) = T := ⟨_, rfl⟩
 rw [hT]
 have I0 : Hid (HasW nm (fs.drop 0) T) := hT
 clear hT
 obtain ⟨len, hlen⟩ : ∃ len, fs.length = len := ⟨_, rfl⟩
 rw [hlen] at hl hv ⊢
 replace hlen : Hid (fs.length = len) := hlen
 replace hv : Hid (FldsV w (.slice pv len cap) fs) := hv
 replace hp : Hid (w.cell? ⟨p, 0, none⟩ = some (.string (txt nm))) := hp
 have B0 : Hid (Below w.heap.size w w) := Below.refl _ _
 go_enter Tryz.func139, Tryz.ntmps139
 go_wp2
 go_loopw [8] (fun vi wr => ∃ k : Nat, (k : Int) ≤ (len : Int) ∧ vi = .int .i64 (k : Int) ∧ Hid (HasW nm (fs.drop k) T) ∧ Hid (Below w.heap.size w wr)) (fun vi _ => len - (intOf vi).toNat)
 case atStart => exact ⟨0, by omega, rfl, I0, B0⟩
 case round =>
  obtain ⟨k, hk, rfl, lf, B⟩ := hrel
  clear I0 B0
  by_cases hlt : (k : Int) < (len : Int)
  · have hkl : k < fs.length := by have := hlen.out; omega
    have hvr := hv.out.below B.out
    have hpr := (B.out.cell (p := ⟨p, 0, none⟩) (block_lt_of_cell hp.out)).trans hp.out
    have lq := lf.out
    rw [List.drop_eq_getElem_cons hkl] at lq
    rcases hvr with ⟨_, _, _, e⟩ | ⟨g, o, cap', e, _, hin, _⟩
    · rw [e] at hkl; cases hkl
    · injection e with e1 e2 e3
      subst e1
      obtain ⟨f, hf⟩ : ∃ f, fs[k] = f := ⟨_, rfl⟩
      obtain ⟨c0, c1, c2, c3, c4, c5, c6, c7, c8⟩ := hin.cells hkl hf
      rw [hf] at lq
      have nc : Hid (Calls Tryz.prog 119 #[fdV f, .pointer (some ⟨p, 0, none⟩)] wr fun e w' => e = .returned (.bool (decide (f.nm = nm))) ∧ Below wr.heap.size wr w') := named1_any nm f p wr hpr
      obtain ⟨fm, pl, kd, wd, sn, sd, on, od, un⟩ := f
      simp only at c0 c1 c2 c3 c4 c5 c6 c7 c8 nc
      replace lq : Hid (HasW nm (⟨fm, pl, kd, wd, sn, sd, on, od, un⟩ :: fs.drop (k + 1)) T) := lq
      clear lf hin hf hpr e2 e3 hv hp
      go_wp2_with fail
      refine nc.out.mono ?_
      clear nc c0 c1 c2 c3 c4 c5 c6 c7 c8
      rintro e w1 ⟨rfl, hb⟩
      have B1 : Hid (Below w.heap.size w w1) := B.out.trans (hb.mono B.out.size)
      clear hb B
      cases hd : decide (fm = nm)
      · have nx : Hid (HasW nm (fs.drop (k + 1)) T) := lq.out.no hd
        clear lq hd
        go_wp2
        exact ⟨⟨k + 1, by omega, by simp, nx, B1⟩, by simp [intOf]; omega⟩
      · have fin : Hid (true = T) := lq.out.yes hd
        clear lq hd
        go_wp2
        go_ret
        exact ⟨⟨_, rfl, ⟨by omega, by omega⟩, by rw [← fin.out]; exact decide_eq_true (by omega)⟩, B1.out⟩
  · obtain rfl : k = len := by omega
    have fin : Hid (false = T) := by
     have lq := lf.out
     rw [List.drop_of_length_le (by have := hlen.out; omega)] at lq
     exact lq.fin
    clear lf hv hp
    go_wp2
    go_ret
    exact ⟨⟨_, rfl, ⟨by omega, by omega⟩, by rw [← fin.out]; rfl⟩, B.out⟩
theorem contf_any (nm : Wd) (p : Nat) (v : Value) (fs : List Fd) (w : World) (hp : w.cell? ⟨p, 0, none⟩ = some (.string (txt nm))) (hv : FldsV w v fs) (hl : (fs.length : Int) ≤ 100) :
 Calls Tryz.prog 118 #[v, .func (.func 119) #[] #[.pointer (some ⟨p, 0, none⟩)]] w fun e w' => e = .returned (.bool (decide (nm ∈ fs.map (·.nm)))) ∧ Below w.heap.size w w' := by
 have ix : Hid (Calls Tryz.prog 139 #[v, .func (.func 119) #[] #[.pointer (some ⟨p, 0, none⟩)]] w fun e w' => (∃ r : Int, e = .returned (.int .i64 r) ∧ (-1 ≤ r ∧ r ≤ 100) ∧ decide (0 ≤ r) = decide (nm ∈ fs.map (·.nm))) ∧ Below w.heap.size w w') := idxf_any nm p v fs w hp hv hl
 obtain ⟨pv, cap, rfl⟩ := hv.form
 clear hp hv hl
 generalize decide (nm ∈ fs.map (·.nm)) = T at *
 go_enter Tryz.func118, Tryz.ntmps118
 go_wp2_with fail
 refine ix.out.mono ?_
 rintro e w1 ⟨⟨r, rfl, hr, hd⟩, hb⟩
 replace hb : Hid (Below w.heap.size w w1) := hb
 clear ix
 subst hd
 go_wp2
 go_ret
 exact ⟨rfl, hb.out⟩
theorem named_any (nm : Wd) (v : Value) (fs : List Fd) (w : World) (hv : FldsV w v fs) (hl : (fs.length : Int) ≤ 100) :
 Calls Tryz.prog 85 #[v, .string (txt nm)] w fun e w' => e = .returned (.bool (decide (nm ∈ fs.map (·.nm)))) ∧ Below w.heap.size w w' := by
 have hb0 : Below w.heap.size w (w.alloc (.cells #[.string (txt nm)] 9)) := (Below.refl _ _).alloc (Nat.le_refl _) _
 have cf := contf_any nm w.heap.size v fs (w.alloc (.cells #[.string (txt nm)] 9)) (by simp) (hv.below hb0) hl
 replace cf : Hid (Calls Tryz.prog 118 #[v, .func (.func 119) #[] #[.pointer (some ⟨w.heap.size, 0, none⟩)]] (w.alloc (.cells #[.string (txt nm)] 9)) fun e w' => e = .returned (.bool (decide (nm ∈ fs.map (·.nm)))) ∧ Below (w.alloc (.cells #[.string (txt nm)] 9)).heap.size (w.alloc (.cells #[.string (txt nm)] 9)) w') := cf
 have hmf : ∀ (fn : Fn) (first cap : Array Value) (w : World), (Instr.makeFunc fn first cap).run Tryz.prog w = .ok (.func fn first cap) w := fun _ _ _ _ => rfl
 replace hb0 : Hid (Below w.heap.size w (w.alloc (.cells #[.string (txt nm)] 9))) := hb0
 obtain ⟨pv, cap, rfl⟩ := hv.form
 clear hv hl
 generalize decide (nm ∈ fs.map (·.nm)) = T at *
 generalize txt nm = S at *
 go_enter Tryz.func85, Tryz.ntmps85
 go_wp2_with fail
 refine cf.out.mono ?_
 rintro e w1 ⟨rfl, hb⟩
 have B1 : Hid (Below w.heap.size w w1) := hb0.out.trans (hb.mono hb0.out.size)
 clear cf hb hb0
 go_wp2
 go_ret
 exact ⟨rfl, B1.out⟩
def dvL (d : Dv) (fv qv : Value) : List Value := [.string (txt d.nm), .int .i64 d.st, .int .i64 d.es, .int .i64 d.mx, .int .i64 d.sz, .string (txt d.sm), fv, qv, .int .i64 d.po, .int .i64 d.ti, .int .i64 d.re, .int .i64 d.ag]
structure DevB (x : World) (b : Nat) (d : Dv) (fv qv : Value) : Prop where
 c : ∀ k v, (dvL d fv qv)[k]? = some v → x.cell? ⟨b, k, none⟩ = some v
 fl : FldsV x fv d.fs
 lt : b < x.heap.size
theorem DevB.below {x y : World} {b : Nat} {d : Dv} {fv qv : Value} (h : DevB x b d fv qv) (k : Below x.heap.size x y) : DevB y b d fv qv :=
 ⟨fun i v hv => (k.cell (p := ⟨b, i, none⟩) h.lt).trans (h.c i v hv), h.fl.below k, Nat.lt_of_lt_of_le h.lt k.size⟩
theorem DevB.cells {x : World} {b : Nat} {d : Dv} {fv qv : Value} (h : DevB x b d fv qv) :
 x.cell? ⟨b, 0, none⟩ = some (.string (txt d.nm)) ∧ x.cell? ⟨b, 1, none⟩ = some (.int .i64 d.st) ∧ x.cell? ⟨b, 2, none⟩ = some (.int .i64 d.es) ∧ x.cell? ⟨b, 3, none⟩ = some (.int .i64 d.mx) ∧ x.cell? ⟨b, 4, none⟩ = some (.int .i64 d.sz) ∧ x.cell? ⟨b, 5, none⟩ = some (.string (txt d.sm))
 ∧ x.cell? ⟨b, 6, none⟩ = some fv ∧ x.cell? ⟨b, 7, none⟩ = some qv ∧ x.cell? ⟨b, 8, none⟩ = some (.int .i64 d.po) ∧ x.cell? ⟨b, 9, none⟩ = some (.int .i64 d.ti) ∧ x.cell? ⟨b, 10, none⟩ = some (.int .i64 d.re) ∧ x.cell? ⟨b, 11, none⟩ = some (.int .i64 d.ag) :=
 ⟨h.c 0 _ rfl, h.c 1 _ rfl, h.c 2 _ rfl, h.c 3 _ rfl, h.c 4 _ rfl, h.c 5 _ rfl, h.c 6 _ rfl, h.c 7 _ rfl, h.c 8 _ rfl, h.c 9 _ rfl, h.c 10 _ rfl, h.c 11 _ rfl⟩
theorem cells_new (w : World) (l : List Value) (T : TypeId) : ∀ k v, l[k]? = some v → (w.alloc (.cells l.toArray T)).cell? ⟨w.heap.size, k, none⟩ = some v := by
 intro k v hv
 have hb : (w.alloc (.cells l.toArray T)).heap[w.heap.size]? = some (.cells l.toArray T) := World.alloc_heap_new w _
 simp only [World.cell?, hb, List.getElem?_toArray, hv]
 rfl
theorem DevB.new {w : World} {d : Dv} {fv qv : Value} (h : FldsV w fv d.fs) (T : TypeId) : DevB (w.alloc (.cells #[.string (txt d.nm), .int .i64 d.st, .int .i64 d.es, .int .i64 d.mx, .int .i64 d.sz, .string (txt d.sm), fv, qv, .int .i64 d.po, .int .i64 d.ti, .int .i64 d.re, .int .i64 d.ag] T)) w.heap.size d fv qv :=
 ⟨cells_new w (dvL d fv qv) T, h.below ((Below.refl _ _).alloc (Nat.le_refl _) _), by rw [World.size_alloc]; omega⟩
structure FdB (x : World) (b : Nat) (f : Fd) : Prop where
 c : ∀ k v, (fdC f)[k]? = some v → x.cell? ⟨b, k, none⟩ = some v
 lt : b < x.heap.size
theorem FdB.below {x y : World} {b : Nat} {f : Fd} (h : FdB x b f) (k : Below x.heap.size x y) : FdB y b f :=
 ⟨fun i v hv => (k.cell (p := ⟨b, i, none⟩) h.lt).trans (h.c i v hv), Nat.lt_of_lt_of_le h.lt k.size⟩
theorem FdB.cells {x : World} {b : Nat} {f : Fd} (h : FdB x b f) :
 x.cell? ⟨b, 0, none⟩ = some (.string (txt f.nm)) ∧ x.cell? ⟨b, 1, none⟩ = some (.int .i64 f.pl) ∧ x.cell? ⟨b, 2, none⟩ = some (.string (txt f.kd)) ∧ x.cell? ⟨b, 3, none⟩ = some (.int .i64 f.wd)
 ∧ x.cell? ⟨b, 4, none⟩ = some (.int .i64 f.sn) ∧ x.cell? ⟨b, 5, none⟩ = some (.int .i64 f.sd) ∧ x.cell? ⟨b, 6, none⟩ = some (.int .i64 f.on) ∧ x.cell? ⟨b, 7, none⟩ = some (.int .i64 f.od) ∧ x.cell? ⟨b, 8, none⟩ = some (.string (txt f.un)) :=
 ⟨h.c 0 _ rfl, h.c 1 _ rfl, h.c 2 _ rfl, h.c 3 _ rfl, h.c 4 _ rfl, h.c 5 _ rfl, h.c 6 _ rfl, h.c 7 _ rfl, h.c 8 _ rfl⟩
theorem FdB.new (w : World) (f : Fd) (T : TypeId) : FdB (w.alloc (.cells #[.string (txt f.nm), .int .i64 f.pl, .string (txt f.kd), .int .i64 f.wd, .int .i64 f.sn, .int .i64 f.sd, .int .i64 f.on, .int .i64 f.od, .string (txt f.un)] T)) w.heap.size f :=
 ⟨cells_new w (fdC f) T, by rw [World.size_alloc]; omega⟩
structure MuAt (x : World) (p q : Nat) (F : Value) (n : Int) : Prop where
 f : x.cell? ⟨p, 0, none⟩ = some F
 n : x.cell? ⟨q, 0, none⟩ = some (.int .i64 n)
theorem MuAt.below {x y : World} {p q : Nat} {F : Value} {n : Int} (h : MuAt x p q F n) (k : Below x.heap.size x y) : MuAt y p q F n :=
 ⟨(k.cell (p := ⟨p, 0, none⟩) (block_lt_of_cell h.f)).trans h.f, (k.cell (p := ⟨q, 0, none⟩) (block_lt_of_cell h.n)).trans h.n⟩
theorem must_any (n : Int) (N : FuncId) (caps : Array Value) (w : World) : Calls Tryz.prog 44 #[.int .i64 n, .func (.func N) #[] caps] w fun e w' => ∃ p q, e = .returned (.func (.func 78) #[] #[.pointer (some ⟨p, 0, none⟩), .pointer (some ⟨q, 0, none⟩)]) ∧ MuAt w' p q (.func (.func N) #[] caps) n ∧ Below w.heap.size w w' := by
 have hmf : ∀ (fn : Fn) (first cap : Array Value) (w : World), (Instr.makeFunc fn first cap).run Tryz.prog w = .ok (.func fn first cap) w := fun _ _ _ _ => rfl
 go_enter Tryz.func44, Tryz.ntmps44
 go_wp2
 go_ret
 refine ⟨_, _, rfl, ⟨?_, ?_⟩, ?_⟩
 · simp
 · simp
 · go_grown
abbrev QA (x : World) (n : Int) : Ending → World → Prop := fun e y => e = .returned (.int .i64 n) ∧ Below x.heap.size x y
abbrev BA (x : World) (b : Bool) : Ending → World → Prop := fun e y => e = .returned (.bool b) ∧ Below x.heap.size x y
theorem must1_0 (c0 p q : Nat) (n : Int) (B : Bool) (x : World) (h : MuAt x p q (.func (.func 45) #[] #[.pointer (some ⟨c0, 0, none⟩)]) n) (hc : Calls Tryz.prog 45 #[.pointer (some ⟨c0, 0, none⟩)] x (BA x B)) : Calls Tryz.prog 78 #[.pointer (some ⟨p, 0, none⟩), .pointer (some ⟨q, 0, none⟩)] x (QA x (orE B n)) := by
 have m := h.f
 have m2 : Hid (x.cell? ⟨q, 0, none⟩ = some (.int .i64 n)) := h.n
 replace hc : Hid (Calls Tryz.prog 45 #[.pointer (some ⟨c0, 0, none⟩)] x (BA x B)) := hc
 clear h
 go_enter Tryz.func78, Tryz.ntmps78
 go_wp2_with fail
 refine hc.out.mono ?_
 rintro e y ⟨rfl, hb⟩
 have k2 : y.cell? ⟨q, 0, none⟩ = some (.int .i64 n) := (hb.cell (p := ⟨q, 0, none⟩) (block_lt_of_cell m2.out)).trans m2.out
 have b1 : Hid (Below x.heap.size x y) := hb
 clear hc m2 m hb
 cases B
 · go_wp2
   go_ret
   exact ⟨rfl, b1.out⟩
 · go_wp2
   go_ret
   exact ⟨rfl, b1.out⟩
theorem must1_1 (c0 p q : Nat) (n : Int) (B : Bool) (x : World) (h : MuAt x p q (.func (.func 48) #[] #[.pointer (some ⟨c0, 0, none⟩)]) n) (hc : Calls Tryz.prog 48 #[.pointer (some ⟨c0, 0, none⟩)] x (BA x B)) : Calls Tryz.prog 78 #[.pointer (some ⟨p, 0, none⟩), .pointer (some ⟨q, 0, none⟩)] x (QA x (orE B n)) := by
 have m := h.f
 have m2 : Hid (x.cell? ⟨q, 0, none⟩ = some (.int .i64 n)) := h.n
 replace hc : Hid (Calls Tryz.prog 48 #[.pointer (some ⟨c0, 0, none⟩)] x (BA x B)) := hc
 clear h
 go_enter Tryz.func78, Tryz.ntmps78
 go_wp2_with fail
 refine hc.out.mono ?_
 rintro e y ⟨rfl, hb⟩
 have k2 : y.cell? ⟨q, 0, none⟩ = some (.int .i64 n) := (hb.cell (p := ⟨q, 0, none⟩) (block_lt_of_cell m2.out)).trans m2.out
 have b1 : Hid (Below x.heap.size x y) := hb
 clear hc m2 m hb
 cases B
 · go_wp2
   go_ret
   exact ⟨rfl, b1.out⟩
 · go_wp2
   go_ret
   exact ⟨rfl, b1.out⟩
theorem must1_2 (c0 p q : Nat) (n : Int) (B : Bool) (x : World) (h : MuAt x p q (.func (.func 50) #[] #[.pointer (some ⟨c0, 0, none⟩)]) n) (hc : Calls Tryz.prog 50 #[.pointer (some ⟨c0, 0, none⟩)] x (BA x B)) : Calls Tryz.prog 78 #[.pointer (some ⟨p, 0, none⟩), .pointer (some ⟨q, 0, none⟩)] x (QA x (orE B n)) := by
 have m := h.f
 have m2 : Hid (x.cell? ⟨q, 0, none⟩ = some (.int .i64 n)) := h.n
 replace hc : Hid (Calls Tryz.prog 50 #[.pointer (some ⟨c0, 0, none⟩)] x (BA x B)) := hc
 clear h
 go_enter Tryz.func78, Tryz.ntmps78
 go_wp2_with fail
 refine hc.out.mono ?_
 rintro e y ⟨rfl, hb⟩
 have k2 : y.cell? ⟨q, 0, none⟩ = some (.int .i64 n) := (hb.cell (p := ⟨q, 0, none⟩) (block_lt_of_cell m2.out)).trans m2.out
 have b1 : Hid (Below x.heap.size x y) := hb
 clear hc m2 m hb
 cases B
 · go_wp2
   go_ret
   exact ⟨rfl, b1.out⟩
 · go_wp2
   go_ret
   exact ⟨rfl, b1.out⟩
theorem must1_3 (c0 p q : Nat) (n : Int) (B : Bool) (x : World) (h : MuAt x p q (.func (.func 52) #[] #[.pointer (some ⟨c0, 0, none⟩)]) n) (hc : Calls Tryz.prog 52 #[.pointer (some ⟨c0, 0, none⟩)] x (BA x B)) : Calls Tryz.prog 78 #[.pointer (some ⟨p, 0, none⟩), .pointer (some ⟨q, 0, none⟩)] x (QA x (orE B n)) := by
 have m := h.f
 have m2 : Hid (x.cell? ⟨q, 0, none⟩ = some (.int .i64 n)) := h.n
 replace hc : Hid (Calls Tryz.prog 52 #[.pointer (some ⟨c0, 0, none⟩)] x (BA x B)) := hc
 clear h
 go_enter Tryz.func78, Tryz.ntmps78
 go_wp2_with fail
 refine hc.out.mono ?_
 rintro e y ⟨rfl, hb⟩
 have k2 : y.cell? ⟨q, 0, none⟩ = some (.int .i64 n) := (hb.cell (p := ⟨q, 0, none⟩) (block_lt_of_cell m2.out)).trans m2.out
 have b1 : Hid (Below x.heap.size x y) := hb
 clear hc m2 m hb
 cases B
 · go_wp2
   go_ret
   exact ⟨rfl, b1.out⟩
 · go_wp2
   go_ret
   exact ⟨rfl, b1.out⟩
theorem must1_4 (c0 p q : Nat) (n : Int) (B : Bool) (x : World) (h : MuAt x p q (.func (.func 110) #[] #[.pointer (some ⟨c0, 0, none⟩)]) n) (hc : Calls Tryz.prog 110 #[.pointer (some ⟨c0, 0, none⟩)] x (BA x B)) : Calls Tryz.prog 78 #[.pointer (some ⟨p, 0, none⟩), .pointer (some ⟨q, 0, none⟩)] x (QA x (orE B n)) := by
 have m := h.f
 have m2 : Hid (x.cell? ⟨q, 0, none⟩ = some (.int .i64 n)) := h.n
 replace hc : Hid (Calls Tryz.prog 110 #[.pointer (some ⟨c0, 0, none⟩)] x (BA x B)) := hc
 clear h
 go_enter Tryz.func78, Tryz.ntmps78
 go_wp2_with fail
 refine hc.out.mono ?_
 rintro e y ⟨rfl, hb⟩
 have k2 : y.cell? ⟨q, 0, none⟩ = some (.int .i64 n) := (hb.cell (p := ⟨q, 0, none⟩) (block_lt_of_cell m2.out)).trans m2.out
 have b1 : Hid (Below x.heap.size x y) := hb
 clear hc m2 m hb
 cases B
 · go_wp2
   go_ret
   exact ⟨rfl, b1.out⟩
 · go_wp2
   go_ret
   exact ⟨rfl, b1.out⟩
theorem must1_5 (c0 c1 p q : Nat) (n : Int) (B : Bool) (x : World) (h : MuAt x p q (.func (.func 112) #[] #[.pointer (some ⟨c0, 0, none⟩), .pointer (some ⟨c1, 0, none⟩)]) n) (hc : Calls Tryz.prog 112 #[.pointer (some ⟨c0, 0, none⟩), .pointer (some ⟨c1, 0, none⟩)] x (BA x B)) : Calls Tryz.prog 78 #[.pointer (some ⟨p, 0, none⟩), .pointer (some ⟨q, 0, none⟩)] x (QA x (orE B n)) := by
 have m := h.f
 have m2 : Hid (x.cell? ⟨q, 0, none⟩ = some (.int .i64 n)) := h.n
 replace hc : Hid (Calls Tryz.prog 112 #[.pointer (some ⟨c0, 0, none⟩), .pointer (some ⟨c1, 0, none⟩)] x (BA x B)) := hc
 clear h
 go_enter Tryz.func78, Tryz.ntmps78
 go_wp2_with fail
 refine hc.out.mono ?_
 rintro e y ⟨rfl, hb⟩
 have k2 : y.cell? ⟨q, 0, none⟩ = some (.int .i64 n) := (hb.cell (p := ⟨q, 0, none⟩) (block_lt_of_cell m2.out)).trans m2.out
 have b1 : Hid (Below x.heap.size x y) := hb
 clear hc m2 m hb
 cases B
 · go_wp2
   go_ret
   exact ⟨rfl, b1.out⟩
 · go_wp2
   go_ret
   exact ⟨rfl, b1.out⟩
theorem must1_6 (c0 p q : Nat) (n : Int) (B : Bool) (x : World) (h : MuAt x p q (.func (.func 114) #[] #[.pointer (some ⟨c0, 0, none⟩)]) n) (hc : Calls Tryz.prog 114 #[.pointer (some ⟨c0, 0, none⟩)] x (BA x B)) : Calls Tryz.prog 78 #[.pointer (some ⟨p, 0, none⟩), .pointer (some ⟨q, 0, none⟩)] x (QA x (orE B n)) := by
 have m := h.f
 have m2 : Hid (x.cell? ⟨q, 0, none⟩ = some (.int .i64 n)) := h.n
 replace hc : Hid (Calls Tryz.prog 114 #[.pointer (some ⟨c0, 0, none⟩)] x (BA x B)) := hc
 clear h
 go_enter Tryz.func78, Tryz.ntmps78
 go_wp2_with fail
 refine hc.out.mono ?_
 rintro e y ⟨rfl, hb⟩
 have k2 : y.cell? ⟨q, 0, none⟩ = some (.int .i64 n) := (hb.cell (p := ⟨q, 0, none⟩) (block_lt_of_cell m2.out)).trans m2.out
 have b1 : Hid (Below x.heap.size x y) := hb
 clear hc m2 m hb
 cases B
 · go_wp2
   go_ret
   exact ⟨rfl, b1.out⟩
 · go_wp2
   go_ret
   exact ⟨rfl, b1.out⟩
theorem must1_7 (c0 p q : Nat) (n : Int) (B : Bool) (x : World) (h : MuAt x p q (.func (.func 116) #[] #[.pointer (some ⟨c0, 0, none⟩)]) n) (hc : Calls Tryz.prog 116 #[.pointer (some ⟨c0, 0, none⟩)] x (BA x B)) : Calls Tryz.prog 78 #[.pointer (some ⟨p, 0, none⟩), .pointer (some ⟨q, 0, none⟩)] x (QA x (orE B n)) := by
 have m := h.f
 have m2 : Hid (x.cell? ⟨q, 0, none⟩ = some (.int .i64 n)) := h.n
 replace hc : Hid (Calls Tryz.prog 116 #[.pointer (some ⟨c0, 0, none⟩)] x (BA x B)) := hc
 clear h
 go_enter Tryz.func78, Tryz.ntmps78
 go_wp2_with fail
 refine hc.out.mono ?_
 rintro e y ⟨rfl, hb⟩
 have k2 : y.cell? ⟨q, 0, none⟩ = some (.int .i64 n) := (hb.cell (p := ⟨q, 0, none⟩) (block_lt_of_cell m2.out)).trans m2.out
 have b1 : Hid (Below x.heap.size x y) := hb
 clear hc m2 m hb
 cases B
 · go_wp2
   go_ret
   exact ⟨rfl, b1.out⟩
 · go_wp2
   go_ret
   exact ⟨rfl, b1.out⟩
theorem must1_8 (c0 c1 c2 p q : Nat) (n : Int) (B : Bool) (x : World) (h : MuAt x p q (.func (.func 84) #[] #[.pointer (some ⟨c0, 0, none⟩), .pointer (some ⟨c1, 0, none⟩), .pointer (some ⟨c2, 0, none⟩)]) n) (hc : Calls Tryz.prog 84 #[.pointer (some ⟨c0, 0, none⟩), .pointer (some ⟨c1, 0, none⟩), .pointer (some ⟨c2, 0, none⟩)] x (BA x B)) : Calls Tryz.prog 78 #[.pointer (some ⟨p, 0, none⟩), .pointer (some ⟨q, 0, none⟩)] x (QA x (orE B n)) := by
 have m := h.f
 have m2 : Hid (x.cell? ⟨q, 0, none⟩ = some (.int .i64 n)) := h.n
 replace hc : Hid (Calls Tryz.prog 84 #[.pointer (some ⟨c0, 0, none⟩), .pointer (some ⟨c1, 0, none⟩), .pointer (some ⟨c2, 0, none⟩)] x (BA x B)) := hc
 clear h
 go_enter Tryz.func78, Tryz.ntmps78
 go_wp2_with fail
 refine hc.out.mono ?_
 rintro e y ⟨rfl, hb⟩
 have k2 : y.cell? ⟨q, 0, none⟩ = some (.int .i64 n) := (hb.cell (p := ⟨q, 0, none⟩) (block_lt_of_cell m2.out)).trans m2.out
 have b1 : Hid (Below x.heap.size x y) := hb
 clear hc m2 m hb
 cases B
 · go_wp2
   go_ret
   exact ⟨rfl, b1.out⟩
 · go_wp2
   go_ret
   exact ⟨rfl, b1.out⟩
def flV (B : Nat) (f : Fd) (γ : Nat) : Nat → Value
 | 0 => .pointer (some ⟨B, 0, none⟩)
 | 1 => .string (txt f.nm)
 | 2 => .pointer (some ⟨B, 1, none⟩)
 | 3 => .int .i64 f.pl
 | 4 => .string (txt (textL f.pl))
 | 5 => .pointer (some ⟨B, 2, none⟩)
 | 6 => .string (txt f.kd)
 | 7 => .pointer (some ⟨B, 3, none⟩)
 | 8 => .int .i64 f.wd
 | 9 => .string (txt (textL f.wd))
 | 10 => .pointer (some ⟨B, 4, none⟩)
 | 11 => rv f.sn f.sd
 | 12 => .string (txt (ratW f.sn f.sd))
 | 13 => .pointer (some ⟨B, 6, none⟩)
 | 14 => rv f.on f.od
 | 15 => .string (txt (ratW f.on f.od))
 | 16 => .pointer (some ⟨B, 8, none⟩)
 | 17 => .string (txt f.un)
 | 18 => .slice (some ⟨γ, 0, none⟩) 8 8
 | 19 => .string (txt (lineB (fieldW f)))
 | 20 => .string (txt (lineB (fieldW f)))
 | _ => undef
def FlP (B : Nat) (f : Fd) (γ : Nat) (_x : Array Bool) (i : Nat) (v : Value) (_z : World) : Prop := v = flV B f γ i
theorem flV_g {B : Nat} {f : Fd} {γ γ' : Nat} {j : Nat} (h : j ≠ 18) : flV B f γ j = flV B f γ' j := by
 unfold flV
 split <;> first | rfl | (exact absurd rfl h)
structure FlW (w0 : World) (B : Nat) (f : Fd) (γ : Nat) (x : Array Bool) (z : World) : Prop where
 fb : FdB z B f
 low : Below w0.heap.size w0 z
 bl : x.getD 18 false = true → StrsIn z γ 0 (fieldW f) ∧ γ < z.heap.size
theorem FlW.go {w0 : World} {B : Nat} {f : Fd} {γ : Nat} {x : Array Bool} {z z' : World} (h : FlW w0 B f γ x z) {i : Nat} (hi : i ≠ 18) (hb : Below z.heap.size z z') : FlW w0 B f γ (x.setIfInBounds i true) z' := by
 refine ⟨h.fb.below hb, h.low.trans (hb.mono h.low.size), ?_⟩
 rw [getD_set_ne false hi]
 intro e
 have k := h.bl e
 exact ⟨strs_below k.1 k.2 hb, Nat.lt_of_lt_of_le k.2 hb.size⟩
theorem strs_new (w : World) (ws : List Wd) (T : TypeId) : StrsIn (w.alloc (.cells (strV ws).toArray T)) w.heap.size 0 ws := fun j hj => by
 rw [Nat.zero_add]
 refine cells_new w (strV ws) T j _ ?_
 unfold strV
 rw [List.getElem?_map, List.getElem?_eq_getElem hj]
 rfl
theorem FlW.blk {w0 : World} {B : Nat} {f : Fd} {γ : Nat} {x : Array Bool} {z : World} (h : FlW w0 B f γ x z) : FlW w0 B f z.heap.size (x.setIfInBounds 18 true) (z.alloc (.cells #[.string ⟨#[102, 105, 101, 108, 100]⟩, .string (txt f.nm), .string (txt (textL f.pl)), .string (txt f.kd), .string (txt (textL f.wd)), .string (txt (ratW f.sn f.sd)), .string (txt (ratW f.on f.od)), .string (txt f.un)] 9)) := by
 have hb : Below z.heap.size z (z.alloc (.cells #[.string ⟨#[102, 105, 101, 108, 100]⟩, .string (txt f.nm), .string (txt (textL f.pl)), .string (txt f.kd), .string (txt (textL f.wd)), .string (txt (ratW f.sn f.sd)), .string (txt (ratW f.on f.od)), .string (txt f.un)] 9)) := (Below.refl _ _).alloc (Nat.le_refl _) _
 exact ⟨h.fb.below hb, h.low.trans (hb.mono h.low.size), fun _ => ⟨strs_new z (fieldW f) 9, by rw [World.size_alloc]; omega⟩⟩
def ShTxC (f : FuncId) (args : Array Value) (l : List UInt8) : Prop := ∀ z, Calls Tryz.prog f args z fun e y => e = .returned (.string (txt l)) ∧ Below z.heap.size z y
def ShLnC (ws : List Wd) (n : Nat) : Prop := ∀ z g, StrsIn z g 0 ws → g < z.heap.size → Calls Tryz.prog 55 #[.slice (some ⟨g, 0, none⟩) n n] z fun e y => e = .returned (.string (txt (lineB ws))) ∧ Below z.heap.size z y
theorem shLnC {ws : List Wd} (hn : ws.length ≤ 20) (hl : ∀ x ∈ ws, x.length ≤ 10000) : ShLnC ws ws.length := fun z g hi hg => shline_any ws g 0 ws.length z hi hg (Nat.le_refl _) hn hl
theorem ratC {n d : Int} (hn : I64 n) (hd : I64 d) : ShTxC 89 #[rv n d] (ratW n d) := fun z => by
 rw [txt_ratW]
 exact ratText_any n d z hn hd
structure FdW (f : Fd) : Prop where
 nm : f.nm.length ≤ 5000
 kd : f.kd.length ≤ 5000
 un : f.un.length ≤ 5000
 pl : I64 f.pl
 wd : I64 f.wd
 sn : I64 f.sn
 sd : I64 f.sd
 on : I64 f.on
 od : I64 f.od
theorem FdW.ln {f : Fd} (h : FdW f) : ShLnC (fieldW f) 8 := shLnC (ws := fieldW f) (by simp [fieldW]) (fun x hx => by
 simp only [fieldW, List.mem_cons, List.not_mem_nil, or_false] at hx
 rcases hx with e | e | e | e | e | e | e | e <;> subst e
 · decide
 · have := h.nm; omega
 · have := (textL_len f.pl).2; omega
 · have := h.kd; omega
 · have := (textL_len f.wd).2; omega
 · have := ratW_len f.sn f.sd; omega
 · have := ratW_len f.on f.od; omega
 · have := h.un; omega)
theorem shfield_any (f : Fd) (w : World) (hf : FdW f) : Calls Tryz.prog 58 #[fdV f] w fun e y => e = .returned (.string (txt (lineB (fieldW f)))) ∧ Below w.heap.size w y := by
 have cp : Hid (ShTxC 57 #[.int .i64 f.pl] (textL f.pl)) := fun z => shnum_any f.pl z hf.pl
 have cw : Hid (ShTxC 57 #[.int .i64 f.wd] (textL f.wd)) := fun z => shnum_any f.wd z hf.wd
 have cs : Hid (ShTxC 89 #[rv f.sn f.sd] (ratW f.sn f.sd)) := ratC hf.sn hf.sd
 have co : Hid (ShTxC 89 #[rv f.on f.od] (ratW f.on f.od)) := ratC hf.on hf.od
 have cl : Hid (ShLnC (fieldW f) 8) := hf.ln
 have F0 : Hid (FdB (w.alloc (.cells #[.string (txt f.nm), .int .i64 f.pl, .string (txt f.kd), .int .i64 f.wd, .int .i64 f.sn, .int .i64 f.sd, .int .i64 f.on, .int .i64 f.od, .string (txt f.un)] 70)) w.heap.size f) := FdB.new w f _
 have B0 : Hid (Below w.heap.size w (w.alloc (.cells #[.string (txt f.nm), .int .i64 f.pl, .string (txt f.kd), .int .i64 f.wd, .int .i64 f.sn, .int .i64 f.sd, .int .i64 f.on, .int .i64 f.od, .string (txt f.un)] 70))) := (Below.refl _ _).alloc (Nat.le_refl _) _
 clear hf
 go_enter Tryz.func58, Tryz.ntmps58
 go_upto_region 1 with fail
 generalize w.alloc (.cells #[.string (txt f.nm), .int .i64 f.pl, .string (txt f.kd), .int .i64 f.wd, .int .i64 f.sn, .int .i64 f.sd, .int .i64 f.on, .int .i64 f.od, .string (txt f.un)] 70) = w0 at *
 refine region_props3 (FlP w.heap.size f) (FlW w0 w.heap.size f) 0 (by kernel_rfl) (by kernel_rfl) ?_ ?_ ⟨F0.out.below (Below.refl _ _).drew, (Below.refl _ _).drew, fun h => (by cases h)⟩
 · intro γ x a z i op ho hI haf hx hxi hW
   have hi : i < 21 := (List.getElem?_eq_some_iff.1 ho).1
   have xi := getD_false hxi
   match i, hi with
    | 0, _ =>
     obtain rfl := Option.some.inj ho
     have e1 : a.tmps.getD 1 undef = .pointer (some ⟨w.heap.size, 0, none⟩) := (hI.was (by kernel_rfl)).trans rfl
     go_simp
     exact ⟨_, rfl, γ, rfl, fun j v _ h => h, hW.go (by decide) (Below.refl _ _)⟩
    | 1, _ =>
     obtain rfl := Option.some.inj ho
     have e1 : a.tmps.getD 3 undef = .pointer (some ⟨w.heap.size, 0, none⟩) := Eq.trans (hI.val 0 _ 3 rfl rfl (dep_at haf (by kernel_rfl))) rfl
     have m0 := hW.fb.c 0 _ rfl
     go_simp
     exact ⟨_, rfl, γ, rfl, fun j v _ h => h, hW.go (by decide) (Below.refl _ _)⟩
    | 2, _ =>
     obtain rfl := Option.some.inj ho
     have e1 : a.tmps.getD 1 undef = .pointer (some ⟨w.heap.size, 0, none⟩) := (hI.was (by kernel_rfl)).trans rfl
     go_simp
     exact ⟨_, rfl, γ, rfl, fun j v _ h => h, hW.go (by decide) (Below.refl _ _)⟩
    | 3, _ =>
     obtain rfl := Option.some.inj ho
     have e1 : a.tmps.getD 5 undef = .pointer (some ⟨w.heap.size, 1, none⟩) := Eq.trans (hI.val 2 _ 5 rfl rfl (dep_at haf (by kernel_rfl))) rfl
     have m0 := hW.fb.c 1 _ rfl
     go_simp
     exact ⟨_, rfl, γ, rfl, fun j v _ h => h, hW.go (by decide) (Below.refl _ _)⟩
    | 4, _ =>
     obtain rfl := Option.some.inj ho
     have e1 : a.tmps.getD 6 undef = .int .i64 f.pl := Eq.trans (hI.val 3 _ 6 rfl rfl (dep_at haf (by kernel_rfl))) rfl
     go_simp
     refine (cp.out z).mono ?_
     rintro e z' ⟨rfl, hb⟩
     exact ⟨_, rfl, γ, rfl, fun j v _ h => h, hW.go (by decide) hb⟩
    | 5, _ =>
     obtain rfl := Option.some.inj ho
     have e1 : a.tmps.getD 1 undef = .pointer (some ⟨w.heap.size, 0, none⟩) := (hI.was (by kernel_rfl)).trans rfl
     go_simp
     exact ⟨_, rfl, γ, rfl, fun j v _ h => h, hW.go (by decide) (Below.refl _ _)⟩
    | 6, _ =>
     obtain rfl := Option.some.inj ho
     have e1 : a.tmps.getD 8 undef = .pointer (some ⟨w.heap.size, 2, none⟩) := Eq.trans (hI.val 5 _ 8 rfl rfl (dep_at haf (by kernel_rfl))) rfl
     have m0 := hW.fb.c 2 _ rfl
     go_simp
     exact ⟨_, rfl, γ, rfl, fun j v _ h => h, hW.go (by decide) (Below.refl _ _)⟩
    | 7, _ =>
     obtain rfl := Option.some.inj ho
     have e1 : a.tmps.getD 1 undef = .pointer (some ⟨w.heap.size, 0, none⟩) := (hI.was (by kernel_rfl)).trans rfl
     go_simp
     exact ⟨_, rfl, γ, rfl, fun j v _ h => h, hW.go (by decide) (Below.refl _ _)⟩
    | 8, _ =>
     obtain rfl := Option.some.inj ho
     have e1 : a.tmps.getD 10 undef = .pointer (some ⟨w.heap.size, 3, none⟩) := Eq.trans (hI.val 7 _ 10 rfl rfl (dep_at haf (by kernel_rfl))) rfl
     have m0 := hW.fb.c 3 _ rfl
     go_simp
     exact ⟨_, rfl, γ, rfl, fun j v _ h => h, hW.go (by decide) (Below.refl _ _)⟩
    | 9, _ =>
     obtain rfl := Option.some.inj ho
     have e1 : a.tmps.getD 11 undef = .int .i64 f.wd := Eq.trans (hI.val 8 _ 11 rfl rfl (dep_at haf (by kernel_rfl))) rfl
     go_simp
     refine (cw.out z).mono ?_
     rintro e z' ⟨rfl, hb⟩
     exact ⟨_, rfl, γ, rfl, fun j v _ h => h, hW.go (by decide) hb⟩
    | 10, _ =>
     obtain rfl := Option.some.inj ho
     have e1 : a.tmps.getD 1 undef = .pointer (some ⟨w.heap.size, 0, none⟩) := (hI.was (by kernel_rfl)).trans rfl
     go_simp
     exact ⟨_, rfl, γ, rfl, fun j v _ h => h, hW.go (by decide) (Below.refl _ _)⟩
    | 11, _ =>
     obtain rfl := Option.some.inj ho
     have e1 : a.tmps.getD 13 undef = .pointer (some ⟨w.heap.size, 4, none⟩) := Eq.trans (hI.val 10 _ 13 rfl rfl (dep_at haf (by kernel_rfl))) rfl
     have m0 := hW.fb.c 4 _ rfl
     have m1 := hW.fb.c 5 _ rfl
     go_simp
     exact ⟨_, rfl, γ, rfl, fun j v _ h => h, hW.go (by decide) (Below.refl _ _)⟩
    | 12, _ =>
     obtain rfl := Option.some.inj ho
     have e1 : a.tmps.getD 14 undef = rv f.sn f.sd := Eq.trans (hI.val 11 _ 14 rfl rfl (dep_at haf (by kernel_rfl))) rfl
     go_simp
     refine (cs.out z).mono ?_
     rintro e z' ⟨rfl, hb⟩
     exact ⟨_, rfl, γ, rfl, fun j v _ h => h, hW.go (by decide) hb⟩
    | 13, _ =>
     obtain rfl := Option.some.inj ho
     have e1 : a.tmps.getD 1 undef = .pointer (some ⟨w.heap.size, 0, none⟩) := (hI.was (by kernel_rfl)).trans rfl
     go_simp
     exact ⟨_, rfl, γ, rfl, fun j v _ h => h, hW.go (by decide) (Below.refl _ _)⟩
    | 14, _ =>
     obtain rfl := Option.some.inj ho
     have e1 : a.tmps.getD 16 undef = .pointer (some ⟨w.heap.size, 6, none⟩) := Eq.trans (hI.val 13 _ 16 rfl rfl (dep_at haf (by kernel_rfl))) rfl
     have m0 := hW.fb.c 6 _ rfl
     have m1 := hW.fb.c 7 _ rfl
     go_simp
     exact ⟨_, rfl, γ, rfl, fun j v _ h => h, hW.go (by decide) (Below.refl _ _)⟩
    | 15, _ =>
     obtain rfl := Option.some.inj ho
     have e1 : a.tmps.getD 17 undef = rv f.on f.od := Eq.trans (hI.val 14 _ 17 rfl rfl (dep_at haf (by kernel_rfl))) rfl
     go_simp
     refine (co.out z).mono ?_
     rintro e z' ⟨rfl, hb⟩
     exact ⟨_, rfl, γ, rfl, fun j v _ h => h, hW.go (by decide) hb⟩
    | 16, _ =>
     obtain rfl := Option.some.inj ho
     have e1 : a.tmps.getD 1 undef = .pointer (some ⟨w.heap.size, 0, none⟩) := (hI.was (by kernel_rfl)).trans rfl
     go_simp
     exact ⟨_, rfl, γ, rfl, fun j v _ h => h, hW.go (by decide) (Below.refl _ _)⟩
    | 17, _ =>
     obtain rfl := Option.some.inj ho
     have e1 : a.tmps.getD 19 undef = .pointer (some ⟨w.heap.size, 8, none⟩) := Eq.trans (hI.val 16 _ 19 rfl rfl (dep_at haf (by kernel_rfl))) rfl
     have m0 := hW.fb.c 8 _ rfl
     go_simp
     exact ⟨_, rfl, γ, rfl, fun j v _ h => h, hW.go (by decide) (Below.refl _ _)⟩
    | 18, _ =>
     obtain rfl := Option.some.inj ho
     have e1 : a.tmps.getD 4 undef = .string (txt f.nm) := Eq.trans (hI.val 1 _ 4 rfl rfl (dep_at haf (by kernel_rfl))) rfl
     have e2 : a.tmps.getD 7 undef = .string (txt (textL f.pl)) := Eq.trans (hI.val 4 _ 7 rfl rfl (dep_at haf (by kernel_rfl))) rfl
     have e3 : a.tmps.getD 9 undef = .string (txt f.kd) := Eq.trans (hI.val 6 _ 9 rfl rfl (dep_at haf (by kernel_rfl))) rfl
     have e4 : a.tmps.getD 12 undef = .string (txt (textL f.wd)) := Eq.trans (hI.val 9 _ 12 rfl rfl (dep_at haf (by kernel_rfl))) rfl
     have e5 : a.tmps.getD 15 undef = .string (txt (ratW f.sn f.sd)) := Eq.trans (hI.val 12 _ 15 rfl rfl (dep_at haf (by kernel_rfl))) rfl
     have e6 : a.tmps.getD 18 undef = .string (txt (ratW f.on f.od)) := Eq.trans (hI.val 15 _ 18 rfl rfl (dep_at haf (by kernel_rfl))) rfl
     have e7 : a.tmps.getD 20 undef = .string (txt f.un) := Eq.trans (hI.val 17 _ 20 rfl rfl (dep_at haf (by kernel_rfl))) rfl
     go_simp
     simp only [← Array.getD_eq_getD_getElem?, e1, e2, e3, e4, e5, e6, e7]
     go_simp
     refine ⟨_, rfl, z.heap.size, rfl, fun j v hj h => Eq.trans h (flV_g (fun e => ?_)), hW.blk⟩
     subst e; exact gd_no xi hj
    | 19, _ =>
     obtain rfl := Option.some.inj ho
     have e1 : a.tmps.getD 21 undef = .slice (some ⟨γ, 0, none⟩) 8 8 := Eq.trans (hI.val 18 _ 21 rfl rfl (dep_at haf (by kernel_rfl))) rfl
     have hbl := hW.bl (dep_at haf (by kernel_rfl))
     go_simp
     refine (cl.out z γ hbl.1 hbl.2).mono ?_
     rintro e z' ⟨rfl, hb⟩
     exact ⟨_, rfl, γ, rfl, fun j v _ h => h, hW.go (by decide) hb⟩
    | 20, _ =>
     obtain rfl := Option.some.inj ho
     have e1 : a.tmps.getD 22 undef = .string (txt (lineB (fieldW f))) := Eq.trans (hI.val 19 _ 22 rfl rfl (dep_at haf (by kernel_rfl))) rfl
     go_simp
     exact ⟨_, rfl, γ, rfl, fun j v _ h => h, hW.go (by decide) (Below.refl _ _)⟩
 · intro γ x a z hx hall hI hW
   have B1 : Hid (Below w.heap.size w z) := B0.out.trans (hW.low.mono B0.out.size)
   have ha := RegI.tmps (V := flV w.heap.size f γ) hI (by kernel_rfl) hall
   simp only [putsL, flV, List.setIfInBounds_toArray, List.set_cons_zero, List.set_cons_succ] at ha
   subst ha
   clear hI hW hall hx cp cw cs co cl F0 B0
   go_wp2
   go_ret
   exact ⟨rfl, B1.out⟩
end Go.Proofs.YthabffjgdhfbmaaGreatDoor
