/-
  Texts that belong together, one behind the other: SnM, SnD. Conditions: as each says.
-/
import Derived.Test.YtllkkgcfhphgmaaJs10
import Derived.Test.YtllkkgcfhphgmaaJs13
import Derived.Test.YtllkkgcfhphgmaaJs14
import Derived.Test.YtllkkgcfhphgmaaJs9
/-
  What the program's own measured returns (layer 9). No conditions.
-/
namespace Go.Proofs.Ytllkkgcfhphgmaa
open Go.RowKit
set_option linter.unusedVariables false

set_option maxRecDepth 100000 in
set_option maxHeartbeats 2000000 in
theorem measured_any (s : ByteArray) (w : World) : Calls Try.prog 39 #[.string s] w fun e w' => e = .returned (.bool (isU s)) ∧ Below w.heap.size w w' := by
  have fd : Hid (∀ w, Calls Try.prog 54 #[.string s] w fun e w' => e = .returned (.tuple #[encU (atU s), .bool (isU s)]) ∧ Below w.heap.size w w') := find_any s
  generalize atU s = u at *
  generalize isU s = T at *
  go_enter Try.func39, Try.ntmps39
  go_wp2_with fail
  refine (fd.out _).mono ?_
  rintro e w1 ⟨rfl, hb⟩
  have B : Hid (Below w.heap.size w w1) := hb
  clear hb fd
  go_wp2
  go_ret
  exact ⟨rfl, B.out.alloc B.out.size _⟩
end Go.Proofs.Ytllkkgcfhphgmaa
/-
  What the program's own Field returns: the document's error (layer 9). Conditions: the field's name has at most 5000 bytes; numbers are of their kinds.
-/
namespace Go.Proofs.Ytllkkgcfhphgmaa
open Go.RowKit
set_option linter.unusedVariables false

/-- a field's numbers are of their kinds, its name no longer than that -/
structure FdI (f : Fd) : Prop where
  nm : (f.nm.length : Int) ≤ 5000
  pl : I64 f.pl
  wd : I64 f.wd
  sn : I64 f.sn
  sd : I64 f.sd
  on : I64 f.on
  od : I64 f.od
theorem txt_sz (z : Wd) (h : (z.length : Int) ≤ 5000) : ((txt z).size : Int) ≤ 5000 := by rw [txt_size]; exact h
theorem same_b {f : FuncId} {args : Array Value} {x : World} {v : Value} (h : Calls Try.prog f args x fun e w' => e = .returned v ∧ w' = x) : Calls Try.prog f args x fun e w' => e = .returned v ∧ Below x.heap.size x w' :=
  h.mono fun _ _ ⟨a, b⟩ => ⟨a, by rw [b]; exact Below.refl _ _⟩
set_option maxRecDepth 100000 in
set_option maxHeartbeats 2000000 in
theorem fc1_any (a : Nat) (f : Fd) (hi : FdI f) (w : World) (hF : FdB w a f) : Calls Try.prog 32 #[.pointer (some ⟨a, 0, none⟩)] w (BA w (gdK f)) := by
  have nc : Hid (∀ x, Calls Try.prog 20 #[.string (txt f.nm)] x fun e w' => e = .returned (.bool (nameB f.nm)) ∧ Below x.heap.size x w') := fun x => HM (txt f.nm) x (txt_sz _ hi.nm)
  have rc : Hid (∀ x, Calls Try.prog 33 #[.string (txt f.kd), .int .i64 f.wd] x fun e w' => e = .returned (.bool (rgtB (kindI (txt f.kd)) f.wd)) ∧ Below x.heap.size x w') := fun x => same_b (pright_any (txt f.kd) f.wd x hi.wd)
  have hG : gdK f = (nameB f.nm && rgtB (kindI (txt f.kd)) f.wd) := rfl
  rw [hG]
  clear hG hi
  replace hF : Hid (FdB w a f) := hF
  obtain ⟨c0, c1, c2, c3, _⟩ := hF.out.cells
  clear c1
  generalize nameB f.nm = A at *
  generalize rgtB (kindI (txt f.kd)) f.wd = B at *
  go_enter Try.func32, Try.ntmps32
  go_wp2_with fail
  refine (nc.out w).mono ?_
  rintro e y ⟨rfl, hb⟩
  have B1 : Hid (Below w.heap.size w y) := hb
  clear hb nc c0 c2 c3
  cases A
  · clear rc
    go_wp2
    go_ret
    exact ⟨rfl, B1.out⟩
  · obtain ⟨_, _, k2, k3, _⟩ := (hF.out.below B1.out).cells
    go_wp2_with fail
    refine (rc.out y).mono ?_
    rintro e y2 ⟨rfl, hb⟩
    have B2 : Hid (Below w.heap.size w y2) := B1.out.trans (hb.mono B1.out.size)
    clear hb rc k2 k3
    go_wp2
    go_ret
    exact ⟨rfl, B2.out⟩
set_option maxRecDepth 100000 in
set_option maxHeartbeats 2000000 in
theorem fc2_any (a b : Nat) (f : Fd) (d : Dv) (fv qv : Value) (hz : I64 d.sz) (w : World) (hF : FdB w a f) (hD : DevB w b d fv qv) : Calls Try.prog 34 #[.pointer (some ⟨a, 0, none⟩), .pointer (some ⟨b, 0, none⟩)] w (BA w (gdP d.sz f)) := by
  have ic : Hid (∀ x, Calls Try.prog 35 #[fdV f, .int .i64 d.sz] x fun e w' => e = .returned (.bool (gdP d.sz f)) ∧ Below x.heap.size x w') := fun x => inside_any d.sz f x hz
  obtain ⟨c0, c1, c2, c3, c4, c5, c6, c7, c8⟩ := hF.cells
  have z4 := hD.c 4 _ rfl
  clear hF hD hz
  generalize gdP d.sz f = T at *
  generalize d.sz = sz at *
  obtain ⟨fm, pl, kd, wd, sn, sd, on, od, un⟩ := f
  simp only at c0 c1 c2 c3 c4 c5 c6 c7 c8
  replace ic : Hid (∀ x, Calls Try.prog 35 #[.agg #[.string (txt fm), .int .i64 pl, .string (txt kd), .int .i64 wd, .int .i64 sn, .int .i64 sd, .int .i64 on, .int .i64 od, .string (txt un)], .int .i64 sz] x fun e w' => e = .returned (.bool T) ∧ Below x.heap.size x w') := ic
  go_enter Try.func34, Try.ntmps34
  go_wp2_with fail
  refine (ic.out w).mono ?_
  rintro e y ⟨rfl, hb⟩
  have B1 : Hid (Below w.heap.size w y) := hb
  clear hb ic c0 c1 c2 c3 c4 c5 c6 c7 c8 z4
  go_wp2
  go_ret
  exact ⟨rfl, B1.out⟩
set_option maxRecDepth 100000 in
set_option maxHeartbeats 2000000 in
theorem fc3_any (a : Nat) (f : Fd) (hi : FdI f) (w : World) (hF : FdB w a f) : Calls Try.prog 36 #[.pointer (some ⟨a, 0, none⟩)] w (BA w (gdR f)) := by
  have r1 : Hid (∀ x, Calls Try.prog 37 #[rv f.sn f.sd] x fun e w' => e = .returned (.bool (rightB f.sn f.sd)) ∧ Below x.heap.size x w') := fun x => right_any f.sn f.sd x hi.sn hi.sd
  have r2 : Hid (∀ x, Calls Try.prog 37 #[rv f.on f.od] x fun e w' => e = .returned (.bool (rightB f.on f.od)) ∧ Below x.heap.size x w') := fun x => right_any f.on f.od x hi.on hi.od
  have hG : gdR f = (rightB f.sn f.sd && rightB f.on f.od) := rfl
  rw [hG]
  clear hG hi
  replace hF : Hid (FdB w a f) := hF
  obtain ⟨_, _, _, _, c4, c5, _⟩ := hF.out.cells
  generalize rightB f.sn f.sd = A at *
  generalize rightB f.on f.od = B at *
  go_enter Try.func36, Try.ntmps36
  go_wp2_with fail
  refine (r1.out w).mono ?_
  rintro e y ⟨rfl, hb⟩
  have B1 : Hid (Below w.heap.size w y) := hb
  clear hb r1 c4 c5
  cases A
  · clear r2
    go_wp2
    go_ret
    exact ⟨rfl, B1.out⟩
  · obtain ⟨_, _, _, _, _, _, k6, k7, _⟩ := (hF.out.below B1.out).cells
    go_wp2_with fail
    refine (r2.out y).mono ?_
    rintro e y2 ⟨rfl, hb⟩
    have B2 : Hid (Below w.heap.size w y2) := B1.out.trans (hb.mono B1.out.size)
    clear hb r2 k6 k7
    go_wp2
    go_ret
    exact ⟨rfl, B2.out⟩
set_option maxRecDepth 100000 in
set_option maxHeartbeats 2000000 in
theorem fc4_any (a : Nat) (f : Fd) (w : World) (hF : FdB w a f) : Calls Try.prog 38 #[.pointer (some ⟨a, 0, none⟩)] w (BA w (gdU f)) := by
  have mc : Hid (∀ x, Calls Try.prog 39 #[.string (txt f.un)] x fun e w' => e = .returned (.bool (gdU f)) ∧ Below x.heap.size x w') := fun x => measured_any (txt f.un) x
  have c8 := hF.c 8 _ rfl
  clear hF
  generalize gdU f = A at *
  go_enter Try.func38, Try.ntmps38
  go_wp2_with fail
  refine (mc.out w).mono ?_
  rintro e y ⟨rfl, hb⟩
  have B1 : Hid (Below w.heap.size w y) := hb
  clear hb mc c8
  go_wp2
  go_ret
  exact ⟨rfl, B1.out⟩
/-- the value of a question that must made -/
abbrev muV (p q : Nat) : Value := .func (.func 46) #[] #[.pointer (some ⟨p, 0, none⟩), .pointer (some ⟨q, 0, none⟩)]
theorem qf1 {w : World} {a p q : Nat} {f : Fd} (hi : FdI f) (hF : FdB w a f) (hm : MuAt w p q (.func (.func 32) #[] #[.pointer (some ⟨a, 0, none⟩)]) 6) : Ques w (muV p q) (orE (gdK f) 6) :=
  .inl ⟨p, q, rfl, fun x hx => must1_4 a p q 6 _ x (hm.below hx) (fc1_any a f hi x (hF.below hx))⟩
theorem qf2 {w : World} {a b p q : Nat} {f : Fd} {d : Dv} {fv qv : Value} (hz : I64 d.sz) (hF : FdB w a f) (hD : DevB w b d fv qv) (hm : MuAt w p q (.func (.func 34) #[] #[.pointer (some ⟨a, 0, none⟩), .pointer (some ⟨b, 0, none⟩)]) 11) : Ques w (muV p q) (orE (gdP d.sz f) 11) :=
  .inl ⟨p, q, rfl, fun x hx => must1_5 a b p q 11 _ x (hm.below hx) (fc2_any a b f d fv qv hz x (hF.below hx) (hD.below hx))⟩
theorem qf3 {w : World} {a p q : Nat} {f : Fd} (hi : FdI f) (hF : FdB w a f) (hm : MuAt w p q (.func (.func 36) #[] #[.pointer (some ⟨a, 0, none⟩)]) 1) : Ques w (muV p q) (orE (gdR f) 1) :=
  .inl ⟨p, q, rfl, fun x hx => must1_6 a p q 1 _ x (hm.below hx) (fc3_any a f hi x (hF.below hx))⟩
theorem qf4 {w : World} {a p q : Nat} {f : Fd} (hF : FdB w a f) (hm : MuAt w p q (.func (.func 38) #[] #[.pointer (some ⟨a, 0, none⟩)]) 4) : Ques w (muV p q) (orE (gdU f) 4) :=
  .inl ⟨p, q, rfl, fun x hx => must1_7 a p q 4 _ x (hm.below hx) (fc4_any a f x (hF.below hx))⟩
/-- the questions of Field, asked -/
theorem field_ask {y : World} {a b p1 q1 p2 q2 p3 q3 p4 q4 : Nat} {f : Fd} {d : Dv} {fv qv : Value} (hi : FdI f) (hz : I64 d.sz) (hF : FdB y a f) (hD : DevB y b d fv qv)
    (m1 : MuAt y p1 q1 (.func (.func 32) #[] #[.pointer (some ⟨a, 0, none⟩)]) 6) (m2 : MuAt y p2 q2 (.func (.func 34) #[] #[.pointer (some ⟨a, 0, none⟩), .pointer (some ⟨b, 0, none⟩)]) 11)
    (m3 : MuAt y p3 q3 (.func (.func 36) #[] #[.pointer (some ⟨a, 0, none⟩)]) 1) (m4 : MuAt y p4 q4 (.func (.func 38) #[] #[.pointer (some ⟨a, 0, none⟩)]) 4) (T : TypeId) :
    Calls Try.prog 17 #[.slice (some ⟨y.heap.size, 0, none⟩) 4 4] (y.alloc (.cells #[muV p1 q1, muV p2 q2, muV p3 q3, muV p4 q4] T)) fun e z => e = .returned (.int .i64 (fldE d.sz f)) ∧ Below y.heap.size y z := by
  have hb : Below y.heap.size y (y.alloc (.cells #[muV p1 q1, muV p2 q2, muV p3 q3, muV p4 q4] T)) := (Below.refl _ _).alloc (Nat.le_refl _) _
  refine (ask_any [muV p1 q1, muV p2 q2, muV p3 q3, muV p4 q4] (fldE d.sz f) y.heap.size 0 4 _ (QsIn.new y _ T) (by rw [World.size_alloc]; omega) ⟨[orE (gdK f) 6, orE (gdP d.sz f) 11, orE (gdR f) 1, orE (gdU f) 4], ?_, rfl⟩ (by simp)).mono ?_
  · exact ⟨qf1 hi (hF.below hb) (m1.below hb), fun _ => ⟨qf2 hz (hF.below hb) (hD.below hb) (m2.below hb), fun _ => ⟨qf3 hi (hF.below hb) (m3.below hb), fun _ => ⟨qf4 (hF.below hb) (m4.below hb), fun _ => trivial⟩⟩⟩⟩
  · rintro e z ⟨rfl, hz'⟩
    exact ⟨rfl, hb.trans (hz'.mono hb.size)⟩
set_option maxRecDepth 100000 in
set_option maxHeartbeats 4000000 in
theorem field_any (d : Dv) (f : Fd) (fv qv : Value) (w : World) (hi : FdI f) (hz : I64 d.sz) (hfv : FldsV w fv d.fs) : Calls Try.prog 13 #[dvV d fv qv, fdV f] w (QA w (fldE d.sz f)) := by
  have hmf : ∀ (fn : Fn) (first cap : Array Value) (w : World), (Instr.makeFunc fn first cap).run Try.prog w = .ok (.func fn first cap) w := fun _ _ _ _ => rfl
  have hD0 : DevB _ _ _ _ _ := DevB.new (w := w) (d := d) (qv := qv) hfv 34
  have hB0 : Below w.heap.size w (w.alloc (.cells #[.string (txt d.nm), .int .i64 d.st, .int .i64 d.es, .int .i64 d.mx, .int .i64 d.sz, .string (txt d.sm), fv, qv, .int .i64 d.po, .int .i64 d.ti, .int .i64 d.re, .int .i64 d.ag] 34)) := (Below.refl _ _).alloc (Nat.le_refl _) _
  obtain ⟨w0, hw0⟩ : ∃ w0, w.alloc (.cells #[.string (txt d.nm), .int .i64 d.st, .int .i64 d.es, .int .i64 d.mx, .int .i64 d.sz, .string (txt d.sm), fv, qv, .int .i64 d.po, .int .i64 d.ti, .int .i64 d.re, .int .i64 d.ag] 34) = w0 := ⟨_, rfl⟩
  have hs0 : w0.heap.size = w.heap.size + 1 := by rw [← hw0, World.size_alloc]
  have hF0 := FdB.new w0 f 45
  have hB1 : Below w0.heap.size w0 (w0.alloc (.cells #[.string (txt f.nm), .int .i64 f.pl, .string (txt f.kd), .int .i64 f.wd, .int .i64 f.sn, .int .i64 f.sd, .int .i64 f.on, .int .i64 f.od, .string (txt f.un)] 45)) := (Below.refl _ _).alloc (Nat.le_refl _) _
  rw [hw0] at hD0 hB0
  rw [hs0] at hF0
  have D : Hid (DevB (w0.alloc (.cells #[.string (txt f.nm), .int .i64 f.pl, .string (txt f.kd), .int .i64 f.wd, .int .i64 f.sn, .int .i64 f.sd, .int .i64 f.on, .int .i64 f.od, .string (txt f.un)] 45)) w.heap.size d fv qv) := hD0.below hB1
  have F : Hid (FdB (w0.alloc (.cells #[.string (txt f.nm), .int .i64 f.pl, .string (txt f.kd), .int .i64 f.wd, .int .i64 f.sn, .int .i64 f.sd, .int .i64 f.on, .int .i64 f.od, .string (txt f.un)] 45)) (w.heap.size + 1) f) := hF0
  have B : Hid (Below w.heap.size w (w0.alloc (.cells #[.string (txt f.nm), .int .i64 f.pl, .string (txt f.kd), .int .i64 f.wd, .int .i64 f.sn, .int .i64 f.sd, .int .i64 f.on, .int .i64 f.od, .string (txt f.un)] 45))) := hB0.trans (hB1.mono hB0.size)
  subst hw0
  have hi' : Hid (FdI f) := hi
  have hz' : Hid (I64 d.sz) := hz
  clear hD0 hB0 hs0 hF0 hB1 hi hz hfv
  obtain ⟨T, hT⟩ : ∃ T, fldE d.sz f = T := ⟨_, rfl⟩
  rw [hT]
  replace hT : Hid (fldE d.sz f = T) := hT
  go_enter Try.func13, Try.ntmps13
  go_wp2_with fail
  refine (must_any 6 _ _ _).mono ?_
  rintro e y1 ⟨p1, q1, rfl, m1, hb⟩
  have M1 : Hid (MuAt y1 p1 q1 (.func (.func 32) #[] #[.pointer (some ⟨w.heap.size + 1, 0, none⟩)]) 6) := m1
  have D1 : Hid (DevB y1 w.heap.size d fv qv) := D.out.below hb
  have F1 : Hid (FdB y1 (w.heap.size + 1) f) := F.out.below hb
  have B1 : Hid (Below w.heap.size w y1) := B.out.trans (hb.mono B.out.size)
  clear m1 hb D F B
  go_wp2_with fail
  refine (must_any 11 _ _ _).mono ?_
  rintro e y2 ⟨p2, q2, rfl, m2, hb⟩
  have M2 : Hid (MuAt y2 p2 q2 (.func (.func 34) #[] #[.pointer (some ⟨w.heap.size + 1, 0, none⟩), .pointer (some ⟨w.heap.size, 0, none⟩)]) 11) := m2
  have N1 : Hid (MuAt y2 p1 q1 (.func (.func 32) #[] #[.pointer (some ⟨w.heap.size + 1, 0, none⟩)]) 6) := M1.out.below hb
  have D2 : Hid (DevB y2 w.heap.size d fv qv) := D1.out.below hb
  have F2 : Hid (FdB y2 (w.heap.size + 1) f) := F1.out.below hb
  have B2 : Hid (Below w.heap.size w y2) := B1.out.trans (hb.mono B1.out.size)
  clear m2 hb D1 F1 B1 M1
  go_wp2_with fail
  refine (must_any 1 _ _ _).mono ?_
  rintro e y3 ⟨p3, q3, rfl, m3, hb⟩
  have M3 : Hid (MuAt y3 p3 q3 (.func (.func 36) #[] #[.pointer (some ⟨w.heap.size + 1, 0, none⟩)]) 1) := m3
  have O1 : Hid (MuAt y3 p1 q1 (.func (.func 32) #[] #[.pointer (some ⟨w.heap.size + 1, 0, none⟩)]) 6) := N1.out.below hb
  have O2 : Hid (MuAt y3 p2 q2 (.func (.func 34) #[] #[.pointer (some ⟨w.heap.size + 1, 0, none⟩), .pointer (some ⟨w.heap.size, 0, none⟩)]) 11) := M2.out.below hb
  have D3 : Hid (DevB y3 w.heap.size d fv qv) := D2.out.below hb
  have F3 : Hid (FdB y3 (w.heap.size + 1) f) := F2.out.below hb
  have B3 : Hid (Below w.heap.size w y3) := B2.out.trans (hb.mono B2.out.size)
  clear m3 hb D2 F2 B2 M2 N1
  go_wp2_with fail
  refine (must_any 4 _ _ _).mono ?_
  rintro e y4 ⟨p4, q4, rfl, m4, hb⟩
  have ak : Hid (Calls Try.prog 17 #[.slice (some ⟨y4.heap.size, 0, none⟩) 4 4] (y4.alloc (.cells #[muV p1 q1, muV p2 q2, muV p3 q3, muV p4 q4] 56)) fun e z => e = .returned (.int .i64 (fldE d.sz f)) ∧ Below y4.heap.size y4 z) :=
    field_ask hi'.out hz'.out (F3.out.below hb) (D3.out.below hb) (O1.out.below hb) (O2.out.below hb) (M3.out.below hb) m4 _
  have B4 : Hid (Below w.heap.size w y4) := B3.out.trans (hb.mono B3.out.size)
  clear m4 hb D3 F3 B3 M3 O1 O2 hi' hz'
  rw [hT.out] at ak
  clear hT
  go_wp2_with fail
  refine ak.out.mono ?_
  rintro e z ⟨rfl, hb⟩
  have B5 : Hid (Below w.heap.size w z) := B4.out.trans (hb.mono B4.out.size)
  clear hb ak B4
  go_wp2
  go_ret
  exact ⟨rfl, B5.out⟩
end Go.Proofs.Ytllkkgcfhphgmaa
