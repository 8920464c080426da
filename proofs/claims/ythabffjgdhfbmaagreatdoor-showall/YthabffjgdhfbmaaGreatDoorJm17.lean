/-
  Texts that belong together, one behind the other: SnD, SnE, SnF0, SnF, SnG. Conditions: as each says.
-/
import Derived.BigQuiet
import Derived.ChangeOld
import Derived.Laws.BitsAllLaws
import Derived.Laws.OwnMore
import Derived.Laws.Shifts
import Derived.Lib.QuietBelow
import Derived.OpenShut
import Derived.ProofKit
import Derived.ShutString
import Derived.Test.YthabffjgdhfbmaaGreatDoorJm1
import Derived.Test.YthabffjgdhfbmaaGreatDoorJm2
import Derived.Test.YthabffjgdhfbmaaGreatDoorJm3
import Derived.Test.YthabffjgdhfbmaaGreatDoorJm8
import Derived.Test.YthabffjgdhfbmaaGreatDoorJm9
import Derived.Test.YthabffjgdhfbmaaGreatDoorJm10
import Derived.Test.YthabffjgdhfbmaaGreatDoorJm13
import Derived.Test.YthabffjgdhfbmaaGreatDoorJm14
import Derived.Test.YthabffjgdhfbmaaGreatDoorJm15
import Derived.Test.YthabffjgdhfbmaaGreatDoorJm16
set_option maxRecDepth 100000
set_option maxHeartbeats 32000000
set_option linter.unusedVariables false
namespace Go.Proofs.YthabffjgdhfbmaaGreatDoor
open Go.RowKit
structure FdI (f:Fd):Prop where
 nm:(f.nm.length:Int)≤5000
 pl:I64 f.pl
 wd:I64 f.wd
 sn:I64 f.sn
 sd:I64 f.sd
 on:I64 f.on
 od:I64 f.od
theorem txt_sz (z:Wd) (h:(z.length:Int)≤5000):((txt z).size:Int)≤5000:=by rw [txt_size]; exact h
theorem same_b {f:FuncId} {args:Array Value} {x:World} {v:Value} (h:Calls Tryz.prog f args x fun e w'=>e=.returned v∧w'=x):Calls Tryz.prog f args x fun e w'=>e=.returned v∧Below x.heap.size x w':=
 h.mono fun _ _ ⟨a,b⟩=>⟨a,by rw [b]; exact Below.refl _ _⟩
theorem fc1_any (a:Nat) (f:Fd) (hi:FdI f) (w:World) (hF:FdB w a f):Calls Tryz.prog 110 #[.pointer (some ⟨a,0,none⟩)] w (BA w (gdK f)):=by
 have nc:Hid (∀ x,Calls Tryz.prog 46 #[.string (txt f.nm)] x fun e w'=>e=.returned (.bool (nameB f.nm))∧Below x.heap.size x w'):=fun x=>HM (txt f.nm) x (txt_sz _ hi.nm)
 have rc:Hid (∀ x,Calls Tryz.prog 111 #[.string (txt f.kd),.int .i64 f.wd] x fun e w'=>e=.returned (.bool (rgtB (kindI (txt f.kd)) f.wd))∧Below x.heap.size x w'):=fun x=>same_b (pright_any (txt f.kd) f.wd x hi.wd)
 have hG:gdK f=(nameB f.nm && rgtB (kindI (txt f.kd)) f.wd):=rfl;rw [hG];clear hG hi;replace hF:Hid (FdB w a f):=hF;obtain ⟨c0,c1,c2,c3,_⟩:=hF.out.cells;clear c1;generalize nameB f.nm=A at *;generalize rgtB (kindI (txt f.kd)) f.wd=B at *
 go_enter Tryz.func110,Tryz.ntmps110
 go_wp2_with fail
 refine (nc.out w).mono ?_;rintro e y ⟨rfl,hb⟩;have B1:Hid (Below w.heap.size w y):=hb;clear hb nc c0 c2 c3
 cases A
 · clear rc;go_wp2;go_ret;exact ⟨rfl,B1.out⟩
 · obtain ⟨_,_,k2,k3,_⟩:=(hF.out.below B1.out).cells
   go_wp2_with fail
   refine (rc.out y).mono ?_;rintro e y2 ⟨rfl,hb⟩;have B2:Hid (Below w.heap.size w y2):=B1.out.trans (hb.mono B1.out.size);clear hb rc k2 k3;go_wp2;go_ret;exact ⟨rfl,B2.out⟩
theorem fc2_any (a b:Nat) (f:Fd) (d:Dv) (fv qv:Value) (hz:I64 d.sz) (w:World) (hF:FdB w a f) (hD:DevB w b d fv qv):Calls Tryz.prog 112 #[.pointer (some ⟨a,0,none⟩),.pointer (some ⟨b,0,none⟩)] w (BA w (gdP d.sz f)):=by
 have ic:Hid (∀ x,Calls Tryz.prog 113 #[fdV f,.int .i64 d.sz] x fun e w'=>e=.returned (.bool (gdP d.sz f))∧Below x.heap.size x w'):=fun x=>inside_any d.sz f x hz
 obtain ⟨c0,c1,c2,c3,c4,c5,c6,c7,c8⟩:=hF.cells;have z4:=hD.c 4 _ rfl;clear hF hD hz;generalize gdP d.sz f=T at *;generalize d.sz=sz at *;obtain ⟨fm,pl,kd,wd,sn,sd,on,od,un⟩:=f;simp only at c0 c1 c2 c3 c4 c5 c6 c7 c8;replace ic:Hid (∀ x,Calls Tryz.prog 113 #[.agg #[.string (txt fm),.int .i64 pl,.string (txt kd),.int .i64 wd,.int .i64 sn,.int .i64 sd,.int .i64 on,.int .i64 od,.string (txt un)],.int .i64 sz] x fun e w'=>e=.returned (.bool T)∧Below x.heap.size x w'):=ic
 go_enter Tryz.func112,Tryz.ntmps112
 go_wp2_with fail
 refine (ic.out w).mono ?_;rintro e y ⟨rfl,hb⟩;have B1:Hid (Below w.heap.size w y):=hb;clear hb ic c0 c1 c2 c3 c4 c5 c6 c7 c8 z4;go_wp2;go_ret;exact ⟨rfl,B1.out⟩
theorem fc3_any (a:Nat) (f:Fd) (hi:FdI f) (w:World) (hF:FdB w a f):Calls Tryz.prog 114 #[.pointer (some ⟨a,0,none⟩)] w (BA w (gdR f)):=by
 have r1:Hid (∀ x,Calls Tryz.prog 115 #[rv f.sn f.sd] x fun e w'=>e=.returned (.bool (rightB f.sn f.sd))∧Below x.heap.size x w'):=fun x=>right_any f.sn f.sd x hi.sn hi.sd
 have r2:Hid (∀ x,Calls Tryz.prog 115 #[rv f.on f.od] x fun e w'=>e=.returned (.bool (rightB f.on f.od))∧Below x.heap.size x w'):=fun x=>right_any f.on f.od x hi.on hi.od
 have hG:gdR f=(rightB f.sn f.sd && rightB f.on f.od):=rfl;rw [hG];clear hG hi;replace hF:Hid (FdB w a f):=hF;obtain ⟨_,_,_,_,c4,c5,_⟩:=hF.out.cells;generalize rightB f.sn f.sd=A at *;generalize rightB f.on f.od=B at *
 go_enter Tryz.func114,Tryz.ntmps114
 go_wp2_with fail
 refine (r1.out w).mono ?_;rintro e y ⟨rfl,hb⟩;have B1:Hid (Below w.heap.size w y):=hb;clear hb r1 c4 c5
 cases A
 · clear r2;go_wp2;go_ret;exact ⟨rfl,B1.out⟩
 · obtain ⟨_,_,_,_,_,_,k6,k7,_⟩:=(hF.out.below B1.out).cells
   go_wp2_with fail
   refine (r2.out y).mono ?_;rintro e y2 ⟨rfl,hb⟩;have B2:Hid (Below w.heap.size w y2):=B1.out.trans (hb.mono B1.out.size);clear hb r2 k6 k7;go_wp2;go_ret;exact ⟨rfl,B2.out⟩
theorem fc4_any (a:Nat) (f:Fd) (w:World) (hF:FdB w a f):Calls Tryz.prog 116 #[.pointer (some ⟨a,0,none⟩)] w (BA w (gdU f)):=by
 have mc:Hid (∀ x,Calls Tryz.prog 117 #[.string (txt f.un)] x fun e w'=>e=.returned (.bool (gdU f))∧Below x.heap.size x w'):=fun x=>measured_any (txt f.un) x
 have c8:=hF.c 8 _ rfl;clear hF;generalize gdU f=A at *
 go_enter Tryz.func116,Tryz.ntmps116
 go_wp2_with fail
 refine (mc.out w).mono ?_;rintro e y ⟨rfl,hb⟩;have B1:Hid (Below w.heap.size w y):=hb;clear hb mc c8;go_wp2;go_ret;exact ⟨rfl,B1.out⟩
abbrev muV (p q:Nat):Value:=.func (.func 78) #[] #[.pointer (some ⟨p,0,none⟩),.pointer (some ⟨q,0,none⟩)]
theorem qf1 {w:World} {a p q:Nat} {f:Fd} (hi:FdI f) (hF:FdB w a f) (hm:MuAt w p q (.func (.func 110) #[] #[.pointer (some ⟨a,0,none⟩)]) 6):Ques w (muV p q) (orE (gdK f) 6):=
 .inl ⟨p,q,rfl,fun x hx=>must1_4 a p q 6 _ x (hm.below hx) (fc1_any a f hi x (hF.below hx))⟩
theorem qf2 {w:World} {a b p q:Nat} {f:Fd} {d:Dv} {fv qv:Value} (hz:I64 d.sz) (hF:FdB w a f) (hD:DevB w b d fv qv) (hm:MuAt w p q (.func (.func 112) #[] #[.pointer (some ⟨a,0,none⟩),.pointer (some ⟨b,0,none⟩)]) 11):Ques w (muV p q) (orE (gdP d.sz f) 11):=
 .inl ⟨p,q,rfl,fun x hx=>must1_5 a b p q 11 _ x (hm.below hx) (fc2_any a b f d fv qv hz x (hF.below hx) (hD.below hx))⟩
theorem qf3 {w:World} {a p q:Nat} {f:Fd} (hi:FdI f) (hF:FdB w a f) (hm:MuAt w p q (.func (.func 114) #[] #[.pointer (some ⟨a,0,none⟩)]) 1):Ques w (muV p q) (orE (gdR f) 1):=
 .inl ⟨p,q,rfl,fun x hx=>must1_6 a p q 1 _ x (hm.below hx) (fc3_any a f hi x (hF.below hx))⟩
theorem qf4 {w:World} {a p q:Nat} {f:Fd} (hF:FdB w a f) (hm:MuAt w p q (.func (.func 116) #[] #[.pointer (some ⟨a,0,none⟩)]) 4):Ques w (muV p q) (orE (gdU f) 4):=
 .inl ⟨p,q,rfl,fun x hx=>must1_7 a p q 4 _ x (hm.below hx) (fc4_any a f x (hF.below hx))⟩
theorem field_ask {y:World} {a b p1 q1 p2 q2 p3 q3 p4 q4:Nat} {f:Fd} {d:Dv} {fv qv:Value} (hi:FdI f) (hz:I64 d.sz) (hF:FdB y a f) (hD:DevB y b d fv qv)
 (m1:MuAt y p1 q1 (.func (.func 110) #[] #[.pointer (some ⟨a,0,none⟩)]) 6) (m2:MuAt y p2 q2 (.func (.func 112) #[] #[.pointer (some ⟨a,0,none⟩),.pointer (some ⟨b,0,none⟩)]) 11)
 (m3:MuAt y p3 q3 (.func (.func 114) #[] #[.pointer (some ⟨a,0,none⟩)]) 1) (m4:MuAt y p4 q4 (.func (.func 116) #[] #[.pointer (some ⟨a,0,none⟩)]) 4) (T:TypeId) :
 Calls Tryz.prog 43 #[.slice (some ⟨y.heap.size,0,none⟩) 4 4] (y.alloc (.cells #[muV p1 q1,muV p2 q2,muV p3 q3,muV p4 q4] T)) fun e z=>e=.returned (.int .i64 (fldE d.sz f))∧Below y.heap.size y z:=by
 have hb:Below y.heap.size y (y.alloc (.cells #[muV p1 q1,muV p2 q2,muV p3 q3,muV p4 q4] T)):=(Below.refl _ _).alloc (Nat.le_refl _) _;refine (ask_any [muV p1 q1,muV p2 q2,muV p3 q3,muV p4 q4] (fldE d.sz f) y.heap.size 0 4 _ (QsIn.new y _ T) (by rw [World.size_alloc]; omega) ⟨[orE (gdK f) 6,orE (gdP d.sz f) 11,orE (gdR f) 1,orE (gdU f) 4],?_,rfl⟩ (by simp)).mono ?_
 · exact ⟨qf1 hi (hF.below hb) (m1.below hb),fun _=>⟨qf2 hz (hF.below hb) (hD.below hb) (m2.below hb),fun _=>⟨qf3 hi (hF.below hb) (m3.below hb),fun _=>⟨qf4 (hF.below hb) (m4.below hb),fun _=>trivial⟩⟩⟩⟩
 · rintro e z ⟨rfl,hz'⟩;exact ⟨rfl,hb.trans (hz'.mono hb.size)⟩
theorem field_any (d:Dv) (f:Fd) (fv qv:Value) (w:World) (hi:FdI f) (hz:I64 d.sz) (hfv:FldsV w fv d.fs):Calls Tryz.prog 83 #[dvV d fv qv,fdV f] w (QA w (fldE d.sz f)):=by
 have hmf:∀ (fn:Fn) (first cap:Array Value) (w:World),(Instr.makeFunc fn first cap).run Tryz.prog w=.ok (.func fn first cap) w:=fun _ _ _ _=>rfl
 have hD0:DevB _ _ _ _ _:=DevB.new (w:=w) (d:=d) (qv:=qv) hfv 33;have hB0:Below w.heap.size w (w.alloc (.cells #[.string (txt d.nm),.int .i64 d.st,.int .i64 d.es,.int .i64 d.mx,.int .i64 d.sz,.string (txt d.sm),fv,qv,.int .i64 d.po,.int .i64 d.ti,.int .i64 d.re,.int .i64 d.ag] 33)):=(Below.refl _ _).alloc (Nat.le_refl _) _;obtain ⟨w0,hw0⟩:∃ w0,w.alloc (.cells #[.string (txt d.nm),.int .i64 d.st,.int .i64 d.es,.int .i64 d.mx,.int .i64 d.sz,.string (txt d.sm),fv,qv,.int .i64 d.po,.int .i64 d.ti,.int .i64 d.re,.int .i64 d.ag] 33)=w0:=⟨_,rfl⟩;have hs0:w0.heap.size=w.heap.size + 1:=by rw [← hw0,World.size_alloc]
 have hF0:=FdB.new w0 f 70;have hB1:Below w0.heap.size w0 (w0.alloc (.cells #[.string (txt f.nm),.int .i64 f.pl,.string (txt f.kd),.int .i64 f.wd,.int .i64 f.sn,.int .i64 f.sd,.int .i64 f.on,.int .i64 f.od,.string (txt f.un)] 70)):=(Below.refl _ _).alloc (Nat.le_refl _) _;rw [hw0] at hD0 hB0;rw [hs0] at hF0;have D:Hid (DevB (w0.alloc (.cells #[.string (txt f.nm),.int .i64 f.pl,.string (txt f.kd),.int .i64 f.wd,.int .i64 f.sn,.int .i64 f.sd,.int .i64 f.on,.int .i64 f.od,.string (txt f.un)] 70)) w.heap.size d fv qv):=hD0.below hB1;have F:Hid (FdB (w0.alloc (.cells #[.string (txt f.nm),.int .i64 f.pl,.string (txt f.kd),.int .i64 f.wd,.int .i64 f.sn,.int .i64 f.sd,.int .i64 f.on,.int .i64 f.od,.string (txt f.un)] 70)) (w.heap.size + 1) f):=hF0;have B:Hid (Below w.heap.size w (w0.alloc (.cells #[.string (txt f.nm),.int .i64 f.pl,.string (txt f.kd),.int .i64 f.wd,.int .i64 f.sn,.int .i64 f.sd,.int .i64 f.on,.int .i64 f.od,.string (txt f.un)] 70))):=hB0.trans (hB1.mono hB0.size);subst hw0;have hi':Hid (FdI f):=hi;have hz':Hid (I64 d.sz):=hz;clear hD0 hB0 hs0 hF0 hB1 hi hz hfv;obtain ⟨T,hT⟩:∃ T,fldE d.sz f=T:=⟨_,rfl⟩;rw [hT];replace hT:Hid (fldE d.sz f=T):=hT
 go_enter Tryz.func83,Tryz.ntmps83
 go_wp2_with fail
 refine (must_any 6 _ _ _).mono ?_;rintro e y1 ⟨p1,q1,rfl,m1,hb⟩;have M1:Hid (MuAt y1 p1 q1 (.func (.func 110) #[] #[.pointer (some ⟨w.heap.size + 1,0,none⟩)]) 6):=m1;have D1:Hid (DevB y1 w.heap.size d fv qv):=D.out.below hb;have F1:Hid (FdB y1 (w.heap.size + 1) f):=F.out.below hb;have B1:Hid (Below w.heap.size w y1):=B.out.trans (hb.mono B.out.size);clear m1 hb D F B
 go_wp2_with fail
 refine (must_any 11 _ _ _).mono ?_;rintro e y2 ⟨p2,q2,rfl,m2,hb⟩;have M2:Hid (MuAt y2 p2 q2 (.func (.func 112) #[] #[.pointer (some ⟨w.heap.size + 1,0,none⟩),.pointer (some ⟨w.heap.size,0,none⟩)]) 11):=m2;have N1:Hid (MuAt y2 p1 q1 (.func (.func 110) #[] #[.pointer (some ⟨w.heap.size + 1,0,none⟩)]) 6):=M1.out.below hb;have D2:Hid (DevB y2 w.heap.size d fv qv):=D1.out.below hb;have F2:Hid (FdB y2 (w.heap.size + 1) f):=F1.out.below hb;have B2:Hid (Below w.heap.size w y2):=B1.out.trans (hb.mono B1.out.size);clear m2 hb D1 F1 B1 M1
 go_wp2_with fail
 refine (must_any 1 _ _ _).mono ?_;rintro e y3 ⟨p3,q3,rfl,m3,hb⟩;have M3:Hid (MuAt y3 p3 q3 (.func (.func 114) #[] #[.pointer (some ⟨w.heap.size + 1,0,none⟩)]) 1):=m3;have O1:Hid (MuAt y3 p1 q1 (.func (.func 110) #[] #[.pointer (some ⟨w.heap.size + 1,0,none⟩)]) 6):=N1.out.below hb;have O2:Hid (MuAt y3 p2 q2 (.func (.func 112) #[] #[.pointer (some ⟨w.heap.size + 1,0,none⟩),.pointer (some ⟨w.heap.size,0,none⟩)]) 11):=M2.out.below hb;have D3:Hid (DevB y3 w.heap.size d fv qv):=D2.out.below hb;have F3:Hid (FdB y3 (w.heap.size + 1) f):=F2.out.below hb;have B3:Hid (Below w.heap.size w y3):=B2.out.trans (hb.mono B2.out.size);clear m3 hb D2 F2 B2 M2 N1
 go_wp2_with fail
 refine (must_any 4 _ _ _).mono ?_;rintro e y4 ⟨p4,q4,rfl,m4,hb⟩;have ak:Hid (Calls Tryz.prog 43 #[.slice (some ⟨y4.heap.size,0,none⟩) 4 4] (y4.alloc (.cells #[muV p1 q1,muV p2 q2,muV p3 q3,muV p4 q4] 100)) fun e z=>e=.returned (.int .i64 (fldE d.sz f))∧Below y4.heap.size y4 z):=
  field_ask hi'.out hz'.out (F3.out.below hb) (D3.out.below hb) (O1.out.below hb) (O2.out.below hb) (M3.out.below hb) m4 _
 have B4:Hid (Below w.heap.size w y4):=B3.out.trans (hb.mono B3.out.size);clear m4 hb D3 F3 B3 M3 O1 O2 hi' hz';rw [hT.out] at ak;clear hT
 go_wp2_with fail
 refine ak.out.mono ?_;rintro e z ⟨rfl,hb⟩;have B5:Hid (Below w.heap.size w z):=B4.out.trans (hb.mono B4.out.size);clear hb ak B4;go_wp2;go_ret;exact ⟨rfl,B5.out⟩
theorem fs1_any (b a:Nat) (d:Dv) (f:Fd) (fv qv:Value) (hi:FdI f) (hz:I64 d.sz) (w:World) (hD:DevB w b d fv qv) (hF:FdB w a f) :
 Calls Tryz.prog 82 #[.pointer (some ⟨b,0,none⟩),.pointer (some ⟨a,0,none⟩)] w (QA w (fldE d.sz f)):=by
 have fc:Hid (Calls Tryz.prog 83 #[dvV d fv qv,fdV f] w (QA w (fldE d.sz f))):=field_any d f fv qv w hi hz hD.fl;obtain ⟨pf,cf,rfl⟩:=hD.fl.form;obtain ⟨z0,z1,z2,z3,z4,z5,z6,z7,z8,z9,z10,z11⟩:=hD.cells;obtain ⟨c0,c1,c2,c3,c4,c5,c6,c7,c8⟩:=hF.cells;clear hD hF hi hz;generalize fldE d.sz f=T at *;obtain ⟨dn,dst,des,dmx,dsz,dsm,dfs,drq,dpo,dti,dre,dag⟩:=d;obtain ⟨fm,pl,kd,wd,sn,sd,on,od,un⟩:=f;simp only at z0 z1 z2 z3 z4 z5 z6 z7 z8 z9 z10 z11 c0 c1 c2 c3 c4 c5 c6 c7 c8
 go_enter Tryz.func82,Tryz.ntmps82
 go_wp2_with fail
 refine fc.out.mono ?_;rintro e y ⟨rfl,hb⟩;have B1:Hid (Below w.heap.size w y):=hb;clear hb fc z0 z1 z2 z3 z4 z5 z6 z7 z8 z9 z10 z11 c0 c1 c2 c3 c4 c5 c6 c7 c8;go_wp2;go_ret;exact ⟨rfl,B1.out⟩
theorem fs2_any (b c a k:Nat) (d:Dv) (f:Fd) (fv qv:Value) (hk:k < d.fs.length) (hl:(d.fs.length:Int)≤100) (w:World) (hD:DevB w b d fv qv) (hF:FdB w a f) (hc:w.cell? ⟨c,0,none⟩=some (.int .i64 (k:Int))) :
 Calls Tryz.prog 84 #[.pointer (some ⟨b,0,none⟩),.pointer (some ⟨c,0,none⟩),.pointer (some ⟨a,0,none⟩)] w (BA w (!decide (f.nm ∈ (d.fs.take k).map (·.nm)))):=by
 have z6:=hD.c 6 _ rfl;have c0:=hF.c 0 _ rfl;have fl:=hD.fl;rcases fl with ⟨_,_,_,e⟩ | ⟨g,o,cap,rfl,hcap,hin,hg⟩
 · rw [e] at hk; cases hk
 · have hlen:(d.fs.take k).length=k:=by rw [List.length_take]; omega
   have nv:FldsV w (.slice (some ⟨g,o,none⟩) k cap) (d.fs.take k):=.inr ⟨g,o,cap,by rw [hlen],by omega,hin.take k,hg⟩;have nc:Hid (∀ dr os,Calls Tryz.prog 85 #[.slice (some ⟨g,o,none⟩) k cap,.string (txt f.nm)] (Sort.grow (redrawn w dr) os) fun e w'=>e=.returned (.bool (decide (f.nm ∈ (d.fs.take k).map (·.nm))))∧Below (Sort.grow (redrawn w dr) os).heap.size (Sort.grow (redrawn w dr) os) w'):=fun dr os=>named_any f.nm _ (d.fs.take k) _ (nv.below (below_regrown w dr os)) (by rw [hlen]; omega)
   have k1:=fun dr os=>cell_regrown z6 dr os
   have k2:=fun dr os=>cell_regrown hc dr os
   have k3:=fun dr os=>cell_regrown c0 dr os
   have hk1:(k:Int)≤(cap:Int):=by omega
   have hk2:(k:Int)≤100:=by omega
   clear z6 c0 hc nv hin hg hD hF hlen;generalize decide (f.nm ∈ (d.fs.take k).map (·.nm))=T at *;generalize txt f.nm=S at *;generalize d.fs.length=len at *
   go_enter Tryz.func84,Tryz.ntmps84
   go_wp2_with fail
   refine wp_region_quiet_below (by kernel_rfl) (by kernel_rfl) ?_
   repeat (go_big_quiet_step (first
    | (go_at_call 85; with_reducible exact Calls.regrown_of (nc.out _ _))))
   refine wpQuiet_nil ?_;intro _ hw';obtain ⟨⟨dq,osq⟩,hw''⟩:=hw';subst hw'';have B:Hid (Below w.heap.size w (Sort.grow (redrawn w dq) osq)):=below_regrown w dq osq;clear k1 k2 k3 nc;go_wp2;go_ret;exact ⟨rfl,B.out⟩
abbrev fsV (b a:Nat):Value:=.func (.func 82) #[] #[.pointer (some ⟨b,0,none⟩),.pointer (some ⟨a,0,none⟩)]
theorem fields_ask {y:World} {a b c k p q:Nat} {f:Fd} {d:Dv} {fv qv:Value} (hi:FdI f) (hz:I64 d.sz) (hk:k < d.fs.length) (hl:(d.fs.length:Int)≤100) (hF:FdB y a f) (hD:DevB y b d fv qv) (hc:y.cell? ⟨c,0,none⟩=some (.int .i64 (k:Int)))
 (m:MuAt y p q (.func (.func 84) #[] #[.pointer (some ⟨b,0,none⟩),.pointer (some ⟨c,0,none⟩),.pointer (some ⟨a,0,none⟩)]) 8) (T:TypeId) :
 Calls Tryz.prog 43 #[.slice (some ⟨y.heap.size,0,none⟩) 2 2] (y.alloc (.cells #[fsV b a,muV p q] T)) fun e z=>e=.returned (.int .i64 (firstE [fldE d.sz f,orE (!decide (f.nm ∈ (d.fs.take k).map (·.nm))) 8]))∧Below y.heap.size y z:=by
 have hb:Below y.heap.size y (y.alloc (.cells #[fsV b a,muV p q] T)):=(Below.refl _ _).alloc (Nat.le_refl _) _;have hcx:∀ x,Below y.heap.size y x→x.cell? ⟨c,0,none⟩=some (.int .i64 (k:Int)):=fun x hx=>(hx.cell (p:=⟨c,0,none⟩) (block_lt_of_cell hc)).trans hc
 refine (ask_any [fsV b a,muV p q] (firstE [fldE d.sz f,orE (!decide (f.nm ∈ (d.fs.take k).map (·.nm))) 8]) y.heap.size 0 2 _ (QsIn.new y _ T) (by rw [World.size_alloc]; omega) ⟨[fldE d.sz f,orE (!decide (f.nm ∈ (d.fs.take k).map (·.nm))) 8],?_,rfl⟩ (by simp)).mono ?_
 · refine ⟨.inr (.inr ⟨b,a,rfl,fun x hx=>?_⟩),fun _=>⟨.inl ⟨p,q,rfl,fun x hx=>?_⟩,fun _=>trivial⟩⟩
   · have hx':=hb.trans (hx.mono hb.size);exact fs1_any b a d f fv qv hi hz x (hD.below hx') (hF.below hx')
   · have hx':=hb.trans (hx.mono hb.size);exact must1_8 b c a p q 8 _ x (m.below hx') (fs2_any b c a k d f fv qv hk hl x (hD.below hx') (hF.below hx') (hcx x hx'))
 · rintro e z ⟨rfl,hz'⟩;exact ⟨rfl,hb.trans (hz'.mono hb.size)⟩
def FsI (sz:Int) (seen:List Wd) (l:List Fd) (T:Int):Prop:=fldsE sz seen l=T
theorem FsI.fin {sz:Int} {seen:List Wd} {T:Int} (h:FsI sz seen [] T):0=T:=h
theorem FsI.bad {sz:Int} {seen:List Wd} {f:Fd} {l:List Fd} {T:Int} (h:FsI sz seen (f :: l) T) (h0:¬ firstE [fldE sz f,orE (!decide (f.nm ∈ seen)) 8]=0):firstE [fldE sz f,orE (!decide (f.nm ∈ seen)) 8]=T:=by
 unfold FsI at h; rw [fldsE,if_neg h0] at h; exact h
theorem FsI.next {sz:Int} {seen:List Wd} {f:Fd} {l:List Fd} {T:Int} (h:FsI sz seen (f :: l) T) (h0:firstE [fldE sz f,orE (!decide (f.nm ∈ seen)) 8]=0):FsI sz (seen ++ [f.nm]) l T:=by
 unfold FsI at *; rw [fldsE,if_pos h0] at h; exact h
theorem snfields_any (d:Dv) (fv qv:Value) (w:World) (hi:∀ f ∈ d.fs,FdI f) (hz:I64 d.sz) (hl:(d.fs.length:Int)≤100) (hfv:FldsV w fv d.fs):Calls Tryz.prog 54 #[dvV d fv qv] w (QA w (fldsE d.sz [] d.fs)):=by
 have hmf:∀ (fn:Fn) (first cap:Array Value) (w:World),(Instr.makeFunc fn first cap).run Tryz.prog w=.ok (.func fn first cap) w:=fun _ _ _ _=>rfl
 have D0:Hid (DevB (w.alloc (.cells #[.string (txt d.nm),.int .i64 d.st,.int .i64 d.es,.int .i64 d.mx,.int .i64 d.sz,.string (txt d.sm),fv,qv,.int .i64 d.po,.int .i64 d.ti,.int .i64 d.re,.int .i64 d.ag] 33)) w.heap.size d fv qv):=DevB.new hfv _;have B0:Hid (Below w.heap.size w (w.alloc (.cells #[.string (txt d.nm),.int .i64 d.st,.int .i64 d.es,.int .i64 d.mx,.int .i64 d.sz,.string (txt d.sm),fv,qv,.int .i64 d.po,.int .i64 d.ti,.int .i64 d.re,.int .i64 d.ag] 33))):=(Below.refl _ _).alloc (Nat.le_refl _) _;have hi':Hid (∀ f ∈ d.fs,FdI f):=hi;have hz':Hid (I64 d.sz):=hz;have I0:Hid (FsI d.sz ((d.fs.take 0).map (·.nm)) (d.fs.drop 0) (fldsE d.sz [] d.fs)):=rfl;generalize fldsE d.sz [] d.fs=T at *;obtain ⟨pv,cap,rfl⟩:=hfv.form;clear hi hz hfv;have hl':Hid ((d.fs.length:Int)≤100):=hl;obtain ⟨len,hlen⟩:∃ len,d.fs.length=len:=⟨_,rfl⟩;rw [hlen] at hl D0 B0 ⊢;replace hlen:Hid (d.fs.length=len):=hlen
 go_enter Tryz.func54,Tryz.ntmps54
 go_wp2
 go_loopw [9] (fun vi wr=>∃ k:Nat,(k:Int)≤(len:Int)∧vi=.int .i64 (k:Int)∧Hid (FsI d.sz ((d.fs.take k).map (·.nm)) (d.fs.drop k) T)∧Hid (DevB wr w.heap.size d (.slice pv len cap) qv)∧Hid (Below w.heap.size w wr)) (fun vi _=>len - (intOf vi).toNat)
 case atStart=>exact ⟨0,by omega,rfl,I0,D0,B0⟩
 case round=>
  obtain ⟨k,hk,rfl,lf,D,B⟩:=hrel;clear I0 D0 B0
  by_cases hlt:(k:Int) < (len:Int)
  · have hkl:k < d.fs.length:=by have:=hlen.out; omega
    have fl:=D.out.fl;rcases fl with ⟨_,_,_,e⟩ | ⟨g,o,cap',e,_,hin,_⟩
    · rw [e] at hkl; cases hkl
    · injection e with e1 e2 e3
      subst e1;have lq:=lf.out;rw [List.drop_eq_getElem_cons hkl] at lq;have tk:d.fs.take (k + 1)=d.fs.take k ++ [d.fs[k]]:=by rw [List.take_append_getElem]
      obtain ⟨f,hf⟩:∃ f,d.fs[k]=f:=⟨_,rfl⟩;obtain ⟨c0,c1,c2,c3,c4,c5,c6,c7,c8⟩:=hin.cells hkl hf;have fi:Hid (FdI f):=hi'.out f (by rw [← hf]; exact List.getElem_mem hkl);rw [hf] at lq tk;replace lq:Hid (FsI d.sz ((d.fs.take k).map (·.nm)) (f :: d.fs.drop (k + 1)) T):=lq;replace tk:Hid (d.fs.take (k + 1)=d.fs.take k ++ [f]):=tk;have hb1:Below wr.heap.size wr (wr.alloc (.cells #[.int .i64 (k:Int)] 3)):=(Below.refl _ _).alloc (Nat.le_refl _) _;obtain ⟨w1,hw1⟩:∃ w1,wr.alloc (.cells #[.int .i64 (k:Int)] 3)=w1:=⟨_,rfl⟩;have cK1:w1.cell? ⟨wr.heap.size,0,none⟩=some (.int .i64 (k:Int)):=by rw [← hw1]; simp
      have s1:w1.heap.size=wr.heap.size + 1:=by rw [← hw1,World.size_alloc]
      rw [hw1] at hb1;have hb2:Below w1.heap.size w1 (w1.alloc (.cells #[.string (txt f.nm),.int .i64 f.pl,.string (txt f.kd),.int .i64 f.wd,.int .i64 f.sn,.int .i64 f.sd,.int .i64 f.on,.int .i64 f.od,.string (txt f.un)] 70)):=(Below.refl _ _).alloc (Nat.le_refl _) _;have F1:=FdB.new w1 f 70;rw [s1] at F1;have hb3:=hb1.trans (hb2.mono hb1.size);have D1:Hid (DevB (w1.alloc (.cells #[.string (txt f.nm),.int .i64 f.pl,.string (txt f.kd),.int .i64 f.wd,.int .i64 f.sn,.int .i64 f.sd,.int .i64 f.on,.int .i64 f.od,.string (txt f.un)] 70)) w.heap.size d (.slice (some ⟨g,o,none⟩) len cap) qv):=D.out.below hb3;have B1:Hid (Below w.heap.size w (w1.alloc (.cells #[.string (txt f.nm),.int .i64 f.pl,.string (txt f.kd),.int .i64 f.wd,.int .i64 f.sn,.int .i64 f.sd,.int .i64 f.on,.int .i64 f.od,.string (txt f.un)] 70))):=B.out.trans (hb3.mono B.out.size);have K1:Hid ((w1.alloc (.cells #[.string (txt f.nm),.int .i64 f.pl,.string (txt f.kd),.int .i64 f.wd,.int .i64 f.sn,.int .i64 f.sd,.int .i64 f.on,.int .i64 f.od,.string (txt f.un)] 70)).cell? ⟨wr.heap.size,0,none⟩=some (.int .i64 (k:Int))):=(hb2.cell (p:=⟨wr.heap.size,0,none⟩) (block_lt_of_cell cK1)).trans cK1;replace F1:Hid (FdB (w1.alloc (.cells #[.string (txt f.nm),.int .i64 f.pl,.string (txt f.kd),.int .i64 f.wd,.int .i64 f.sn,.int .i64 f.sd,.int .i64 f.on,.int .i64 f.od,.string (txt f.un)] 70)) (wr.heap.size + 1) f):=F1;subst hw1;have hkl':Hid (k < d.fs.length):=hkl;clear hb1 hb2 hb3 s1 cK1 lf hin hf e2 e3 D B hkl
      go_wp2_with fail
      refine (must_any 8 _ _ _).mono ?_;rintro e y ⟨p,q,rfl,m,hb⟩;have ak:Hid (Calls Tryz.prog 43 #[.slice (some ⟨y.heap.size,0,none⟩) 2 2] (y.alloc (.cells #[fsV w.heap.size (wr.heap.size + 1),muV p q] 100)) fun e z=>e=.returned (.int .i64 (firstE [fldE d.sz f,orE (!decide (f.nm ∈ (d.fs.take k).map (·.nm))) 8]))∧Below y.heap.size y z):=
       fields_ask fi.out hz'.out hkl'.out hl'.out (F1.out.below hb) (D1.out.below hb) ((hb.cell (p:=⟨wr.heap.size,0,none⟩) (block_lt_of_cell K1.out)).trans K1.out) m _
      have D2:Hid (DevB y w.heap.size d (.slice (some ⟨g,o,none⟩) len cap) qv):=D1.out.below hb;have B2:Hid (Below w.heap.size w y):=B1.out.trans (hb.mono B1.out.size);clear m hb D1 B1 F1 K1 c0 c1 c2 c3 c4 c5 c6 c7 c8 fi hkl';obtain ⟨E,hE⟩:∃ E,firstE [fldE d.sz f,orE (!decide (f.nm ∈ (d.fs.take k).map (·.nm))) 8]=E:=⟨_,rfl⟩;rw [hE] at ak;replace hE:Hid (firstE [fldE d.sz f,orE (!decide (f.nm ∈ (d.fs.take k).map (·.nm))) 8]=E):=hE
      go_wp2_with fail
      refine ak.out.mono ?_;rintro e z ⟨rfl,hb⟩;have D3:Hid (DevB z w.heap.size d (.slice (some ⟨g,o,none⟩) len cap) qv):=D2.out.below hb;have B3:Hid (Below w.heap.size w z):=B2.out.trans (hb.mono B2.out.size);clear hb ak D2 B2
      by_cases h0:E=0
      · subst h0;have nx:Hid (FsI d.sz ((d.fs.take (k + 1)).map (·.nm)) (d.fs.drop (k + 1)) T):=by
         have k1:=lq.out.next hE.out;rw [tk.out,List.map_append];exact k1
        clear lq tk hE;go_wp2;exact ⟨⟨k + 1,by omega,by simp,nx,D3,B3⟩,by simp [intOf]; omega⟩
      · have hne:(E != 0)=true:=by simpa using h0
        have fin:Hid (E=T):=by
         have k1:=lq.out.bad (by rw [hE.out]; exact h0);rw [hE.out] at k1;exact k1
        clear lq tk hE;go_wp2;go_ret;exact ⟨ret_int fin.out,B3.out⟩
  · obtain rfl:k=len:=by omega
    have fin:Hid (0=T):=by
     have lq:=lf.out;rw [List.drop_of_length_le (by have:=hlen.out; omega)] at lq;exact lq.fin
    clear lf D;go_wp2;go_ret;exact ⟨ret_int fin.out,B.out⟩
theorem ints_new (w:World) (ns:List Int) (l:List Value) (hl:l=ns.map fun n=>.int .i64 n) (T:TypeId):IntsIn (w.alloc (.cells l.toArray T)) w.heap.size 0 ns:=fun j h=>by
 rw [Nat.zero_add];refine cells_new w l T j _ ?_;rw [hl,List.getElem?_map,List.getElem?_eq_getElem h]; rfl
theorem within_new1 (lo hi a:Int) (w:World) (T:TypeId):Calls Tryz.prog 79 #[.int .i64 lo,.int .i64 hi,.slice (some ⟨w.heap.size,0,none⟩) 1 1] (w.alloc (.cells #[.int .i64 a] T)) fun e y=>e=.returned (.bool (inB lo hi a))∧Below w.heap.size w y:=by
 refine (within_any lo hi [a] w.heap.size 0 1 _ (ints_new w [a] _ rfl T) (by simp)).mono ?_;rintro e y ⟨rfl,rfl⟩;exact ⟨ret_bool (by simp),(Below.refl _ _).alloc (Nat.le_refl _) _⟩
theorem within_new3 (lo hi a b c:Int) (w:World) (T:TypeId):Calls Tryz.prog 79 #[.int .i64 lo,.int .i64 hi,.slice (some ⟨w.heap.size,0,none⟩) 3 3] (w.alloc (.cells #[.int .i64 a,.int .i64 b,.int .i64 c] T)) fun e y=>e=.returned (.bool (inB lo hi a && (inB lo hi b && inB lo hi c)))∧Below w.heap.size w y:=by
 refine (within_any lo hi [a,b,c] w.heap.size 0 3 _ (ints_new w [a,b,c] _ rfl T) (by simp)).mono ?_;rintro e y ⟨rfl,rfl⟩;exact ⟨ret_bool (by simp),(Below.refl _ _).alloc (Nat.le_refl _) _⟩
theorem contains_new3 (n a b c:Int) (w:World) (T:TypeId):Calls Tryz.prog 81 #[.slice (some ⟨w.heap.size,0,none⟩) 3 3,.int .i64 n] (w.alloc (.cells #[.int .i64 a,.int .i64 b,.int .i64 c] T)) fun e y=>e=.returned (.bool (decide (n=a) || (decide (n=b) || decide (n=c))))∧Below w.heap.size w y:=by
 refine (contains_any n [a,b,c] w.heap.size 0 3 _ (ints_new w [a,b,c] _ rfl T) (by simp)).mono ?_;rintro e y ⟨rfl,rfl⟩;exact ⟨ret_bool (by simp),(Below.refl _ _).alloc (Nat.le_refl _) _⟩
theorem numbered_any (d:Dv) (pf pq:Option Addr) (nf cf nq cq:Nat) (w:World) (hf:d.fs.length=nf) (hq:d.rq.length=nq) (hfv:FldsV w (.slice pf nf cf) d.fs) :
 Calls Tryz.prog 47 #[dvV d (.slice pf nf cf) (.slice pq nq cq)] w (BA w (gdN d)):=by
 have D0:Hid (DevB (w.alloc (.cells #[.string (txt d.nm),.int .i64 d.st,.int .i64 d.es,.int .i64 d.mx,.int .i64 d.sz,.string (txt d.sm),.slice pf nf cf,.slice pq nq cq,.int .i64 d.po,.int .i64 d.ti,.int .i64 d.re,.int .i64 d.ag] 33)) w.heap.size d (.slice pf nf cf) (.slice pq nq cq)):=DevB.new hfv _;have B0:Hid (Below w.heap.size w (w.alloc (.cells #[.string (txt d.nm),.int .i64 d.st,.int .i64 d.es,.int .i64 d.mx,.int .i64 d.sz,.string (txt d.sm),.slice pf nf cf,.slice pq nq cq,.int .i64 d.po,.int .i64 d.ti,.int .i64 d.re,.int .i64 d.ag] 33))):=(Below.refl _ _).alloc (Nat.le_refl _) _;have wi0:Hid (∀ x T,Calls Tryz.prog 79 #[.int .i64 0,.int .i64 255,.slice (some ⟨x.heap.size,0,none⟩) 3 3] (x.alloc (.cells #[.int .i64 d.st,.int .i64 d.es,.int .i64 d.mx] T)) fun e y=>e=.returned (.bool (gd1 d))∧Below x.heap.size x y):=fun x T=>within_new3 0 255 d.st d.es d.mx x T
 have wi1:Hid (∀ x T,Calls Tryz.prog 79 #[.int .i64 1,.int .i64 32,.slice (some ⟨x.heap.size,0,none⟩) 1 1] (x.alloc (.cells #[.int .i64 d.sz] T)) fun e y=>e=.returned (.bool (gd2 d))∧Below x.heap.size x y):=fun x T=>within_new1 1 32 d.sz x T
 have wi2:Hid (∀ x T,Calls Tryz.prog 79 #[.int .i64 1,.int .i64 1000,.slice (some ⟨x.heap.size,0,none⟩) 3 3] (x.alloc (.cells #[.int .i64 d.po,.int .i64 d.ti,.int .i64 d.ag] T)) fun e y=>e=.returned (.bool (gd3 d))∧Below x.heap.size x y):=fun x T=>within_new3 1 1000 d.po d.ti d.ag x T
 have wi3:Hid (∀ x T,Calls Tryz.prog 79 #[.int .i64 0,.int .i64 10,.slice (some ⟨x.heap.size,0,none⟩) 1 1] (x.alloc (.cells #[.int .i64 d.re] T)) fun e y=>e=.returned (.bool (gd4 d))∧Below x.heap.size x y):=fun x T=>within_new1 0 10 d.re x T
 have wi4:Hid (∀ x T,Calls Tryz.prog 79 #[.int .i64 1,.int .i64 16,.slice (some ⟨x.heap.size,0,none⟩) 1 1] (x.alloc (.cells #[.int .i64 (nq:Int)] T)) fun e y=>e=.returned (.bool (gd5 nq))∧Below x.heap.size x y):=fun x T=>within_new1 1 16 (nq:Int) x T
 have wi5:Hid (∀ x T,Calls Tryz.prog 79 #[.int .i64 0,.int .i64 8,.slice (some ⟨x.heap.size,0,none⟩) 1 1] (x.alloc (.cells #[.int .i64 (nf:Int)] T)) fun e y=>e=.returned (.bool (gd6 nf))∧Below x.heap.size x y):=fun x T=>within_new1 0 8 (nf:Int) x T
 have hG:gdN d=(gd1 d && (gd2 d && (gd3 d && (gd4 d && (gd5 nq && gd6 nf))))):=by unfold gdN; rw [hf,hq]
 rw [hG];clear hG hfv hf hq;generalize gd1 d=G0 at *;generalize gd2 d=G1 at *;generalize gd3 d=G2 at *;generalize gd4 d=G3 at *;generalize gd5 nq=G4 at *;generalize gd6 nf=G5 at *
 go_enter Tryz.func47,Tryz.ntmps47
 have wk0:Hid (Calls Tryz.prog 79 #[.int .i64 0,.int .i64 255,.slice (some ⟨w.heap.size + 1,0,none⟩) 3 3] ((w.alloc (.cells #[.string (txt d.nm),.int .i64 d.st,.int .i64 d.es,.int .i64 d.mx,.int .i64 d.sz,.string (txt d.sm),.slice pf nf cf,.slice pq nq cq,.int .i64 d.po,.int .i64 d.ti,.int .i64 d.re,.int .i64 d.ag] 33)).alloc (.cells #[.int .i64 d.st,.int .i64 d.es,.int .i64 d.mx] 3)) fun e y=>e=.returned (.bool G0)∧Below (w.alloc (.cells #[.string (txt d.nm),.int .i64 d.st,.int .i64 d.es,.int .i64 d.mx,.int .i64 d.sz,.string (txt d.sm),.slice pf nf cf,.slice pq nq cq,.int .i64 d.po,.int .i64 d.ti,.int .i64 d.re,.int .i64 d.ag] 33)).heap.size (w.alloc (.cells #[.string (txt d.nm),.int .i64 d.st,.int .i64 d.es,.int .i64 d.mx,.int .i64 d.sz,.string (txt d.sm),.slice pf nf cf,.slice pq nq cq,.int .i64 d.po,.int .i64 d.ti,.int .i64 d.re,.int .i64 d.ag] 33)) y):=by
  have k:=wi0.out (w.alloc (.cells #[.string (txt d.nm),.int .i64 d.st,.int .i64 d.es,.int .i64 d.mx,.int .i64 d.sz,.string (txt d.sm),.slice pf nf cf,.slice pq nq cq,.int .i64 d.po,.int .i64 d.ti,.int .i64 d.re,.int .i64 d.ag] 33)) 3;rw [World.size_alloc] at k ⊢;exact k
 clear wi0
 go_wp2_with fail
 refine wk0.out.mono ?_;rintro e y1 ⟨rfl,hb⟩;have D1:Hid (DevB y1 w.heap.size d (.slice pf nf cf) (.slice pq nq cq)):=D0.out.below hb;have B1:Hid (Below w.heap.size w y1):=B0.out.trans (hb.mono B0.out.size);clear hb D0 B0 wk0
 cases G0
 · clear D1 wi1 wi2 wi3 wi4 wi5;go_wp2;go_ret;exact ⟨rfl,B1.out⟩
 obtain ⟨_,_,_,_,c1,_⟩:=D1.out.cells;have wk1:Hid (Calls Tryz.prog 79 #[.int .i64 1,.int .i64 32,.slice (some ⟨y1.heap.size,0,none⟩) 1 1] (y1.alloc (.cells #[.int .i64 d.sz] 3)) fun e y=>e=.returned (.bool G1)∧Below y1.heap.size y1 y):=by
  have k:=wi1.out y1 3
  skip
  exact k
 clear wi1
 go_wp2_with fail
 refine wk1.out.mono ?_;rintro e y2 ⟨rfl,hb⟩;have D2:Hid (DevB y2 w.heap.size d (.slice pf nf cf) (.slice pq nq cq)):=D1.out.below hb;have B2:Hid (Below w.heap.size w y2):=B1.out.trans (hb.mono B1.out.size);clear hb D1 B1 wk1 c1
 cases G1
 · clear D2 wi2 wi3 wi4 wi5;go_wp2;go_ret;exact ⟨rfl,B2.out⟩
 obtain ⟨_,_,_,_,_,_,_,_,c1,c2,_,c3⟩:=D2.out.cells;have wk2:Hid (Calls Tryz.prog 79 #[.int .i64 1,.int .i64 1000,.slice (some ⟨y2.heap.size,0,none⟩) 3 3] (y2.alloc (.cells #[.int .i64 d.po,.int .i64 d.ti,.int .i64 d.ag] 3)) fun e y=>e=.returned (.bool G2)∧Below y2.heap.size y2 y):=by
  have k:=wi2.out y2 3
  skip
  exact k
 clear wi2
 go_wp2_with fail
 refine wk2.out.mono ?_;rintro e y3 ⟨rfl,hb⟩;have D3:Hid (DevB y3 w.heap.size d (.slice pf nf cf) (.slice pq nq cq)):=D2.out.below hb;have B3:Hid (Below w.heap.size w y3):=B2.out.trans (hb.mono B2.out.size);clear hb D2 B2 wk2 c1 c2 c3
 cases G2
 · clear D3 wi3 wi4 wi5;go_wp2;go_ret;exact ⟨rfl,B3.out⟩
 obtain ⟨_,_,_,_,_,_,_,_,_,_,c1,_⟩:=D3.out.cells;have wk3:Hid (Calls Tryz.prog 79 #[.int .i64 0,.int .i64 10,.slice (some ⟨y3.heap.size,0,none⟩) 1 1] (y3.alloc (.cells #[.int .i64 d.re] 3)) fun e y=>e=.returned (.bool G3)∧Below y3.heap.size y3 y):=by
  have k:=wi3.out y3 3
  skip
  exact k
 clear wi3
 go_wp2_with fail
 refine wk3.out.mono ?_;rintro e y4 ⟨rfl,hb⟩;have D4:Hid (DevB y4 w.heap.size d (.slice pf nf cf) (.slice pq nq cq)):=D3.out.below hb;have B4:Hid (Below w.heap.size w y4):=B3.out.trans (hb.mono B3.out.size);clear hb D3 B3 wk3 c1
 cases G3
 · clear D4 wi4 wi5;go_wp2;go_ret;exact ⟨rfl,B4.out⟩
 obtain ⟨_,_,_,_,_,_,_,c1,_⟩:=D4.out.cells;have wk4:Hid (Calls Tryz.prog 79 #[.int .i64 1,.int .i64 16,.slice (some ⟨y4.heap.size,0,none⟩) 1 1] (y4.alloc (.cells #[.int .i64 (nq:Int)] 3)) fun e y=>e=.returned (.bool G4)∧Below y4.heap.size y4 y):=by
  have k:=wi4.out y4 3
  skip
  exact k
 clear wi4
 go_wp2_with fail
 refine wk4.out.mono ?_;rintro e y5 ⟨rfl,hb⟩;have D5:Hid (DevB y5 w.heap.size d (.slice pf nf cf) (.slice pq nq cq)):=D4.out.below hb;have B5:Hid (Below w.heap.size w y5):=B4.out.trans (hb.mono B4.out.size);clear hb D4 B4 wk4 c1
 cases G4
 · clear D5 wi5;go_wp2;go_ret;exact ⟨rfl,B5.out⟩
 obtain ⟨_,_,_,_,_,_,c1,_⟩:=D5.out.cells;have wk5:Hid (Calls Tryz.prog 79 #[.int .i64 0,.int .i64 8,.slice (some ⟨y5.heap.size,0,none⟩) 1 1] (y5.alloc (.cells #[.int .i64 (nf:Int)] 3)) fun e y=>e=.returned (.bool G5)∧Below y5.heap.size y5 y):=by
  have k:=wi5.out y5 3
  skip
  exact k
 clear wi5
 go_wp2_with fail
 refine wk5.out.mono ?_;rintro e y6 ⟨rfl,hb⟩;have D6:Hid (DevB y6 w.heap.size d (.slice pf nf cf) (.slice pq nq cq)):=D5.out.below hb;have B6:Hid (Below w.heap.size w y6):=B5.out.trans (hb.mono B5.out.size);clear hb D5 B5 wk5 c1;clear D6;go_wp2;go_ret;exact ⟨rfl,B6.out⟩
theorem parted_any (d:Dv) (fv qv:Value) (w:World) (hfv:FldsV w fv d.fs):Calls Tryz.prog 51 #[dvV d fv qv] w (BA w (gdC d)):=by
 have B0:Hid (Below w.heap.size w (w.alloc (.cells #[.string (txt d.nm),.int .i64 d.st,.int .i64 d.es,.int .i64 d.mx,.int .i64 d.sz,.string (txt d.sm),fv,qv,.int .i64 d.po,.int .i64 d.ti,.int .i64 d.re,.int .i64 d.ag] 33))):=(Below.refl _ _).alloc (Nat.le_refl _) _;have co:Hid (∀ x T,Calls Tryz.prog 81 #[.slice (some ⟨x.heap.size,0,none⟩) 3 3,.int .i64 d.st] (x.alloc (.cells #[.int .i64 d.es,.int .i64 (bits .xor .i64 d.st d.mx),.int .i64 (bits .xor .i64 d.es d.mx)] T)) fun e y=>e=.returned (.bool (decide (d.st=d.es) || (decide (d.st=xorI d.st d.mx) || decide (d.st=xorI d.es d.mx))))∧Below x.heap.size x y):=fun x T=>contains_new3 d.st d.es _ _ x T
 have hG:gdC d=!(decide (d.st=d.es) || (decide (d.st=xorI d.st d.mx) || decide (d.st=xorI d.es d.mx))):=rfl;rw [hG];clear hG hfv;generalize (decide (d.st=d.es) || (decide (d.st=xorI d.st d.mx) || decide (d.st=xorI d.es d.mx)))=G at *;have ck:Hid (Calls Tryz.prog 81 #[.slice (some ⟨w.heap.size + 1,0,none⟩) 3 3,.int .i64 d.st] ((w.alloc (.cells #[.string (txt d.nm),.int .i64 d.st,.int .i64 d.es,.int .i64 d.mx,.int .i64 d.sz,.string (txt d.sm),fv,qv,.int .i64 d.po,.int .i64 d.ti,.int .i64 d.re,.int .i64 d.ag] 33)).alloc (.cells #[.int .i64 d.es,.int .i64 (bits .xor .i64 d.st d.mx),.int .i64 (bits .xor .i64 d.es d.mx)] 3)) fun e y=>e=.returned (.bool G)∧Below (w.alloc (.cells #[.string (txt d.nm),.int .i64 d.st,.int .i64 d.es,.int .i64 d.mx,.int .i64 d.sz,.string (txt d.sm),fv,qv,.int .i64 d.po,.int .i64 d.ti,.int .i64 d.re,.int .i64 d.ag] 33)).heap.size (w.alloc (.cells #[.string (txt d.nm),.int .i64 d.st,.int .i64 d.es,.int .i64 d.mx,.int .i64 d.sz,.string (txt d.sm),fv,qv,.int .i64 d.po,.int .i64 d.ti,.int .i64 d.re,.int .i64 d.ag] 33)) y):=by
  have k:=co.out (w.alloc (.cells #[.string (txt d.nm),.int .i64 d.st,.int .i64 d.es,.int .i64 d.mx,.int .i64 d.sz,.string (txt d.sm),fv,qv,.int .i64 d.po,.int .i64 d.ti,.int .i64 d.re,.int .i64 d.ag] 33)) 3;rw [World.size_alloc] at k ⊢;exact k
 clear co
 go_enter Tryz.func51,Tryz.ntmps51
 go_wp2_with fail
 refine ck.out.mono ?_;rintro e y ⟨rfl,hb⟩;have B1:Hid (Below w.heap.size w y):=B0.out.trans (hb.mono B0.out.size);clear hb B0 ck;go_wp2;go_ret;exact ⟨rfl,B1.out⟩
theorem cc1_any (b:Nat) (d:Dv) (fv qv:Value) (hn:(d.nm.length:Int)≤5000) (hq:∃ p c,qv=.slice p d.rq.length c) (w:World) (hD:DevB w b d fv qv):Calls Tryz.prog 45 #[.pointer (some ⟨b,0,none⟩)] w (BA w (nameB d.nm && gdN d)):=by
 have nc:Hid (∀ x,Calls Tryz.prog 46 #[.string (txt d.nm)] x fun e w'=>e=.returned (.bool (nameB d.nm))∧Below x.heap.size x w'):=fun x=>HM (txt d.nm) x (txt_sz _ hn)
 obtain ⟨pq,cq,rfl⟩:=hq;obtain ⟨pf,cf,rfl⟩:=hD.fl.form;have nb:∀ x,DevB x b d (.slice pf d.fs.length cf) (.slice pq d.rq.length cq)→Calls Tryz.prog 47 #[dvV d (.slice pf d.fs.length cf) (.slice pq d.rq.length cq)] x (BA x (gdN d)):=fun x hx=>numbered_any d pf pq _ cf _ cq x rfl rfl hx.fl
 replace nb:Hid (∀ x,DevB x b d (.slice pf d.fs.length cf) (.slice pq d.rq.length cq)→Calls Tryz.prog 47 #[dvV d (.slice pf d.fs.length cf) (.slice pq d.rq.length cq)] x (BA x (gdN d))):=nb;have c0:=hD.c 0 _ rfl;replace hD:Hid (DevB w b d (.slice pf d.fs.length cf) (.slice pq d.rq.length cq)):=hD;clear hn;generalize nameB d.nm=A at *
 cases A
 · clear nb hD
   go_enter Tryz.func45,Tryz.ntmps45
   go_wp2_with fail
   refine (nc.out w).mono ?_;rintro e y ⟨rfl,hb⟩;have B1:Hid (Below w.heap.size w y):=hb;clear hb nc c0;go_wp2;go_ret;exact ⟨rfl,B1.out⟩
 · obtain ⟨G,hG⟩:∃ G,gdN d=G:=⟨_,rfl⟩;rw [hG] at nb ⊢;clear hG
   go_enter Tryz.func45,Tryz.ntmps45
   have nb':=nb;clear nb
   go_wp2_with fail
   refine (nc.out w).mono ?_;rintro e y ⟨rfl,hb⟩;have B1:Hid (Below w.heap.size w y):=hb;have hDy:=hD.out.below hb;have nk:Hid (Calls Tryz.prog 47 #[dvV d (.slice pf d.fs.length cf) (.slice pq d.rq.length cq)] y (BA y G)):=nb'.out y hDy;obtain ⟨z0,z1,z2,z3,z4,z5,z6,z7,z8,z9,z10,z11⟩:=hDy.cells;clear hb nc c0 nb' hDy hD;obtain ⟨dn,dst,des,dmx,dsz,dsm,dfs,drq,dpo,dti,dre,dag⟩:=d;simp only at z0 z1 z2 z3 z4 z5 z6 z7 z8 z9 z10 z11
   go_wp2_with fail
   refine nk.out.mono ?_;rintro e y2 ⟨rfl,hb⟩;have B2:Hid (Below w.heap.size w y2):=B1.out.trans (hb.mono B1.out.size);clear hb nk B1 z0 z1 z2 z3 z4 z5 z6 z7 z8 z9 z10 z11;go_wp2;go_ret;exact ⟨rfl,B2.out⟩
theorem cc2_any (b:Nat) (d:Dv) (fv qv:Value) (w:World) (hD:DevB w b d fv qv):Calls Tryz.prog 48 #[.pointer (some ⟨b,0,none⟩)] w (BA w (isSum (txt d.sm))):=by
 have sc:Hid (∀ x,Calls Tryz.prog 49 #[.string (txt d.sm)] x fun e w'=>e=.returned (.bool (isSum (txt d.sm)))∧Below x.heap.size x w'):=fun x=>summed_any (txt d.sm) x
 have c5:=hD.c 5 _ rfl;clear hD;generalize isSum (txt d.sm)=A at *
 go_enter Tryz.func48,Tryz.ntmps48
 go_wp2_with fail
 refine (sc.out w).mono ?_;rintro e y ⟨rfl,hb⟩;have B1:Hid (Below w.heap.size w y):=hb;clear hb sc c5;go_wp2;go_ret;exact ⟨rfl,B1.out⟩
theorem cc3_any (b:Nat) (d:Dv) (fv qv:Value) (hq:∃ p n c,qv=.slice p n c) (w:World) (hD:DevB w b d fv qv):Calls Tryz.prog 50 #[.pointer (some ⟨b,0,none⟩)] w (BA w (gdC d)):=by
 have pc:Hid (Calls Tryz.prog 51 #[dvV d fv qv] w (BA w (gdC d))):=parted_any d fv qv w hD.fl;obtain ⟨pf,cf,rfl⟩:=hD.fl.form;obtain ⟨pq,nq,cq,rfl⟩:=hq;obtain ⟨z0,z1,z2,z3,z4,z5,z6,z7,z8,z9,z10,z11⟩:=hD.cells;clear hD;generalize gdC d=A at *;obtain ⟨dn,dst,des,dmx,dsz,dsm,dfs,drq,dpo,dti,dre,dag⟩:=d;simp only at z0 z1 z2 z3 z4 z5 z6 z7 z8 z9 z10 z11
 go_enter Tryz.func50,Tryz.ntmps50
 go_wp2_with fail
 refine pc.out.mono ?_;rintro e y ⟨rfl,hb⟩;have B1:Hid (Below w.heap.size w y):=hb;clear hb pc z0 z1 z2 z3 z4 z5 z6 z7 z8 z9 z10 z11;go_wp2;go_ret;exact ⟨rfl,B1.out⟩
theorem cc5_any (b:Nat) (d:Dv) (fv qv:Value) (hi:∀ f ∈ d.fs,FdI f) (hz:I64 d.sz) (hl:(d.fs.length:Int)≤100) (hq:∃ p n c,qv=.slice p n c) (w:World) (hD:DevB w b d fv qv):Calls Tryz.prog 53 #[.pointer (some ⟨b,0,none⟩)] w (QA w (fldsE d.sz [] d.fs)):=by
 have pc:Hid (Calls Tryz.prog 54 #[dvV d fv qv] w (QA w (fldsE d.sz [] d.fs))):=snfields_any d fv qv w hi hz hl hD.fl;obtain ⟨pf,cf,rfl⟩:=hD.fl.form;obtain ⟨pq,nq,cq,rfl⟩:=hq;obtain ⟨z0,z1,z2,z3,z4,z5,z6,z7,z8,z9,z10,z11⟩:=hD.cells;clear hD hi hz hl;generalize fldsE d.sz [] d.fs=A at *;obtain ⟨dn,dst,des,dmx,dsz,dsm,dfs,drq,dpo,dti,dre,dag⟩:=d;simp only at z0 z1 z2 z3 z4 z5 z6 z7 z8 z9 z10 z11
 go_enter Tryz.func53,Tryz.ntmps53
 go_wp2_with fail
 refine pc.out.mono ?_;rintro e y ⟨rfl,hb⟩;have B1:Hid (Below w.heap.size w y):=hb;clear hb pc z0 z1 z2 z3 z4 z5 z6 z7 z8 z9 z10 z11;go_wp2;go_ret;exact ⟨rfl,B1.out⟩
theorem cc4_any (b:Nat) (d:Dv) (fv qv:Value) (w:World) (hD:DevB w b d fv qv):Calls Tryz.prog 52 #[.pointer (some ⟨b,0,none⟩)] w (BA w (gdT d)):=by
 obtain ⟨_,_,_,_,_,_,_,_,z8,z9,_,z11⟩:=hD.cells;have B0:Hid (Below w.heap.size w w):=Below.refl _ _;unfold gdT;clear hD;generalize d.po=po at *;generalize d.ti=ti at *;generalize d.ag=ag at *
 by_cases h1:ti < po
 · rw [decide_eq_true h1]
   by_cases h2:po≤ag
   · rw [decide_eq_true h2]
     go_enter Tryz.func52,Tryz.ntmps52
     go_wp2;go_ret;exact ⟨rfl,B0.out⟩
   · rw [decide_eq_false h2]
     go_enter Tryz.func52,Tryz.ntmps52
     go_wp2;go_ret;exact ⟨rfl,B0.out⟩
 · rw [decide_eq_false h1]
   go_enter Tryz.func52,Tryz.ntmps52
   go_wp2;go_ret;exact ⟨rfl,B0.out⟩
structure DvI (d:Dv):Prop where
 nm:(d.nm.length:Int)≤5000
 fs:∀ f ∈ d.fs,FdI f
 sz:I64 d.sz
 ln:(d.fs.length:Int)≤100
abbrev ckV (b:Nat):Value:=.func (.func 53) #[] #[.pointer (some ⟨b,0,none⟩)]
theorem check_ask {y:World} {b p1 q1 p2 q2 p3 q3 p4 q4:Nat} {d:Dv} {fv qv:Value} (hi:DvI d) (hq:∃ p c,qv=.slice p d.rq.length c) (hD:DevB y b d fv qv)
 (m1:MuAt y p1 q1 (.func (.func 45) #[] #[.pointer (some ⟨b,0,none⟩)]) 6)
 (m2:MuAt y p2 q2 (.func (.func 48) #[] #[.pointer (some ⟨b,0,none⟩)]) 4)
 (m3:MuAt y p3 q3 (.func (.func 50) #[] #[.pointer (some ⟨b,0,none⟩)]) 10)
 (m4:MuAt y p4 q4 (.func (.func 52) #[] #[.pointer (some ⟨b,0,none⟩)]) 11)
 (T:TypeId) :
 Calls Tryz.prog 43 #[.slice (some ⟨y.heap.size,0,none⟩) 5 5] (y.alloc (.cells #[muV p1 q1,muV p2 q2,muV p3 q3,muV p4 q4,ckV b] T)) fun e z=>e=.returned (.int .i64 (ckE d))∧Below y.heap.size y z:=by
 have hb:Below y.heap.size y (y.alloc (.cells #[muV p1 q1,muV p2 q2,muV p3 q3,muV p4 q4,ckV b] T)):=(Below.refl _ _).alloc (Nat.le_refl _) _;have hq':∃ p n c,qv=.slice p n c:=by obtain ⟨p,c,h⟩:=hq; exact ⟨p,_,c,h⟩
 refine (ask_any [muV p1 q1,muV p2 q2,muV p3 q3,muV p4 q4,ckV b] (ckE d) y.heap.size 0 5 _ (QsIn.new y _ T) (by rw [World.size_alloc]; omega) ⟨[orE (nameB d.nm && gdN d) 6,orE (isSum (txt d.sm)) 4,orE (gdC d) 10,orE (gdT d) 11,fldsE d.sz [] d.fs],?_,rfl⟩ (by simp)).mono ?_
 · refine ⟨.inl ⟨p1,q1,rfl,fun x hx=>?_⟩,fun _=>⟨.inl ⟨p2,q2,rfl,fun x hx=>?_⟩,fun _=>⟨.inl ⟨p3,q3,rfl,fun x hx=>?_⟩,fun _=>⟨.inl ⟨p4,q4,rfl,fun x hx=>?_⟩,fun _=>⟨.inr (.inl ⟨b,rfl,fun x hx=>?_⟩),fun _=>trivial⟩⟩⟩⟩⟩
   all_goals have hx':=hb.trans (hx.mono hb.size)
   · exact must1_0 b p1 q1 6 _ x (m1.below hx') (cc1_any b d fv qv hi.nm hq x (hD.below hx'))
   · exact must1_1 b p2 q2 4 _ x (m2.below hx') (cc2_any b d fv qv x (hD.below hx'))
   · exact must1_2 b p3 q3 10 _ x (m3.below hx') (cc3_any b d fv qv hq' x (hD.below hx'))
   · exact must1_3 b p4 q4 11 _ x (m4.below hx') (cc4_any b d fv qv x (hD.below hx'))
   · exact cc5_any b d fv qv hi.fs hi.sz hi.ln hq' x (hD.below hx')
 · rintro e z ⟨rfl,hz'⟩;exact ⟨rfl,hb.trans (hz'.mono hb.size)⟩
theorem check_any (d:Dv) (fv qv:Value) (w:World) (hi:DvI d) (hq:∃ p c,qv=.slice p d.rq.length c) (hfv:FldsV w fv d.fs):Calls Tryz.prog 22 #[dvV d fv qv] w (QA w (ckE d)):=by
 have hmf:∀ (fn:Fn) (first cap:Array Value) (w:World),(Instr.makeFunc fn first cap).run Tryz.prog w=.ok (.func fn first cap) w:=fun _ _ _ _=>rfl
 have D0:Hid (DevB (w.alloc (.cells #[.string (txt d.nm),.int .i64 d.st,.int .i64 d.es,.int .i64 d.mx,.int .i64 d.sz,.string (txt d.sm),fv,qv,.int .i64 d.po,.int .i64 d.ti,.int .i64 d.re,.int .i64 d.ag] 33)) w.heap.size d fv qv):=DevB.new hfv _;have B0:Hid (Below w.heap.size w (w.alloc (.cells #[.string (txt d.nm),.int .i64 d.st,.int .i64 d.es,.int .i64 d.mx,.int .i64 d.sz,.string (txt d.sm),fv,qv,.int .i64 d.po,.int .i64 d.ti,.int .i64 d.re,.int .i64 d.ag] 33))):=(Below.refl _ _).alloc (Nat.le_refl _) _;have hi':Hid (DvI d):=hi;have hq':Hid (∃ p c,qv=.slice p d.rq.length c):=hq;clear hi hq hfv;obtain ⟨T,hT⟩:∃ T,ckE d=T:=⟨_,rfl⟩;rw [hT];replace hT:Hid (ckE d=T):=hT
 go_enter Tryz.func22,Tryz.ntmps22
 go_wp2_with fail
 refine (must_any 6 _ _ _).mono ?_;rintro e y1 ⟨p1,q1,rfl,m,hb⟩;have M1:Hid (MuAt y1 p1 q1 (.func (.func 45) #[] #[.pointer (some ⟨w.heap.size,0,none⟩)]) 6):=m;have D1:Hid (DevB y1 w.heap.size d fv qv):=D0.out.below hb;have B1:Hid (Below w.heap.size w y1):=B0.out.trans (hb.mono B0.out.size);clear m hb D0 B0
 go_wp2_with fail
 refine (must_any 4 _ _ _).mono ?_;rintro e y2 ⟨p2,q2,rfl,m,hb⟩;have M2:Hid (MuAt y2 p2 q2 (.func (.func 48) #[] #[.pointer (some ⟨w.heap.size,0,none⟩)]) 4):=m;replace M1:Hid (MuAt y2 p1 q1 (.func (.func 45) #[] #[.pointer (some ⟨w.heap.size,0,none⟩)]) 6):=M1.out.below hb;have D2:Hid (DevB y2 w.heap.size d fv qv):=D1.out.below hb;have B2:Hid (Below w.heap.size w y2):=B1.out.trans (hb.mono B1.out.size);clear m hb D1 B1
 go_wp2_with fail
 refine (must_any 10 _ _ _).mono ?_;rintro e y3 ⟨p3,q3,rfl,m,hb⟩;have M3:Hid (MuAt y3 p3 q3 (.func (.func 50) #[] #[.pointer (some ⟨w.heap.size,0,none⟩)]) 10):=m;replace M1:Hid (MuAt y3 p1 q1 (.func (.func 45) #[] #[.pointer (some ⟨w.heap.size,0,none⟩)]) 6):=M1.out.below hb;replace M2:Hid (MuAt y3 p2 q2 (.func (.func 48) #[] #[.pointer (some ⟨w.heap.size,0,none⟩)]) 4):=M2.out.below hb;have D3:Hid (DevB y3 w.heap.size d fv qv):=D2.out.below hb;have B3:Hid (Below w.heap.size w y3):=B2.out.trans (hb.mono B2.out.size);clear m hb D2 B2
 go_wp2_with fail
 refine (must_any 11 _ _ _).mono ?_;rintro e y4 ⟨p4,q4,rfl,m,hb⟩;have M4:Hid (MuAt y4 p4 q4 (.func (.func 52) #[] #[.pointer (some ⟨w.heap.size,0,none⟩)]) 11):=m;replace M1:Hid (MuAt y4 p1 q1 (.func (.func 45) #[] #[.pointer (some ⟨w.heap.size,0,none⟩)]) 6):=M1.out.below hb;replace M2:Hid (MuAt y4 p2 q2 (.func (.func 48) #[] #[.pointer (some ⟨w.heap.size,0,none⟩)]) 4):=M2.out.below hb;replace M3:Hid (MuAt y4 p3 q3 (.func (.func 50) #[] #[.pointer (some ⟨w.heap.size,0,none⟩)]) 10):=M3.out.below hb;have D4:Hid (DevB y4 w.heap.size d fv qv):=D3.out.below hb;have B4:Hid (Below w.heap.size w y4):=B3.out.trans (hb.mono B3.out.size);clear m hb D3 B3;have ak:Hid (Calls Tryz.prog 43 #[.slice (some ⟨y4.heap.size,0,none⟩) 5 5] (y4.alloc (.cells #[muV p1 q1,muV p2 q2,muV p3 q3,muV p4 q4,ckV w.heap.size] 100)) fun e z=>e=.returned (.int .i64 (ckE d))∧Below y4.heap.size y4 z):=
  check_ask hi'.out hq'.out D4.out M1.out M2.out M3.out M4.out _
 clear D4 M1 M2 M3 M4 hi' hq';rw [hT.out] at ak;clear hT
 go_wp2_with fail
 refine ak.out.mono ?_;rintro e z ⟨rfl,hb⟩;have B5:Hid (Below w.heap.size w z):=B4.out.trans (hb.mono B4.out.size);clear hb ak B4;go_wp2;go_ret;exact ⟨rfl,B5.out⟩
end Go.Proofs.YthabffjgdhfbmaaGreatDoor
