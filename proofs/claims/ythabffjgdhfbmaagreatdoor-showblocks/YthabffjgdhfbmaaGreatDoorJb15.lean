/-
  Texts that belong together, one behind the other: SnE, SnF0, SnF, SnG, DsReadA. Conditions: as each says.
-/
import Derived.Below
import Derived.BigQuiet
import Derived.BigRegion
import Derived.ChangeOld
import Derived.Deep.CutRange
import Derived.Deep.QuietTactic
import Derived.Deep.RegionWith
import Derived.Handy
import Derived.Laws.BitsAllLaws
import Derived.Laws.OwnMore
import Derived.Laws.Shifts
import Derived.Laws.Tables
import Derived.Lib.QuietBelow
import Derived.Lib.QuietBelowIn
import Derived.Maps.AppendAt
import Derived.OpenShut
import Derived.OwnWalk
import Derived.ProofKit
import Derived.RangeFuncBox
import Derived.RangeFuncCalls
import Derived.ShutString
import Derived.Sort.BigQuietIn
import Derived.Test.YthabffjgdhfbmaaGreatDoorProg
import Derived.WalkKit
import Derived.WalkLawsBesides
import Derived.WalkSpells
import Derived.Test.YthabffjgdhfbmaaGreatDoorJb1
import Derived.Test.YthabffjgdhfbmaaGreatDoorJb2
import Derived.Test.YthabffjgdhfbmaaGreatDoorJb3
import Derived.Test.YthabffjgdhfbmaaGreatDoorJb4
import Derived.Test.YthabffjgdhfbmaaGreatDoorJb5
import Derived.Test.YthabffjgdhfbmaaGreatDoorJb6
import Derived.Test.YthabffjgdhfbmaaGreatDoorJb7
import Derived.Test.YthabffjgdhfbmaaGreatDoorJb8
import Derived.Test.YthabffjgdhfbmaaGreatDoorJb9
import Derived.Test.YthabffjgdhfbmaaGreatDoorJb11
import Derived.Test.YthabffjgdhfbmaaGreatDoorJb12
import Derived.Test.YthabffjgdhfbmaaGreatDoorJb13
import Derived.Test.YthabffjgdhfbmaaGreatDoorJb14
set_option maxRecDepth 100000
set_option maxHeartbeats 32000000
set_option linter.unusedVariables false
namespace Go.Proofs.YthabffjgdhfbmaaGreatDoor
open Go.RowKit
theorem fs1_any (b a:Nat) (d:Dv) (f:Fd) (fv qv:Value) (hi:FdI f) (hz:I64 d.sz) (w:World) (hD:DevB w b d fv qv) (hF:FdB w a f) :
 Calls Tryz.prog 82 #[.pointer (some ⟨b,0,none⟩),.pointer (some ⟨a,0,none⟩)] w (QA w (fldE d.sz f)):=by
 have fc:Hid (Calls Tryz.prog 83 #[dvV d fv qv,fdV f] w (QA w (fldE d.sz f))):=field_any d f fv qv w hi hz hD.fl;obtain ⟨pf,cf,rfl⟩:=hD.fl.form;obtain ⟨z0,z1,z2,z3,z4,z5,z6,z7,z8,z9,z10,z11⟩:=hD.cells;obtain ⟨c0,c1,c2,c3,c4,c5,c6,c7,c8⟩:=hF.cells;clear hD hF hi hz;generalize fldE d.sz f=T at *;obtain ⟨dn,dst,des,dmx,dsz,dsm,dfs,drq,dpo,dti,dre,dag⟩:=d;obtain ⟨fm,pl,kd,wd,sn,sd,on,od,un⟩:=f;simp only at z0 z1 z2 z3 z4 z5 z6 z7 z8 z9 z10 z11 c0 c1 c2 c3 c4 c5 c6 c7 c8
 go_enter Tryz.func82,Tryz.ntmps82
 go_wp2_with fail
 refine fc.out.mono ?_;rintro e y ⟨rfl,hb⟩;have B1:Hid (Below w.heap.size w y):=hb;clear hb fc z0 z1 z2 z3 z4 z5 z6 z7 z8 z9 z10 z11 c0 c1 c2 c3 c4 c5 c6 c7 c8;go_wp2;go_ret;exact ⟨rfl,B1.out⟩
theorem fs2_any (b c a k:Nat) (d:Dv) (f:Fd) (fv qv:Value) (hk:k < d.fs.length) (hl:(d.fs.length:Int)≤100) (w:World) (hD:DevB w b d fv qv) (hF:FdB w a f) (hc:w.cell? ⟨c,0,none⟩=some (.int .i64 (k:Int))) :
 Calls Tryz.prog 84 #[.pointer (some ⟨b,0,none⟩),.pointer (some ⟨c,0,none⟩),.pointer (some ⟨a,0,none⟩)] w (BA w (!decide (f.nm ∈ (d.fs.take k).map (·.nm)))):=by
 have z6:=hD.c 6 _ rfl;have c0:=hF.c 0 _ rfl;have fl:=hD.fl;rcases fl with ⟨_,_,_,e⟩ | ⟨g,o,cap,rfl,hcap,hin,hg⟩
 · rw [e] at hk; cases hk
 · have hlen:(d.fs.take k).length=k:=by rw [List.length_take]; omega
   have nv:FldsV w (.slice (some ⟨g,o,none⟩) k cap) (d.fs.take k):=.inr ⟨g,o,cap,by rw [hlen],by omega,hin.take k,hg⟩;have nc:Hid (∀ dr os,Calls Tryz.prog 85 #[.slice (some ⟨g,o,none⟩) k cap,.string (txt f.nm)] (Sort.grow (redrawn w dr) os) fun e w'=>e=.returned (.bool (decide (f.nm ∈ (d.fs.take k).map (·.nm))))∧Below (Sort.grow (redrawn w dr) os).heap.size (Sort.grow (redrawn w dr) os) w'):=fun dr os=>named_any f.nm _ (d.fs.take k) _ (nv.below (below_regrown w dr os)) (by rw [hlen]; omega)
   have k1:=fun dr os=>cell_regrown z6 dr os
   have k2:=fun dr os=>cell_regrown hc dr os
   have k3:=fun dr os=>cell_regrown c0 dr os
   have hk1:(k:Int)≤(cap:Int):=by omega
   have hk2:(k:Int)≤100:=by omega
   clear z6 c0 hc nv hin hg hD hF hlen;generalize decide (f.nm ∈ (d.fs.take k).map (·.nm))=T at *;generalize txt f.nm=S at *;generalize d.fs.length=len at *
   go_enter Tryz.func84,Tryz.ntmps84
   go_wp2_with fail
   refine wp_region_quiet_below (by kernel_rfl) (by kernel_rfl) ?_
   repeat (go_big_quiet_step (first
    | (go_at_call 85; with_reducible exact Calls.regrown_of (nc.out _ _))))
   refine wpQuiet_nil ?_;intro _ hw';obtain ⟨⟨dq,osq⟩,hw''⟩:=hw';subst hw'';have B:Hid (Below w.heap.size w (Sort.grow (redrawn w dq) osq)):=below_regrown w dq osq;clear k1 k2 k3 nc;go_wp2;go_ret;exact ⟨rfl,B.out⟩
abbrev fsV (b a:Nat):Value:=.func (.func 82) #[] #[.pointer (some ⟨b,0,none⟩),.pointer (some ⟨a,0,none⟩)]
theorem fields_ask {y:World} {a b c k p q:Nat} {f:Fd} {d:Dv} {fv qv:Value} (hi:FdI f) (hz:I64 d.sz) (hk:k < d.fs.length) (hl:(d.fs.length:Int)≤100) (hF:FdB y a f) (hD:DevB y b d fv qv) (hc:y.cell? ⟨c,0,none⟩=some (.int .i64 (k:Int)))
 (m:MuAt y p q (.func (.func 84) #[] #[.pointer (some ⟨b,0,none⟩),.pointer (some ⟨c,0,none⟩),.pointer (some ⟨a,0,none⟩)]) 8) (T:TypeId) :
 Calls Tryz.prog 43 #[.slice (some ⟨y.heap.size,0,none⟩) 2 2] (y.alloc (.cells #[fsV b a,muV p q] T)) fun e z=>e=.returned (.int .i64 (firstE [fldE d.sz f,orE (!decide (f.nm ∈ (d.fs.take k).map (·.nm))) 8]))∧Below y.heap.size y z:=by
 have hb:Below y.heap.size y (y.alloc (.cells #[fsV b a,muV p q] T)):=(Below.refl _ _).alloc (Nat.le_refl _) _;have hcx:∀ x,Below y.heap.size y x→x.cell? ⟨c,0,none⟩=some (.int .i64 (k:Int)):=fun x hx=>(hx.cell (p:=⟨c,0,none⟩) (block_lt_of_cell hc)).trans hc
 refine (ask_any [fsV b a,muV p q] (firstE [fldE d.sz f,orE (!decide (f.nm ∈ (d.fs.take k).map (·.nm))) 8]) y.heap.size 0 2 _ (QsIn.new y _ T) (by rw [World.size_alloc]; omega) ⟨[fldE d.sz f,orE (!decide (f.nm ∈ (d.fs.take k).map (·.nm))) 8],?_,rfl⟩ (by simp)).mono ?_
 · refine ⟨.inr (.inr ⟨b,a,rfl,fun x hx=>?_⟩),fun _=>⟨.inl ⟨p,q,rfl,fun x hx=>?_⟩,fun _=>trivial⟩⟩
   · have hx':=hb.trans (hx.mono hb.size);exact fs1_any b a d f fv qv hi hz x (hD.below hx') (hF.below hx')
   · have hx':=hb.trans (hx.mono hb.size);exact must1_8 b c a p q 8 _ x (m.below hx') (fs2_any b c a k d f fv qv hk hl x (hD.below hx') (hF.below hx') (hcx x hx'))
 · rintro e z ⟨rfl,hz'⟩;exact ⟨rfl,hb.trans (hz'.mono hb.size)⟩
def FsI (sz:Int) (seen:List Wd) (l:List Fd) (T:Int):Prop:=fldsE sz seen l=T
theorem FsI.fin {sz:Int} {seen:List Wd} {T:Int} (h:FsI sz seen [] T):0=T:=h
theorem FsI.bad {sz:Int} {seen:List Wd} {f:Fd} {l:List Fd} {T:Int} (h:FsI sz seen (f :: l) T) (h0:¬ firstE [fldE sz f,orE (!decide (f.nm ∈ seen)) 8]=0):firstE [fldE sz f,orE (!decide (f.nm ∈ seen)) 8]=T:=by
 unfold FsI at h; rw [fldsE,if_neg h0] at h; exact h
theorem FsI.next {sz:Int} {seen:List Wd} {f:Fd} {l:List Fd} {T:Int} (h:FsI sz seen (f :: l) T) (h0:firstE [fldE sz f,orE (!decide (f.nm ∈ seen)) 8]=0):FsI sz (seen ++ [f.nm]) l T:=by
 unfold FsI at *; rw [fldsE,if_pos h0] at h; exact h
theorem snfields_any (d:Dv) (fv qv:Value) (w:World) (hi:∀ f ∈ d.fs,FdI f) (hz:I64 d.sz) (hl:(d.fs.length:Int)≤100) (hfv:FldsV w fv d.fs):Calls Tryz.prog 54 #[dvV d fv qv] w (QA w (fldsE d.sz [] d.fs)):=by
 have hmf:∀ (fn:Fn) (first cap:Array Value) (w:World),(Instr.makeFunc fn first cap).run Tryz.prog w=.ok (.func fn first cap) w:=fun _ _ _ _=>rfl
 have D0:Hid (DevB (w.alloc (.cells #[.string (txt d.nm),.int .i64 d.st,.int .i64 d.es,.int .i64 d.mx,.int .i64 d.sz,.string (txt d.sm),fv,qv,.int .i64 d.po,.int .i64 d.ti,.int .i64 d.re,.int .i64 d.ag] 33)) w.heap.size d fv qv):=DevB.new hfv _;have B0:Hid (Below w.heap.size w (w.alloc (.cells #[.string (txt d.nm),.int .i64 d.st,.int .i64 d.es,.int .i64 d.mx,.int .i64 d.sz,.string (txt d.sm),fv,qv,.int .i64 d.po,.int .i64 d.ti,.int .i64 d.re,.int .i64 d.ag] 33))):=(Below.refl _ _).alloc (Nat.le_refl _) _;have hi':Hid (∀ f ∈ d.fs,FdI f):=hi;have hz':Hid (I64 d.sz):=hz;have I0:Hid (FsI d.sz ((d.fs.take 0).map (·.nm)) (d.fs.drop 0) (fldsE d.sz [] d.fs)):=rfl;generalize fldsE d.sz [] d.fs=T at *;obtain ⟨pv,cap,rfl⟩:=hfv.form;clear hi hz hfv;have hl':Hid ((d.fs.length:Int)≤100):=hl;obtain ⟨len,hlen⟩:∃ len,d.fs.length=len:=⟨_,rfl⟩;rw [hlen] at hl D0 B0 ⊢;replace hlen:Hid (d.fs.length=len):=hlen
 go_enter Tryz.func54,Tryz.ntmps54
 go_wp2
 go_loopw [9] (fun vi wr=>∃ k:Nat,(k:Int)≤(len:Int)∧vi=.int .i64 (k:Int)∧Hid (FsI d.sz ((d.fs.take k).map (·.nm)) (d.fs.drop k) T)∧Hid (DevB wr w.heap.size d (.slice pv len cap) qv)∧Hid (Below w.heap.size w wr)) (fun vi _=>len - (intOf vi).toNat)
 case atStart=>exact ⟨0,by omega,rfl,I0,D0,B0⟩
 case round=>
  obtain ⟨k,hk,rfl,lf,D,B⟩:=hrel;clear I0 D0 B0
  by_cases hlt:(k:Int) < (len:Int)
  · have hkl:k < d.fs.length:=by have:=hlen.out; omega
    have fl:=D.out.fl;rcases fl with ⟨_,_,_,e⟩ | ⟨g,o,cap',e,_,hin,_⟩
    · rw [e] at hkl; cases hkl
    · injection e with e1 e2 e3
      subst e1;have lq:=lf.out;rw [List.drop_eq_getElem_cons hkl] at lq;have tk:d.fs.take (k + 1)=d.fs.take k ++ [d.fs[k]]:=by rw [List.take_append_getElem]
      obtain ⟨f,hf⟩:∃ f,d.fs[k]=f:=⟨_,rfl⟩;obtain ⟨c0,c1,c2,c3,c4,c5,c6,c7,c8⟩:=hin.cells hkl hf;have fi:Hid (FdI f):=hi'.out f (by rw [← hf]; exact List.getElem_mem hkl);rw [hf] at lq tk;replace lq:Hid (FsI d.sz ((d.fs.take k).map (·.nm)) (f :: d.fs.drop (k + 1)) T):=lq;replace tk:Hid (d.fs.take (k + 1)=d.fs.take k ++ [f]):=tk;have hb1:Below wr.heap.size wr (wr.alloc (.cells #[.int .i64 (k:Int)] 3)):=(Below.refl _ _).alloc (Nat.le_refl _) _;obtain ⟨w1,hw1⟩:∃ w1,wr.alloc (.cells #[.int .i64 (k:Int)] 3)=w1:=⟨_,rfl⟩;have cK1:w1.cell? ⟨wr.heap.size,0,none⟩=some (.int .i64 (k:Int)):=by rw [← hw1]; simp
      have s1:w1.heap.size=wr.heap.size + 1:=by rw [← hw1,World.size_alloc]
      rw [hw1] at hb1;have hb2:Below w1.heap.size w1 (w1.alloc (.cells #[.string (txt f.nm),.int .i64 f.pl,.string (txt f.kd),.int .i64 f.wd,.int .i64 f.sn,.int .i64 f.sd,.int .i64 f.on,.int .i64 f.od,.string (txt f.un)] 70)):=(Below.refl _ _).alloc (Nat.le_refl _) _;have F1:=FdB.new w1 f 70;rw [s1] at F1;have hb3:=hb1.trans (hb2.mono hb1.size);have D1:Hid (DevB (w1.alloc (.cells #[.string (txt f.nm),.int .i64 f.pl,.string (txt f.kd),.int .i64 f.wd,.int .i64 f.sn,.int .i64 f.sd,.int .i64 f.on,.int .i64 f.od,.string (txt f.un)] 70)) w.heap.size d (.slice (some ⟨g,o,none⟩) len cap) qv):=D.out.below hb3;have B1:Hid (Below w.heap.size w (w1.alloc (.cells #[.string (txt f.nm),.int .i64 f.pl,.string (txt f.kd),.int .i64 f.wd,.int .i64 f.sn,.int .i64 f.sd,.int .i64 f.on,.int .i64 f.od,.string (txt f.un)] 70))):=B.out.trans (hb3.mono B.out.size);have K1:Hid ((w1.alloc (.cells #[.string (txt f.nm),.int .i64 f.pl,.string (txt f.kd),.int .i64 f.wd,.int .i64 f.sn,.int .i64 f.sd,.int .i64 f.on,.int .i64 f.od,.string (txt f.un)] 70)).cell? ⟨wr.heap.size,0,none⟩=some (.int .i64 (k:Int))):=(hb2.cell (p:=⟨wr.heap.size,0,none⟩) (block_lt_of_cell cK1)).trans cK1;replace F1:Hid (FdB (w1.alloc (.cells #[.string (txt f.nm),.int .i64 f.pl,.string (txt f.kd),.int .i64 f.wd,.int .i64 f.sn,.int .i64 f.sd,.int .i64 f.on,.int .i64 f.od,.string (txt f.un)] 70)) (wr.heap.size + 1) f):=F1;subst hw1;have hkl':Hid (k < d.fs.length):=hkl;clear hb1 hb2 hb3 s1 cK1 lf hin hf e2 e3 D B hkl
      go_wp2_with fail
      refine (must_any 8 _ _ _).mono ?_;rintro e y ⟨p,q,rfl,m,hb⟩;have ak:Hid (Calls Tryz.prog 43 #[.slice (some ⟨y.heap.size,0,none⟩) 2 2] (y.alloc (.cells #[fsV w.heap.size (wr.heap.size + 1),muV p q] 100)) fun e z=>e=.returned (.int .i64 (firstE [fldE d.sz f,orE (!decide (f.nm ∈ (d.fs.take k).map (·.nm))) 8]))∧Below y.heap.size y z):=
       fields_ask fi.out hz'.out hkl'.out hl'.out (F1.out.below hb) (D1.out.below hb) ((hb.cell (p:=⟨wr.heap.size,0,none⟩) (block_lt_of_cell K1.out)).trans K1.out) m _
      have D2:Hid (DevB y w.heap.size d (.slice (some ⟨g,o,none⟩) len cap) qv):=D1.out.below hb;have B2:Hid (Below w.heap.size w y):=B1.out.trans (hb.mono B1.out.size);clear m hb D1 B1 F1 K1 c0 c1 c2 c3 c4 c5 c6 c7 c8 fi hkl';obtain ⟨E,hE⟩:∃ E,firstE [fldE d.sz f,orE (!decide (f.nm ∈ (d.fs.take k).map (·.nm))) 8]=E:=⟨_,rfl⟩;rw [hE] at ak;replace hE:Hid (firstE [fldE d.sz f,orE (!decide (f.nm ∈ (d.fs.take k).map (·.nm))) 8]=E):=hE
      go_wp2_with fail
      refine ak.out.mono ?_;rintro e z ⟨rfl,hb⟩;have D3:Hid (DevB z w.heap.size d (.slice (some ⟨g,o,none⟩) len cap) qv):=D2.out.below hb;have B3:Hid (Below w.heap.size w z):=B2.out.trans (hb.mono B2.out.size);clear hb ak D2 B2
      by_cases h0:E=0
      · subst h0;have nx:Hid (FsI d.sz ((d.fs.take (k + 1)).map (·.nm)) (d.fs.drop (k + 1)) T):=by
         have k1:=lq.out.next hE.out;rw [tk.out,List.map_append];exact k1
        clear lq tk hE;go_wp2;exact ⟨⟨k + 1,by omega,by simp,nx,D3,B3⟩,by simp [intOf]; omega⟩
      · have hne:(E != 0)=true:=by simpa using h0
        have fin:Hid (E=T):=by
         have k1:=lq.out.bad (by rw [hE.out]; exact h0);rw [hE.out] at k1;exact k1
        clear lq tk hE;go_wp2;go_ret;exact ⟨ret_int fin.out,B3.out⟩
  · obtain rfl:k=len:=by omega
    have fin:Hid (0=T):=by
     have lq:=lf.out;rw [List.drop_of_length_le (by have:=hlen.out; omega)] at lq;exact lq.fin
    clear lf D;go_wp2;go_ret;exact ⟨ret_int fin.out,B.out⟩
theorem ints_new (w:World) (ns:List Int) (l:List Value) (hl:l=ns.map fun n=>.int .i64 n) (T:TypeId):IntsIn (w.alloc (.cells l.toArray T)) w.heap.size 0 ns:=fun j h=>by
 rw [Nat.zero_add];refine cells_new w l T j _ ?_;rw [hl,List.getElem?_map,List.getElem?_eq_getElem h]; rfl
theorem within_new1 (lo hi a:Int) (w:World) (T:TypeId):Calls Tryz.prog 79 #[.int .i64 lo,.int .i64 hi,.slice (some ⟨w.heap.size,0,none⟩) 1 1] (w.alloc (.cells #[.int .i64 a] T)) fun e y=>e=.returned (.bool (inB lo hi a))∧Below w.heap.size w y:=by
 refine (within_any lo hi [a] w.heap.size 0 1 _ (ints_new w [a] _ rfl T) (by simp)).mono ?_;rintro e y ⟨rfl,rfl⟩;exact ⟨ret_bool (by simp),(Below.refl _ _).alloc (Nat.le_refl _) _⟩
theorem within_new3 (lo hi a b c:Int) (w:World) (T:TypeId):Calls Tryz.prog 79 #[.int .i64 lo,.int .i64 hi,.slice (some ⟨w.heap.size,0,none⟩) 3 3] (w.alloc (.cells #[.int .i64 a,.int .i64 b,.int .i64 c] T)) fun e y=>e=.returned (.bool (inB lo hi a && (inB lo hi b && inB lo hi c)))∧Below w.heap.size w y:=by
 refine (within_any lo hi [a,b,c] w.heap.size 0 3 _ (ints_new w [a,b,c] _ rfl T) (by simp)).mono ?_;rintro e y ⟨rfl,rfl⟩;exact ⟨ret_bool (by simp),(Below.refl _ _).alloc (Nat.le_refl _) _⟩
theorem contains_new3 (n a b c:Int) (w:World) (T:TypeId):Calls Tryz.prog 81 #[.slice (some ⟨w.heap.size,0,none⟩) 3 3,.int .i64 n] (w.alloc (.cells #[.int .i64 a,.int .i64 b,.int .i64 c] T)) fun e y=>e=.returned (.bool (decide (n=a) || (decide (n=b) || decide (n=c))))∧Below w.heap.size w y:=by
 refine (contains_any n [a,b,c] w.heap.size 0 3 _ (ints_new w [a,b,c] _ rfl T) (by simp)).mono ?_;rintro e y ⟨rfl,rfl⟩;exact ⟨ret_bool (by simp),(Below.refl _ _).alloc (Nat.le_refl _) _⟩
theorem numbered_any (d:Dv) (pf pq:Option Addr) (nf cf nq cq:Nat) (w:World) (hf:d.fs.length=nf) (hq:d.rq.length=nq) (hfv:FldsV w (.slice pf nf cf) d.fs) :
 Calls Tryz.prog 47 #[dvV d (.slice pf nf cf) (.slice pq nq cq)] w (BA w (gdN d)):=by
 have D0:Hid (DevB (w.alloc (.cells #[.string (txt d.nm),.int .i64 d.st,.int .i64 d.es,.int .i64 d.mx,.int .i64 d.sz,.string (txt d.sm),.slice pf nf cf,.slice pq nq cq,.int .i64 d.po,.int .i64 d.ti,.int .i64 d.re,.int .i64 d.ag] 33)) w.heap.size d (.slice pf nf cf) (.slice pq nq cq)):=DevB.new hfv _;have B0:Hid (Below w.heap.size w (w.alloc (.cells #[.string (txt d.nm),.int .i64 d.st,.int .i64 d.es,.int .i64 d.mx,.int .i64 d.sz,.string (txt d.sm),.slice pf nf cf,.slice pq nq cq,.int .i64 d.po,.int .i64 d.ti,.int .i64 d.re,.int .i64 d.ag] 33))):=(Below.refl _ _).alloc (Nat.le_refl _) _;have wi0:Hid (∀ x T,Calls Tryz.prog 79 #[.int .i64 0,.int .i64 255,.slice (some ⟨x.heap.size,0,none⟩) 3 3] (x.alloc (.cells #[.int .i64 d.st,.int .i64 d.es,.int .i64 d.mx] T)) fun e y=>e=.returned (.bool (gd1 d))∧Below x.heap.size x y):=fun x T=>within_new3 0 255 d.st d.es d.mx x T
 have wi1:Hid (∀ x T,Calls Tryz.prog 79 #[.int .i64 1,.int .i64 32,.slice (some ⟨x.heap.size,0,none⟩) 1 1] (x.alloc (.cells #[.int .i64 d.sz] T)) fun e y=>e=.returned (.bool (gd2 d))∧Below x.heap.size x y):=fun x T=>within_new1 1 32 d.sz x T
 have wi2:Hid (∀ x T,Calls Tryz.prog 79 #[.int .i64 1,.int .i64 1000,.slice (some ⟨x.heap.size,0,none⟩) 3 3] (x.alloc (.cells #[.int .i64 d.po,.int .i64 d.ti,.int .i64 d.ag] T)) fun e y=>e=.returned (.bool (gd3 d))∧Below x.heap.size x y):=fun x T=>within_new3 1 1000 d.po d.ti d.ag x T
 have wi3:Hid (∀ x T,Calls Tryz.prog 79 #[.int .i64 0,.int .i64 10,.slice (some ⟨x.heap.size,0,none⟩) 1 1] (x.alloc (.cells #[.int .i64 d.re] T)) fun e y=>e=.returned (.bool (gd4 d))∧Below x.heap.size x y):=fun x T=>within_new1 0 10 d.re x T
 have wi4:Hid (∀ x T,Calls Tryz.prog 79 #[.int .i64 1,.int .i64 16,.slice (some ⟨x.heap.size,0,none⟩) 1 1] (x.alloc (.cells #[.int .i64 (nq:Int)] T)) fun e y=>e=.returned (.bool (gd5 nq))∧Below x.heap.size x y):=fun x T=>within_new1 1 16 (nq:Int) x T
 have wi5:Hid (∀ x T,Calls Tryz.prog 79 #[.int .i64 0,.int .i64 8,.slice (some ⟨x.heap.size,0,none⟩) 1 1] (x.alloc (.cells #[.int .i64 (nf:Int)] T)) fun e y=>e=.returned (.bool (gd6 nf))∧Below x.heap.size x y):=fun x T=>within_new1 0 8 (nf:Int) x T
 have hG:gdN d=(gd1 d && (gd2 d && (gd3 d && (gd4 d && (gd5 nq && gd6 nf))))):=by unfold gdN; rw [hf,hq]
 rw [hG];clear hG hfv hf hq;generalize gd1 d=G0 at *;generalize gd2 d=G1 at *;generalize gd3 d=G2 at *;generalize gd4 d=G3 at *;generalize gd5 nq=G4 at *;generalize gd6 nf=G5 at *
 go_enter Tryz.func47,Tryz.ntmps47
 have wk0:Hid (Calls Tryz.prog 79 #[.int .i64 0,.int .i64 255,.slice (some ⟨w.heap.size + 1,0,none⟩) 3 3] ((w.alloc (.cells #[.string (txt d.nm),.int .i64 d.st,.int .i64 d.es,.int .i64 d.mx,.int .i64 d.sz,.string (txt d.sm),.slice pf nf cf,.slice pq nq cq,.int .i64 d.po,.int .i64 d.ti,.int .i64 d.re,.int .i64 d.ag] 33)).alloc (.cells #[.int .i64 d.st,.int .i64 d.es,.int .i64 d.mx] 3)) fun e y=>e=.returned (.bool G0)∧Below (w.alloc (.cells #[.string (txt d.nm),.int .i64 d.st,.int .i64 d.es,.int .i64 d.mx,.int .i64 d.sz,.string (txt d.sm),.slice pf nf cf,.slice pq nq cq,.int .i64 d.po,.int .i64 d.ti,.int .i64 d.re,.int .i64 d.ag] 33)).heap.size (w.alloc (.cells #[.string (txt d.nm),.int .i64 d.st,.int .i64 d.es,.int .i64 d.mx,.int .i64 d.sz,.string (txt d.sm),.slice pf nf cf,.slice pq nq cq,.int .i64 d.po,.int .i64 d.ti,.int .i64 d.re,.int .i64 d.ag] 33)) y):=by
  have k:=wi0.out (w.alloc (.cells #[.string (txt d.nm),.int .i64 d.st,.int .i64 d.es,.int .i64 d.mx,.int .i64 d.sz,.string (txt d.sm),.slice pf nf cf,.slice pq nq cq,.int .i64 d.po,.int .i64 d.ti,.int .i64 d.re,.int .i64 d.ag] 33)) 3;rw [World.size_alloc] at k ⊢;exact k
 clear wi0
 go_wp2_with fail
 refine wk0.out.mono ?_;rintro e y1 ⟨rfl,hb⟩;have D1:Hid (DevB y1 w.heap.size d (.slice pf nf cf) (.slice pq nq cq)):=D0.out.below hb;have B1:Hid (Below w.heap.size w y1):=B0.out.trans (hb.mono B0.out.size);clear hb D0 B0 wk0
 cases G0
 · clear D1 wi1 wi2 wi3 wi4 wi5;go_wp2;go_ret;exact ⟨rfl,B1.out⟩
 obtain ⟨_,_,_,_,c1,_⟩:=D1.out.cells;have wk1:Hid (Calls Tryz.prog 79 #[.int .i64 1,.int .i64 32,.slice (some ⟨y1.heap.size,0,none⟩) 1 1] (y1.alloc (.cells #[.int .i64 d.sz] 3)) fun e y=>e=.returned (.bool G1)∧Below y1.heap.size y1 y):=by
  have k:=wi1.out y1 3
  skip
  exact k
 clear wi1
 go_wp2_with fail
 refine wk1.out.mono ?_;rintro e y2 ⟨rfl,hb⟩;have D2:Hid (DevB y2 w.heap.size d (.slice pf nf cf) (.slice pq nq cq)):=D1.out.below hb;have B2:Hid (Below w.heap.size w y2):=B1.out.trans (hb.mono B1.out.size);clear hb D1 B1 wk1 c1
 cases G1
 · clear D2 wi2 wi3 wi4 wi5;go_wp2;go_ret;exact ⟨rfl,B2.out⟩
 obtain ⟨_,_,_,_,_,_,_,_,c1,c2,_,c3⟩:=D2.out.cells;have wk2:Hid (Calls Tryz.prog 79 #[.int .i64 1,.int .i64 1000,.slice (some ⟨y2.heap.size,0,none⟩) 3 3] (y2.alloc (.cells #[.int .i64 d.po,.int .i64 d.ti,.int .i64 d.ag] 3)) fun e y=>e=.returned (.bool G2)∧Below y2.heap.size y2 y):=by
  have k:=wi2.out y2 3
  skip
  exact k
 clear wi2
 go_wp2_with fail
 refine wk2.out.mono ?_;rintro e y3 ⟨rfl,hb⟩;have D3:Hid (DevB y3 w.heap.size d (.slice pf nf cf) (.slice pq nq cq)):=D2.out.below hb;have B3:Hid (Below w.heap.size w y3):=B2.out.trans (hb.mono B2.out.size);clear hb D2 B2 wk2 c1 c2 c3
 cases G2
 · clear D3 wi3 wi4 wi5;go_wp2;go_ret;exact ⟨rfl,B3.out⟩
 obtain ⟨_,_,_,_,_,_,_,_,_,_,c1,_⟩:=D3.out.cells;have wk3:Hid (Calls Tryz.prog 79 #[.int .i64 0,.int .i64 10,.slice (some ⟨y3.heap.size,0,none⟩) 1 1] (y3.alloc (.cells #[.int .i64 d.re] 3)) fun e y=>e=.returned (.bool G3)∧Below y3.heap.size y3 y):=by
  have k:=wi3.out y3 3
  skip
  exact k
 clear wi3
 go_wp2_with fail
 refine wk3.out.mono ?_;rintro e y4 ⟨rfl,hb⟩;have D4:Hid (DevB y4 w.heap.size d (.slice pf nf cf) (.slice pq nq cq)):=D3.out.below hb;have B4:Hid (Below w.heap.size w y4):=B3.out.trans (hb.mono B3.out.size);clear hb D3 B3 wk3 c1
 cases G3
 · clear D4 wi4 wi5;go_wp2;go_ret;exact ⟨rfl,B4.out⟩
 obtain ⟨_,_,_,_,_,_,_,c1,_⟩:=D4.out.cells;have wk4:Hid (Calls Tryz.prog 79 #[.int .i64 1,.int .i64 16,.slice (some ⟨y4.heap.size,0,none⟩) 1 1] (y4.alloc (.cells #[.int .i64 (nq:Int)] 3)) fun e y=>e=.returned (.bool G4)∧Below y4.heap.size y4 y):=by
  have k:=wi4.out y4 3
  skip
  exact k
 clear wi4
 go_wp2_with fail
 refine wk4.out.mono ?_;rintro e y5 ⟨rfl,hb⟩;have D5:Hid (DevB y5 w.heap.size d (.slice pf nf cf) (.slice pq nq cq)):=D4.out.below hb;have B5:Hid (Below w.heap.size w y5):=B4.out.trans (hb.mono B4.out.size);clear hb D4 B4 wk4 c1
 cases G4
 · clear D5 wi5;go_wp2;go_ret;exact ⟨rfl,B5.out⟩
 obtain ⟨_,_,_,_,_,_,c1,_⟩:=D5.out.cells;have wk5:Hid (Calls Tryz.prog 79 #[.int .i64 0,.int .i64 8,.slice (some ⟨y5.heap.size,0,none⟩) 1 1] (y5.alloc (.cells #[.int .i64 (nf:Int)] 3)) fun e y=>e=.returned (.bool G5)∧Below y5.heap.size y5 y):=by
  have k:=wi5.out y5 3
  skip
  exact k
 clear wi5
 go_wp2_with fail
 refine wk5.out.mono ?_;rintro e y6 ⟨rfl,hb⟩;have D6:Hid (DevB y6 w.heap.size d (.slice pf nf cf) (.slice pq nq cq)):=D5.out.below hb;have B6:Hid (Below w.heap.size w y6):=B5.out.trans (hb.mono B5.out.size);clear hb D5 B5 wk5 c1;clear D6;go_wp2;go_ret;exact ⟨rfl,B6.out⟩
theorem parted_any (d:Dv) (fv qv:Value) (w:World) (hfv:FldsV w fv d.fs):Calls Tryz.prog 51 #[dvV d fv qv] w (BA w (gdC d)):=by
 have B0:Hid (Below w.heap.size w (w.alloc (.cells #[.string (txt d.nm),.int .i64 d.st,.int .i64 d.es,.int .i64 d.mx,.int .i64 d.sz,.string (txt d.sm),fv,qv,.int .i64 d.po,.int .i64 d.ti,.int .i64 d.re,.int .i64 d.ag] 33))):=(Below.refl _ _).alloc (Nat.le_refl _) _;have co:Hid (∀ x T,Calls Tryz.prog 81 #[.slice (some ⟨x.heap.size,0,none⟩) 3 3,.int .i64 d.st] (x.alloc (.cells #[.int .i64 d.es,.int .i64 (bits .xor .i64 d.st d.mx),.int .i64 (bits .xor .i64 d.es d.mx)] T)) fun e y=>e=.returned (.bool (decide (d.st=d.es) || (decide (d.st=xorI d.st d.mx) || decide (d.st=xorI d.es d.mx))))∧Below x.heap.size x y):=fun x T=>contains_new3 d.st d.es _ _ x T
 have hG:gdC d=!(decide (d.st=d.es) || (decide (d.st=xorI d.st d.mx) || decide (d.st=xorI d.es d.mx))):=rfl;rw [hG];clear hG hfv;generalize (decide (d.st=d.es) || (decide (d.st=xorI d.st d.mx) || decide (d.st=xorI d.es d.mx)))=G at *;have ck:Hid (Calls Tryz.prog 81 #[.slice (some ⟨w.heap.size + 1,0,none⟩) 3 3,.int .i64 d.st] ((w.alloc (.cells #[.string (txt d.nm),.int .i64 d.st,.int .i64 d.es,.int .i64 d.mx,.int .i64 d.sz,.string (txt d.sm),fv,qv,.int .i64 d.po,.int .i64 d.ti,.int .i64 d.re,.int .i64 d.ag] 33)).alloc (.cells #[.int .i64 d.es,.int .i64 (bits .xor .i64 d.st d.mx),.int .i64 (bits .xor .i64 d.es d.mx)] 3)) fun e y=>e=.returned (.bool G)∧Below (w.alloc (.cells #[.string (txt d.nm),.int .i64 d.st,.int .i64 d.es,.int .i64 d.mx,.int .i64 d.sz,.string (txt d.sm),fv,qv,.int .i64 d.po,.int .i64 d.ti,.int .i64 d.re,.int .i64 d.ag] 33)).heap.size (w.alloc (.cells #[.string (txt d.nm),.int .i64 d.st,.int .i64 d.es,.int .i64 d.mx,.int .i64 d.sz,.string (txt d.sm),fv,qv,.int .i64 d.po,.int .i64 d.ti,.int .i64 d.re,.int .i64 d.ag] 33)) y):=by
  have k:=co.out (w.alloc (.cells #[.string (txt d.nm),.int .i64 d.st,.int .i64 d.es,.int .i64 d.mx,.int .i64 d.sz,.string (txt d.sm),fv,qv,.int .i64 d.po,.int .i64 d.ti,.int .i64 d.re,.int .i64 d.ag] 33)) 3;rw [World.size_alloc] at k ⊢;exact k
 clear co
 go_enter Tryz.func51,Tryz.ntmps51
 go_wp2_with fail
 refine ck.out.mono ?_;rintro e y ⟨rfl,hb⟩;have B1:Hid (Below w.heap.size w y):=B0.out.trans (hb.mono B0.out.size);clear hb B0 ck;go_wp2;go_ret;exact ⟨rfl,B1.out⟩
theorem cc1_any (b:Nat) (d:Dv) (fv qv:Value) (hn:(d.nm.length:Int)≤5000) (hq:∃ p c,qv=.slice p d.rq.length c) (w:World) (hD:DevB w b d fv qv):Calls Tryz.prog 45 #[.pointer (some ⟨b,0,none⟩)] w (BA w (nameB d.nm && gdN d)):=by
 have nc:Hid (∀ x,Calls Tryz.prog 46 #[.string (txt d.nm)] x fun e w'=>e=.returned (.bool (nameB d.nm))∧Below x.heap.size x w'):=fun x=>HM (txt d.nm) x (txt_sz _ hn)
 obtain ⟨pq,cq,rfl⟩:=hq;obtain ⟨pf,cf,rfl⟩:=hD.fl.form;have nb:∀ x,DevB x b d (.slice pf d.fs.length cf) (.slice pq d.rq.length cq)→Calls Tryz.prog 47 #[dvV d (.slice pf d.fs.length cf) (.slice pq d.rq.length cq)] x (BA x (gdN d)):=fun x hx=>numbered_any d pf pq _ cf _ cq x rfl rfl hx.fl
 replace nb:Hid (∀ x,DevB x b d (.slice pf d.fs.length cf) (.slice pq d.rq.length cq)→Calls Tryz.prog 47 #[dvV d (.slice pf d.fs.length cf) (.slice pq d.rq.length cq)] x (BA x (gdN d))):=nb;have c0:=hD.c 0 _ rfl;replace hD:Hid (DevB w b d (.slice pf d.fs.length cf) (.slice pq d.rq.length cq)):=hD;clear hn;generalize nameB d.nm=A at *
 cases A
 · clear nb hD
   go_enter Tryz.func45,Tryz.ntmps45
   go_wp2_with fail
   refine (nc.out w).mono ?_;rintro e y ⟨rfl,hb⟩;have B1:Hid (Below w.heap.size w y):=hb;clear hb nc c0;go_wp2;go_ret;exact ⟨rfl,B1.out⟩
 · obtain ⟨G,hG⟩:∃ G,gdN d=G:=⟨_,rfl⟩;rw [hG] at nb ⊢;clear hG
   go_enter Tryz.func45,Tryz.ntmps45
   have nb':=nb;clear nb
   go_wp2_with fail
   refine (nc.out w).mono ?_;rintro e y ⟨rfl,hb⟩;have B1:Hid (Below w.heap.size w y):=hb;have hDy:=hD.out.below hb;have nk:Hid (Calls Tryz.prog 47 #[dvV d (.slice pf d.fs.length cf) (.slice pq d.rq.length cq)] y (BA y G)):=nb'.out y hDy;obtain ⟨z0,z1,z2,z3,z4,z5,z6,z7,z8,z9,z10,z11⟩:=hDy.cells;clear hb nc c0 nb' hDy hD;obtain ⟨dn,dst,des,dmx,dsz,dsm,dfs,drq,dpo,dti,dre,dag⟩:=d;simp only at z0 z1 z2 z3 z4 z5 z6 z7 z8 z9 z10 z11
   go_wp2_with fail
   refine nk.out.mono ?_;rintro e y2 ⟨rfl,hb⟩;have B2:Hid (Below w.heap.size w y2):=B1.out.trans (hb.mono B1.out.size);clear hb nk B1 z0 z1 z2 z3 z4 z5 z6 z7 z8 z9 z10 z11;go_wp2;go_ret;exact ⟨rfl,B2.out⟩
theorem cc2_any (b:Nat) (d:Dv) (fv qv:Value) (w:World) (hD:DevB w b d fv qv):Calls Tryz.prog 48 #[.pointer (some ⟨b,0,none⟩)] w (BA w (isSum (txt d.sm))):=by
 have sc:Hid (∀ x,Calls Tryz.prog 49 #[.string (txt d.sm)] x fun e w'=>e=.returned (.bool (isSum (txt d.sm)))∧Below x.heap.size x w'):=fun x=>summed_any (txt d.sm) x
 have c5:=hD.c 5 _ rfl;clear hD;generalize isSum (txt d.sm)=A at *
 go_enter Tryz.func48,Tryz.ntmps48
 go_wp2_with fail
 refine (sc.out w).mono ?_;rintro e y ⟨rfl,hb⟩;have B1:Hid (Below w.heap.size w y):=hb;clear hb sc c5;go_wp2;go_ret;exact ⟨rfl,B1.out⟩
theorem cc3_any (b:Nat) (d:Dv) (fv qv:Value) (hq:∃ p n c,qv=.slice p n c) (w:World) (hD:DevB w b d fv qv):Calls Tryz.prog 50 #[.pointer (some ⟨b,0,none⟩)] w (BA w (gdC d)):=by
 have pc:Hid (Calls Tryz.prog 51 #[dvV d fv qv] w (BA w (gdC d))):=parted_any d fv qv w hD.fl;obtain ⟨pf,cf,rfl⟩:=hD.fl.form;obtain ⟨pq,nq,cq,rfl⟩:=hq;obtain ⟨z0,z1,z2,z3,z4,z5,z6,z7,z8,z9,z10,z11⟩:=hD.cells;clear hD;generalize gdC d=A at *;obtain ⟨dn,dst,des,dmx,dsz,dsm,dfs,drq,dpo,dti,dre,dag⟩:=d;simp only at z0 z1 z2 z3 z4 z5 z6 z7 z8 z9 z10 z11
 go_enter Tryz.func50,Tryz.ntmps50
 go_wp2_with fail
 refine pc.out.mono ?_;rintro e y ⟨rfl,hb⟩;have B1:Hid (Below w.heap.size w y):=hb;clear hb pc z0 z1 z2 z3 z4 z5 z6 z7 z8 z9 z10 z11;go_wp2;go_ret;exact ⟨rfl,B1.out⟩
theorem cc5_any (b:Nat) (d:Dv) (fv qv:Value) (hi:∀ f ∈ d.fs,FdI f) (hz:I64 d.sz) (hl:(d.fs.length:Int)≤100) (hq:∃ p n c,qv=.slice p n c) (w:World) (hD:DevB w b d fv qv):Calls Tryz.prog 53 #[.pointer (some ⟨b,0,none⟩)] w (QA w (fldsE d.sz [] d.fs)):=by
 have pc:Hid (Calls Tryz.prog 54 #[dvV d fv qv] w (QA w (fldsE d.sz [] d.fs))):=snfields_any d fv qv w hi hz hl hD.fl;obtain ⟨pf,cf,rfl⟩:=hD.fl.form;obtain ⟨pq,nq,cq,rfl⟩:=hq;obtain ⟨z0,z1,z2,z3,z4,z5,z6,z7,z8,z9,z10,z11⟩:=hD.cells;clear hD hi hz hl;generalize fldsE d.sz [] d.fs=A at *;obtain ⟨dn,dst,des,dmx,dsz,dsm,dfs,drq,dpo,dti,dre,dag⟩:=d;simp only at z0 z1 z2 z3 z4 z5 z6 z7 z8 z9 z10 z11
 go_enter Tryz.func53,Tryz.ntmps53
 go_wp2_with fail
 refine pc.out.mono ?_;rintro e y ⟨rfl,hb⟩;have B1:Hid (Below w.heap.size w y):=hb;clear hb pc z0 z1 z2 z3 z4 z5 z6 z7 z8 z9 z10 z11;go_wp2;go_ret;exact ⟨rfl,B1.out⟩
theorem cc4_any (b:Nat) (d:Dv) (fv qv:Value) (w:World) (hD:DevB w b d fv qv):Calls Tryz.prog 52 #[.pointer (some ⟨b,0,none⟩)] w (BA w (gdT d)):=by
 obtain ⟨_,_,_,_,_,_,_,_,z8,z9,_,z11⟩:=hD.cells;have B0:Hid (Below w.heap.size w w):=Below.refl _ _;unfold gdT;clear hD;generalize d.po=po at *;generalize d.ti=ti at *;generalize d.ag=ag at *
 by_cases h1:ti < po
 · rw [decide_eq_true h1]
   by_cases h2:po≤ag
   · rw [decide_eq_true h2]
     go_enter Tryz.func52,Tryz.ntmps52
     go_wp2;go_ret;exact ⟨rfl,B0.out⟩
   · rw [decide_eq_false h2]
     go_enter Tryz.func52,Tryz.ntmps52
     go_wp2;go_ret;exact ⟨rfl,B0.out⟩
 · rw [decide_eq_false h1]
   go_enter Tryz.func52,Tryz.ntmps52
   go_wp2;go_ret;exact ⟨rfl,B0.out⟩
structure DvI (d:Dv):Prop where
 nm:(d.nm.length:Int)≤5000
 fs:∀ f ∈ d.fs,FdI f
 sz:I64 d.sz
 ln:(d.fs.length:Int)≤100
abbrev ckV (b:Nat):Value:=.func (.func 53) #[] #[.pointer (some ⟨b,0,none⟩)]
theorem check_ask {y:World} {b p1 q1 p2 q2 p3 q3 p4 q4:Nat} {d:Dv} {fv qv:Value} (hi:DvI d) (hq:∃ p c,qv=.slice p d.rq.length c) (hD:DevB y b d fv qv)
 (m1:MuAt y p1 q1 (.func (.func 45) #[] #[.pointer (some ⟨b,0,none⟩)]) 6)
 (m2:MuAt y p2 q2 (.func (.func 48) #[] #[.pointer (some ⟨b,0,none⟩)]) 4)
 (m3:MuAt y p3 q3 (.func (.func 50) #[] #[.pointer (some ⟨b,0,none⟩)]) 10)
 (m4:MuAt y p4 q4 (.func (.func 52) #[] #[.pointer (some ⟨b,0,none⟩)]) 11)
 (T:TypeId) :
 Calls Tryz.prog 43 #[.slice (some ⟨y.heap.size,0,none⟩) 5 5] (y.alloc (.cells #[muV p1 q1,muV p2 q2,muV p3 q3,muV p4 q4,ckV b] T)) fun e z=>e=.returned (.int .i64 (ckE d))∧Below y.heap.size y z:=by
 have hb:Below y.heap.size y (y.alloc (.cells #[muV p1 q1,muV p2 q2,muV p3 q3,muV p4 q4,ckV b] T)):=(Below.refl _ _).alloc (Nat.le_refl _) _;have hq':∃ p n c,qv=.slice p n c:=by obtain ⟨p,c,h⟩:=hq; exact ⟨p,_,c,h⟩
 refine (ask_any [muV p1 q1,muV p2 q2,muV p3 q3,muV p4 q4,ckV b] (ckE d) y.heap.size 0 5 _ (QsIn.new y _ T) (by rw [World.size_alloc]; omega) ⟨[orE (nameB d.nm && gdN d) 6,orE (isSum (txt d.sm)) 4,orE (gdC d) 10,orE (gdT d) 11,fldsE d.sz [] d.fs],?_,rfl⟩ (by simp)).mono ?_
 · refine ⟨.inl ⟨p1,q1,rfl,fun x hx=>?_⟩,fun _=>⟨.inl ⟨p2,q2,rfl,fun x hx=>?_⟩,fun _=>⟨.inl ⟨p3,q3,rfl,fun x hx=>?_⟩,fun _=>⟨.inl ⟨p4,q4,rfl,fun x hx=>?_⟩,fun _=>⟨.inr (.inl ⟨b,rfl,fun x hx=>?_⟩),fun _=>trivial⟩⟩⟩⟩⟩
   all_goals have hx':=hb.trans (hx.mono hb.size)
   · exact must1_0 b p1 q1 6 _ x (m1.below hx') (cc1_any b d fv qv hi.nm hq x (hD.below hx'))
   · exact must1_1 b p2 q2 4 _ x (m2.below hx') (cc2_any b d fv qv x (hD.below hx'))
   · exact must1_2 b p3 q3 10 _ x (m3.below hx') (cc3_any b d fv qv hq' x (hD.below hx'))
   · exact must1_3 b p4 q4 11 _ x (m4.below hx') (cc4_any b d fv qv x (hD.below hx'))
   · exact cc5_any b d fv qv hi.fs hi.sz hi.ln hq' x (hD.below hx')
 · rintro e z ⟨rfl,hz'⟩;exact ⟨rfl,hb.trans (hz'.mono hb.size)⟩
theorem check_any (d:Dv) (fv qv:Value) (w:World) (hi:DvI d) (hq:∃ p c,qv=.slice p d.rq.length c) (hfv:FldsV w fv d.fs):Calls Tryz.prog 22 #[dvV d fv qv] w (QA w (ckE d)):=by
 have hmf:∀ (fn:Fn) (first cap:Array Value) (w:World),(Instr.makeFunc fn first cap).run Tryz.prog w=.ok (.func fn first cap) w:=fun _ _ _ _=>rfl
 have D0:Hid (DevB (w.alloc (.cells #[.string (txt d.nm),.int .i64 d.st,.int .i64 d.es,.int .i64 d.mx,.int .i64 d.sz,.string (txt d.sm),fv,qv,.int .i64 d.po,.int .i64 d.ti,.int .i64 d.re,.int .i64 d.ag] 33)) w.heap.size d fv qv):=DevB.new hfv _;have B0:Hid (Below w.heap.size w (w.alloc (.cells #[.string (txt d.nm),.int .i64 d.st,.int .i64 d.es,.int .i64 d.mx,.int .i64 d.sz,.string (txt d.sm),fv,qv,.int .i64 d.po,.int .i64 d.ti,.int .i64 d.re,.int .i64 d.ag] 33))):=(Below.refl _ _).alloc (Nat.le_refl _) _;have hi':Hid (DvI d):=hi;have hq':Hid (∃ p c,qv=.slice p d.rq.length c):=hq;clear hi hq hfv;obtain ⟨T,hT⟩:∃ T,ckE d=T:=⟨_,rfl⟩;rw [hT];replace hT:Hid (ckE d=T):=hT
 go_enter Tryz.func22,Tryz.ntmps22
 go_wp2_with fail
 refine (must_any 6 _ _ _).mono ?_;rintro e y1 ⟨p1,q1,rfl,m,hb⟩;have M1:Hid (MuAt y1 p1 q1 (.func (.func 45) #[] #[.pointer (some ⟨w.heap.size,0,none⟩)]) 6):=m;have D1:Hid (DevB y1 w.heap.size d fv qv):=D0.out.below hb;have B1:Hid (Below w.heap.size w y1):=B0.out.trans (hb.mono B0.out.size);clear m hb D0 B0
 go_wp2_with fail
 refine (must_any 4 _ _ _).mono ?_;rintro e y2 ⟨p2,q2,rfl,m,hb⟩;have M2:Hid (MuAt y2 p2 q2 (.func (.func 48) #[] #[.pointer (some ⟨w.heap.size,0,none⟩)]) 4):=m;replace M1:Hid (MuAt y2 p1 q1 (.func (.func 45) #[] #[.pointer (some ⟨w.heap.size,0,none⟩)]) 6):=M1.out.below hb;have D2:Hid (DevB y2 w.heap.size d fv qv):=D1.out.below hb;have B2:Hid (Below w.heap.size w y2):=B1.out.trans (hb.mono B1.out.size);clear m hb D1 B1
 go_wp2_with fail
 refine (must_any 10 _ _ _).mono ?_;rintro e y3 ⟨p3,q3,rfl,m,hb⟩;have M3:Hid (MuAt y3 p3 q3 (.func (.func 50) #[] #[.pointer (some ⟨w.heap.size,0,none⟩)]) 10):=m;replace M1:Hid (MuAt y3 p1 q1 (.func (.func 45) #[] #[.pointer (some ⟨w.heap.size,0,none⟩)]) 6):=M1.out.below hb;replace M2:Hid (MuAt y3 p2 q2 (.func (.func 48) #[] #[.pointer (some ⟨w.heap.size,0,none⟩)]) 4):=M2.out.below hb;have D3:Hid (DevB y3 w.heap.size d fv qv):=D2.out.below hb;have B3:Hid (Below w.heap.size w y3):=B2.out.trans (hb.mono B2.out.size);clear m hb D2 B2
 go_wp2_with fail
 refine (must_any 11 _ _ _).mono ?_;rintro e y4 ⟨p4,q4,rfl,m,hb⟩;have M4:Hid (MuAt y4 p4 q4 (.func (.func 52) #[] #[.pointer (some ⟨w.heap.size,0,none⟩)]) 11):=m;replace M1:Hid (MuAt y4 p1 q1 (.func (.func 45) #[] #[.pointer (some ⟨w.heap.size,0,none⟩)]) 6):=M1.out.below hb;replace M2:Hid (MuAt y4 p2 q2 (.func (.func 48) #[] #[.pointer (some ⟨w.heap.size,0,none⟩)]) 4):=M2.out.below hb;replace M3:Hid (MuAt y4 p3 q3 (.func (.func 50) #[] #[.pointer (some ⟨w.heap.size,0,none⟩)]) 10):=M3.out.below hb;have D4:Hid (DevB y4 w.heap.size d fv qv):=D3.out.below hb;have B4:Hid (Below w.heap.size w y4):=B3.out.trans (hb.mono B3.out.size);clear m hb D3 B3;have ak:Hid (Calls Tryz.prog 43 #[.slice (some ⟨y4.heap.size,0,none⟩) 5 5] (y4.alloc (.cells #[muV p1 q1,muV p2 q2,muV p3 q3,muV p4 q4,ckV w.heap.size] 100)) fun e z=>e=.returned (.int .i64 (ckE d))∧Below y4.heap.size y4 z):=
  check_ask hi'.out hq'.out D4.out M1.out M2.out M3.out M4.out _
 clear D4 M1 M2 M3 M4 hi' hq';rw [hT.out] at ak;clear hT
 go_wp2_with fail
 refine ak.out.mono ?_;rintro e z ⟨rfl,hb⟩;have B5:Hid (Below w.heap.size w z):=B4.out.trans (hb.mono B4.out.size);clear hb ak B4;go_wp2;go_ret;exact ⟨rfl,B5.out⟩
theorem dread_any (rs:List Lr) (v:Value) (w:World) (hv:RowsC w.heap.size w v rs) (hn:(rs.length:Int)≤4500) (hwl:∀ r ∈ rs,(r.2.length:Int)≤4500) (hz:∀ r ∈ rs,∀ z ∈ r.2,(z.length:Int)≤5000) :
 Calls Tryz.prog 40 #[v] w (ReadQ w (readM rs)):=by
 have L0:Hid (LeftR dv0 [] rs (readM rs)):=rfl;generalize readM rs=T at *;have hmm:=@run_makeMap Tryz.prog;have mk:Hid (∀ (B:Nat) (w:World),Calls Tryz.prog 75 #[.pointer (some ⟨B,0,none⟩)] w fun e z=>∃ G ms c x,e=.returned (.map (some G))∧MkMap w.heap.size B x z G ms c∧(∀ j f,insK j=some f→x.getD j false=true)∧Below w.heap.size w z):=meanings_any;obtain ⟨p,cap,rfl⟩:∃ p cap,v=.slice p rs.length cap:=by
  rcases hv with ⟨rfl,rfl⟩ | ⟨g,o,cap,rfl,_⟩
  · exact ⟨_,_,rfl⟩
  · exact ⟨_,_,rfl⟩
 replace hv:Hid (RowsC w.heap.size w (.slice p rs.length cap) rs):=hv;replace hwl:Hid (∀ r ∈ rs,(r.2.length:Int)≤4500):=hwl;replace hz:Hid (∀ r ∈ rs,∀ z ∈ r.2,(z.length:Int)≤5000):=hz;obtain ⟨len,hlen⟩:∃ len,rs.length=len:=⟨_,rfl⟩;rw [hlen] at hn hv ⊢;replace hlen:Hid (rs.length=len):=hlen
 go_enter Tryz.func40,Tryz.ntmps40
 go_upto_region 2 with fail
 have hR1:(((w.alloc (.cells dz 33)).alloc (.map #[] 0)).alloc (.cells (rdA dv0 nilS nilS (w.heap.size + 1)) 138)).heap[w.heap.size]?=some (.cells dz 33 (0,0)):=map_under _ _ _ _ (map_under _ _ _ _ (World.alloc_heap_new w _));have hM1:(((w.alloc (.cells dz 33)).alloc (.map #[] 0)).alloc (.cells (rdA dv0 nilS nilS (w.heap.size + 1)) 138)).heap[w.heap.size + 1]?=some (.map #[] 0):=by
  have k:=map_under _ _ (.cells (rdA dv0 nilS nilS (w.heap.size + 1)) 138) _ (World.alloc_heap_new (w.alloc (.cells dz 33)) (.map #[] 0))
  rwa [World.size_alloc] at k
 have hB1:(((w.alloc (.cells dz 33)).alloc (.map #[] 0)).alloc (.cells (rdA dv0 nilS nilS (w.heap.size + 1)) 138)).heap[w.heap.size + 1 + 1]?=some (.cells (rdA dv0 nilS nilS (w.heap.size + 1)) 138 (0,0)):=by
  have k:=World.alloc_heap_new ((w.alloc (.cells dz 33)).alloc (.map #[] 0)) (.cells (rdA dv0 nilS nilS (w.heap.size + 1)) 138)
  rwa [World.size_alloc,World.size_alloc] at k
 have sz1:(((w.alloc (.cells dz 33)).alloc (.map #[] 0)).alloc (.cells (rdA dv0 nilS nilS (w.heap.size + 1)) 138)).heap.size=w.heap.size + 1 + 1 + 1:=by rw [World.size_alloc,World.size_alloc,World.size_alloc]
 have b1:Below w.heap.size w (((w.alloc (.cells dz 33)).alloc (.map #[] 0)).alloc (.cells (rdA dv0 nilS nilS (w.heap.size + 1)) 138)):=(((Below.refl _ _).alloc (Nat.le_refl _) _).alloc (by rw [World.size_alloc]; omega) _).alloc (by rw [World.size_alloc,World.size_alloc]; omega) _;change Code.wp Tryz.prog _ _ _ (((w.alloc (.cells dz 33)).alloc (.map #[] 0)).alloc (.cells (rdA dv0 nilS nilS (w.heap.size + 1)) 138));generalize ((w.alloc (.cells dz 33)).alloc (.map #[] 0)).alloc (.cells (rdA dv0 nilS nilS (w.heap.size + 1)) 138)=w1 at *
 go_wp2_with fail
 refine (mk.out _ _).mono ?_;rintro e z ⟨G,ms,mc,xx,rfl,hmk,hall,hbz⟩;have nn:Hid (RdN w w.heap.size (w.heap.size + 1 + 1) (w.heap.size + 1) z.heap.size):=by
  have:=hbz.size;exact ⟨Nat.le_refl _,by omega,by omega,by omega,by omega,by omega,by omega,by omega,by omega⟩
 have S0:Hid (RdSt w w.heap.size (w.heap.size + 1 + 1) (w.heap.size + 1) z.heap.size G ms mc z dv0 nilS nilS []):=by
  refine ⟨⟨Nat.le_refl _,(hbz.block _ (by omega)).trans hB1,⟨#[],0,(hbz.block _ (by omega)).trans hM1,LnOk.first⟩,World.ownsRow_nil _ _ _ _,.inl ⟨rfl,rfl⟩⟩,mean_ok hmk hall (by omega) (by omega),SeenOk.first,(hbz.block _ (by omega)).trans hR1,?_⟩;exact b1.trans (hbz.mono (by omega))
 have tk:Hid (TkC w.heap.size (w.heap.size + 1 + 1) (w.heap.size + 1) z.heap.size G ms mc w):=tkC nn.out;have la:Hid (LaC w.heap.size (w.heap.size + 1 + 1) (w.heap.size + 1) z.heap.size G ms mc w):=laC nn.out;clear hmk hall hbz hR1 hM1 hB1 sz1 b1 mk;generalize z.heap.size=N at *;generalize w.heap.size + 1 + 1=B at *;generalize w.heap.size + 1=M at *;go_wp2
 go_loopw [17] (fun vi wr=>∃ (k:Nat) (d:Dv) (fv qv:Value) (seen:List Wd),(k:Int)≤(len:Int)∧vi=.int .i64 (k:Int)∧Hid (RdSt w w.heap.size B M N G ms mc wr d fv qv seen)∧Hid (LeftR d seen (rs.drop k) T)) (fun vi wr=>((len:Int) - intOf vi).toNat)
 case atStart=>exact ⟨0,dv0,nilS,nilS,[],by omega,rfl,S0,L0⟩
 case round=>
  obtain ⟨k,d,fv,qv,seen,hk,rfl,st,left⟩:=hrel;clear S0 L0;have hsl:(seen.length:Int)≤5000:=by have:=sn_len st.out.sn; omega
  by_cases hlt:k < len
  · have hki:(k:Int) < (len:Int):=by omega
    have hkr:k < rs.length:=by have:=hlen.out; omega
    have rw1:=hv.out.below st.out.b;rcases rw1 with ⟨_,hnil⟩ | ⟨g,o,cap',e1,hrow,hg⟩
    · rw [hnil] at hkr; cases hkr
    injection e1 with e1 e2 e3
    subst e1;subst e3;clear e2;obtain ⟨q0,u,q1,q2⟩:=hrow k hkr;rw [Nat.mul_comm 2 k] at q0 q1;have lf:=left.out;rw [List.drop_eq_getElem_cons hkr] at lf;obtain ⟨r,hr⟩:∃ r,rs[k]=r:=⟨_,rfl⟩;have hrm:r ∈ rs:=by rw [← hr]; exact List.getElem_mem hkr
    rw [hr] at q0 q2 lf;have hwr:=hwl.out r hrm;have hzr:=hz.out r hrm;obtain ⟨ln,ws⟩:=r;simp only at q0 q2 hwr hzr;obtain ⟨pu,cu,rfl⟩:=q2.form;have ba:Below wr.heap.size wr (wr.alloc (.cells #[.int .i64 ln,.slice pu ws.length cu] 56)):=(Below.refl _ _).alloc (Nat.le_refl _) _;have st2:Hid (RdSt w w.heap.size B M N G ms mc (wr.alloc (.cells #[.int .i64 ln,.slice pu ws.length cu] 56)) d fv qv seen):=st.out.below nn.out ba;have hw2:Hid (WdsAt w.heap.size (wr.alloc (.cells #[.int .i64 ln,.slice pu ws.length cu] 56)) (.slice pu ws.length cu) ws):=q2.below (ba.mono st.out.b.size);have cl:Hid ((wr.alloc (.cells #[.int .i64 ln,.slice pu ws.length cu] 56)).cell? ⟨wr.heap.size,0,none⟩=some (.int .i64 ln)):=by unfold Hid; simp
    have ow:=World.ownsRow.lt st.out.st.ro;have nr:Hid (wr.heap.size ≠ B∧wr.heap.size ≠ M∧some wr.heap.size ≠ fv.ownBlock):=by
     have h1:=st.out.st.sz;have h2:=nn.out.BN;have h3:=nn.out.MN;exact ⟨by omega,by omega,fun e=>by have:=(ow _ e.symm).2; omega⟩
    have nrb:Hid (N≤wr.heap.size):=st.out.st.sz;replace lf:Hid (LeftR d seen ((ln,ws) :: rs.drop (k + 1)) T):=lf;have tk2:Hid (Calls Tryz.prog 76 #[.pointer (some ⟨B,0,none⟩),.map (some G),.slice pu ws.length cu] (wr.alloc (.cells #[.int .i64 ln,.slice pu ws.length cu] 56)) (TakeQ N B M (wr.alloc (.cells #[.int .i64 ln,.slice pu ws.length cu] 56)) d fv qv seen ws)):=tk.out _ _ _ _ _ st2.out hsl ws _ hw2.out hzr (by omega);have wk:IntKind.i64.wrap ((k:Int) + 1)=(k:Int) + 1:=by simp only [IntKind.wrap_i64]; omega
    have hkb:0≤(k:Int):=by omega
    clear st hrow ow ba q2 hw2 left hr hzr hrm
    go_upto_region 6 with fail
    generalize hwx:wr.alloc (.cells #[.int .i64 ln,.slice pu ws.length cu] 56)=wx at *;have cl1:wx.cell? ⟨wr.heap.size,1,none⟩=some (.slice pu ws.length cu):=by rw [← hwx]; simp
    clear hwx;generalize wr.heap.size=rb at *
    go_wp2_with fail
    refine tk2.out.mono ?_;rintro e y ⟨rfl,hfr,hst⟩;clear tk2 q0 q1 cl1
    cases hs:stepM d seen ws with
    | error n=>
     have fin:Hid (T=(dv0,ln,n)):=lf.out.bad hs;have hn3:=step_err hs;have rb1:rb ≠ w.heap.size:=by have:=nn.out.RN; have:=nrb.out; omega
     have rb2:w.heap.size ≠ rb:=fun e=>rb1 e.symm
     have lr:=hfr.cell cl.out nr.out.1 nr.out.2.1 nr.out.2.2;have rcY:y.heap[w.heap.size]?=some (.cells dz 33 (0,0)):=(hfr.block _ (Array.getElem?_eq_some_iff.1 st2.out.rc).1 nn.out.RB nn.out.RM (own_ge st2.out.st.ro nn.out.RN)).trans st2.out.rc;have bY:Hid (Below w.heap.size w y):=hfr.below st2.out.b st2.out.b.size nn.out.B0 nn.out.M0 (fun j hj=>own_ge st2.out.st.ro (by have:=nn.out.RN; omega));have hne:(((errN (Except.error n):Nat):Int) != 0)=true:=by rw [bne_iff_ne]; show ((n:Nat):Int) ≠ 0; omega
     have en:((errN (Except.error n):Nat):Int)=(n:Int):=rfl;rw [en] at hne ⊢;obtain ⟨c0,f0,c1,f1,c2,f2,c3,f3,c4,f4,c5,f5,c6,f6,c7,f7,c8,f8,c9,f9,c10,f10,c11,f11⟩:=rd12 rcY;clear hst hfr cl st2 lf tk la hs;replace rcY:Hid (y.heap[w.heap.size]?=some (.cells dz 33 (0,0))):=rcY
     go_upto_region 8 with fail
     refine region_props (errP rb ln (n:Int)) (ErrW y w.heap.size rb ln) (by kernel_rfl) (by kernel_rfl) ?_ ?_ ?_
     · intro x a z i op ho hI haf hx hxi hW;have hi:i < 7:=(List.getElem?_eq_some_iff.1 ho).1;have xi:=getD_false hxi
       match i,hi with
       | 0,_=>
        obtain rfl:=Option.some.inj ho;go_simp;exact ⟨_,rfl,rfl,RegK.refl _ _ _,hW.other (by decide)⟩
       | 1,_=>
        obtain rfl:=Option.some.inj ho;have e1:a.tmps.getD 8 undef=.pointer (some ⟨rb,0,none⟩):=(hI.was (by kernel_rfl)).trans rfl;go_simp;exact ⟨_,rfl,rfl,RegK.refl _ _ _,hW.other (by decide)⟩
       | 2,_=>
        obtain rfl:=Option.some.inj ho;have e1:a.tmps.getD 29 undef=.pointer (some ⟨rb,0,none⟩):=hI.val 1 _ 29 rfl rfl (dep_at haf (by kernel_rfl));have l1:=hW.lr;go_simp;exact ⟨_,rfl,rfl,RegK.refl _ _ _,hW.other (by decide)⟩
       | 3,_=>
        obtain rfl:=Option.some.inj ho;have e1:a.tmps.getD 9 undef=.int .i64 (n:Int):=(hI.was (by kernel_rfl)).trans rfl;go_simp;exact ⟨_,rfl,rfl,RegK.refl _ _ _,hW.other (by decide)⟩
       | 4,_=>
        obtain rfl:=Option.some.inj ho;have e1:a.tmps.getD 28 undef=.agg dz:=hI.val 0 _ 28 rfl rfl (dep_at haf (by kernel_rfl));have e2:a.tmps.getD 2 undef=.pointer (some ⟨w.heap.size,0,none⟩):=(hI.was (by kernel_rfl)).trans rfl;have W':=hW.stored rb1 xi (by rw [hx]; decide);obtain rfl:=hW.f0 xi;go_simp;exact ⟨errK,W'⟩
       | 5,_=>
        obtain rfl:=Option.some.inj ho;have e1:a.tmps.getD 30 undef=.int .i64 ln:=hI.val 2 _ 30 rfl rfl (dep_at haf (by kernel_rfl));go_simp;exact ⟨_,rfl,rfl,RegK.refl _ _ _,hW.other (by decide)⟩
       | 6,_=>
        obtain rfl:=Option.some.inj ho;have e1:a.tmps.getD 31 undef=.int .i64 (n:Int):=hI.val 3 _ 31 rfl rfl (dep_at haf (by kernel_rfl));go_simp;exact ⟨_,rfl,rfl,RegK.refl _ _ _,hW.other (by decide)⟩
     · intro x a z hx hall hI hW;obtain rfl:=hW.f1 (hall 4 (by decide));have r2:a.tmps.getD 2 undef=.pointer (some ⟨w.heap.size,0,none⟩):=(hI.was (by kernel_rfl)).trans rfl;have r3:a.tmps.getD 3 undef=.int .i64 ln:=hI.val 5 _ 3 rfl rfl (hall 5 (by decide));have r4:a.tmps.getD 4 undef=.int .i64 (n:Int):=hI.val 6 _ 4 rfl rfl (hall 6 (by decide));have pa:(put12 y w.heap.size (.string ⟨#[]⟩) (.int .i64 0) (.int .i64 0) (.int .i64 0) (.int .i64 0) (.string ⟨#[]⟩) (.slice none 0 0) (.slice none 0 0) (.int .i64 0) (.int .i64 0) (.int .i64 0) (.int .i64 0)).drew.heap[w.heap.size]?=some (.cells dz 33 (0,0)):=by rw [drew_heap]; exact put12_at (y:=y) rcY.out (.string ⟨#[]⟩) (.int .i64 0) (.int .i64 0) (.int .i64 0) (.int .i64 0) (.string ⟨#[]⟩) (.slice none 0 0) (.slice none 0 0) (.int .i64 0) (.int .i64 0) (.int .i64 0) (.int .i64 0)
       have pb:Below w.heap.size w (put12 y w.heap.size (.string ⟨#[]⟩) (.int .i64 0) (.int .i64 0) (.int .i64 0) (.int .i64 0) (.string ⟨#[]⟩) (.slice none 0 0) (.slice none 0 0) (.int .i64 0) (.int .i64 0) (.int .i64 0) (.int .i64 0)).drew:=(put12_below bY.out (Nat.le_refl w.heap.size) (.string ⟨#[]⟩) (.int .i64 0) (.int .i64 0) (.int .i64 0) (.int .i64 0) (.string ⟨#[]⟩) (.slice none 0 0) (.slice none 0 0) (.int .i64 0) (.int .i64 0) (.int .i64 0) (.int .i64 0)).drew;have df:=hI.dfr;clear hI hW hall;generalize (put12 y w.heap.size (.string ⟨#[]⟩) (.int .i64 0) (.int .i64 0) (.int .i64 0) (.int .i64 0) (.string ⟨#[]⟩) (.slice none 0 0) (.slice none 0 0) (.int .i64 0) (.int .i64 0) (.int .i64 0) (.int .i64 0)).drew=yy at *;obtain ⟨TT,ds⟩:=a;simp only at df r2 r3 r4;subst df;go_wp2;refine bodyPost_ret (res_dev3 Tryz.results40 r2 r3 r4 pa) rfl ?_;exact ⟨nilS,nilS,by rw [fin.out]; rfl,.inl ⟨rfl,by rw [fin.out]; rfl⟩,.inl ⟨rfl,by rw [fin.out]; rfl⟩,pb,fun g h=>(by cases h),fun g h=>(by cases h)⟩
     · exact ⟨lr,fun _=>rfl,fun h=>(by simp at h)⟩
    | ok d'=>
     obtain ⟨fv',qv',s1,s2⟩:=hst d' hs;have st3:Hid (RdSt w w.heap.size B M N G ms mc y d' fv' qv' (seen ++ [ws.headD []])):=st2.out.step nn.out hfr s1 (st2.out.sn.step hs);have lf2:Hid (LeftR d' (seen ++ [ws.headD []]) (rs.drop (k + 1)) T):=lf.out.good hs;have en:((errN (Except.ok d'):Nat):Int)=0:=rfl;rw [en];clear hst hfr cl st2 lf tk la hs s1 s2;go_wp2;exact ⟨⟨k + 1,d',fv',qv',_,by omega,by simp,st3,lf2⟩,by simp [intOf]; omega⟩
  · obtain rfl:k=len:=by omega
    have lf:=left.out;rw [List.drop_of_length_le (by have:=hlen.out; omega)] at lf;have fin:Hid (T=if lackB seen=true then (dv0,0,9) else (d,0,0)):=lf.fin;clear tk left lf
    go_wp2_with fail
    refine (la.out _ _ _ _ _ st.out hsl).mono ?_;rintro e y ⟨rfl,hb⟩;have st2:=st.out.below nn.out hb;have rcY:=st2.rc;have bY:Hid (Below w.heap.size w y):=st2.b;obtain ⟨c0,f0,c1,f1,c2,f2,c3,f3,c4,f4,c5,f5,c6,f6,c7,f7,c8,f8,c9,f9,c10,f10,c11,f11⟩:=rd12 rcY
    cases hl:lackB seen
    · rw [hl] at fin;replace fin:Hid (T=(d,0,0)):=fin.out;have FL:Hid (FldsAt y fv d.fs):=flds_own st2.st.ro;have RQ:Hid (BytesAt y qv d.rq):=st2.st.rq.bytes;have rdY:=st2.st.rd;have fN:Hid (∀ g,fv.ownBlock=some g→w.heap.size < g):=fun g e=>by have:=(World.ownsRow.lt st2.st.ro g e).1; have:=nn.out.RN; omega
      have qN:Hid (RqAt N y fv qv d.rq):=st2.st.rq;have qM:Hid (∀ g,qv.ownBlock=some g→w.heap.size≤g):=fun g e=>by
       rcases st2.st.rq with ⟨h,_⟩ | ⟨g',o',cap',h,_,_,h4,_⟩
       · rw [h] at e; cases e
       · rw [h] at e;have e2:g'=g:=Option.some.inj e;have:=nn.out.RN;omega
      have oN:Hid (y.ownsRow N 70 9 fv d.fs.length (fdCs d.fs)):=st2.st.ro;replace rcY:Hid (y.heap[w.heap.size]?=some (.cells dz 33 (0,0))):=rcY;have g0:=(rd_cell rdY 0).1;have g1:=(rd_cell rdY 1).1;have g2:=(rd_cell rdY 2).1;have g3:=(rd_cell rdY 3).1;have g4:=(rd_cell rdY 4).1;have g5:=(rd_cell rdY 5).1;have g6:=(rd_cell rdY 6).1;have g7:=(rd_cell rdY 7).1;have g8:=(rd_cell rdY 8).1;have g9:=(rd_cell rdY 9).1;have g10:=(rd_cell rdY 10).1;have g11:=(rd_cell rdY 11).1;simp only [List.getElem?_toArray,List.getElem?_cons_zero,List.getElem?_cons_succ] at g0 g1 g2 g3 g4 g5 g6 g7 g8 g9 g10 g11;clear st st2 la hb rdY hl FL RQ;obtain ⟨pf,nf,cf,rfl⟩:∃ p n c,fv=.slice p n c:=by
       rcases own_slice oN.out with ⟨e,_⟩ | ⟨g,cap,e,_⟩
       · exact ⟨_,_,_,e⟩
       · exact ⟨_,_,_,e⟩
      obtain ⟨pq,nq,cq,rfl⟩:∃ p n c,qv=.slice p n c:=by
       rcases qN.out with ⟨e,_⟩ | ⟨g,o,cap,e,_⟩
       · exact ⟨_,_,_,e⟩
       · exact ⟨_,_,_,e⟩
      go_wp2;change bodyPost _ _ _ _ _ (putD y w.heap.size d (.slice pf nf cf) (.slice pq nq cq));have pa:=putD_at (y:=y) rcY.out d (.slice pf nf cf) (.slice pq nq cq);have pb:=putD_below bY.out (Nat.le_refl w.heap.size) d (.slice pf nf cf) (.slice pq nq cq);have off:∀ k,N≤k→(putD y w.heap.size d (.slice pf nf cf) (.slice pq nq cq)).heap[k]?=y.heap[k]?:=fun k hk=>put12_off (by have:=nn.out.RN; omega) _ _ _ _ _ _ _ _ _ _ _ _
      generalize putD y w.heap.size d (.slice pf nf cf) (.slice pq nq cq)=yy at *;refine bodyPost_ret (res_dev3 Tryz.results40 rfl rfl rfl pa) rfl ?_;refine ⟨.slice pf nf cf,.slice pq nq cq,by rw [fin.out]; rfl,?_,?_,pb,fun g h=>Nat.le_of_lt (fN.out g h),fun g h=>qM.out g h⟩
      · rw [fin.out]; exact flds_own (own_off oN.out off)
      · rw [fin.out]; exact rq_off qN.out off
    · rw [hl] at fin;replace fin:Hid (T=(dv0,0,9)):=fin.out;replace rcY:Hid (y.heap[w.heap.size]?=some (.cells dz 33 (0,0))):=rcY;clear st st2 la hb hl;go_wp2;change bodyPost _ _ _ _ _ (put12 y w.heap.size (.string ⟨#[]⟩) (.int .i64 0) (.int .i64 0) (.int .i64 0) (.int .i64 0) (.string ⟨#[]⟩) (.slice none 0 0) (.slice none 0 0) (.int .i64 0) (.int .i64 0) (.int .i64 0) (.int .i64 0));have pa:=put12_at (y:=y) rcY.out (.string ⟨#[]⟩) (.int .i64 0) (.int .i64 0) (.int .i64 0) (.int .i64 0) (.string ⟨#[]⟩) (.slice none 0 0) (.slice none 0 0) (.int .i64 0) (.int .i64 0) (.int .i64 0) (.int .i64 0);have pb:=put12_below bY.out (Nat.le_refl w.heap.size) (.string ⟨#[]⟩) (.int .i64 0) (.int .i64 0) (.int .i64 0) (.int .i64 0) (.string ⟨#[]⟩) (.slice none 0 0) (.slice none 0 0) (.int .i64 0) (.int .i64 0) (.int .i64 0) (.int .i64 0);generalize put12 y w.heap.size (.string ⟨#[]⟩) (.int .i64 0) (.int .i64 0) (.int .i64 0) (.int .i64 0) (.string ⟨#[]⟩) (.slice none 0 0) (.slice none 0 0) (.int .i64 0) (.int .i64 0) (.int .i64 0) (.int .i64 0)=yy at *;refine bodyPost_ret (res_dev3 Tryz.results40 rfl rfl rfl pa) rfl ?_;exact ⟨nilS,nilS,by rw [fin.out]; rfl,.inl ⟨rfl,by rw [fin.out]; rfl⟩,.inl ⟨rfl,by rw [fin.out]; rfl⟩,pb,fun g h=>(by cases h),fun g h=>(by cases h)⟩
end Go.Proofs.YthabffjgdhfbmaaGreatDoor
