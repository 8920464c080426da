/-
  Texts that belong together, one behind the other: SnRc, SnLr, ShRd, DsSame, ShDn, ShAlK, ShAw, ShRds0. Conditions: as each says.
-/
import Derived.ChangeOld
import Derived.Laws.BitsAllLaws
import Derived.Laws.OwnMore
import Derived.Laws.Shifts
import Derived.Lib.QuietBelowIn
import Derived.OpenShut
import Derived.ProofKit
import Derived.RangeFuncCalls
import Derived.ShutString
import Derived.Sort.BigQuietIn
import Derived.Test.YthabffjgdhfbmaaGreatDoorProg
import Derived.Test.YthabffjgdhfbmaaGreatDoorJl1
import Derived.Test.YthabffjgdhfbmaaGreatDoorJl2
import Derived.Test.YthabffjgdhfbmaaGreatDoorJl3
import Derived.Test.YthabffjgdhfbmaaGreatDoorJl4
import Derived.Test.YthabffjgdhfbmaaGreatDoorJl5
import Derived.Test.YthabffjgdhfbmaaGreatDoorJl6
import Derived.Test.YthabffjgdhfbmaaGreatDoorJl7
import Derived.Test.YthabffjgdhfbmaaGreatDoorJl8
import Derived.Test.YthabffjgdhfbmaaGreatDoorJl9
import Derived.Test.YthabffjgdhfbmaaGreatDoorJl10
import Derived.Test.YthabffjgdhfbmaaGreatDoorJl11
import Derived.Test.YthabffjgdhfbmaaGreatDoorJl12
import Derived.Test.YthabffjgdhfbmaaGreatDoorJl13
import Derived.Test.YthabffjgdhfbmaaGreatDoorJl14
import Derived.Test.YthabffjgdhfbmaaGreatDoorJl15
import Derived.Test.YthabffjgdhfbmaaGreatDoorJl16
import Derived.Test.YthabffjgdhfbmaaGreatDoorJl17
import Derived.Test.YthabffjgdhfbmaaGreatDoorJl18
import Derived.Test.YthabffjgdhfbmaaGreatDoorJl19
import Derived.Test.YthabffjgdhfbmaaGreatDoorJl20
import Derived.Test.YthabffjgdhfbmaaGreatDoorJl21
import Derived.Test.YthabffjgdhfbmaaGreatDoorJl22
set_option maxRecDepth 100000
set_option maxHeartbeats 32000000
set_option linter.unusedVariables false
namespace Go.Proofs.YthabffjgdhfbmaaGreatDoor
open Go.RowKit
structure RcI (w wr:World) (d:Dv) (fv qv:Value):Prop where
 d:DevB wr w.heap.size d fv qv
 b:Below w.heap.size w wr
theorem RcI.below {w x y:World} {d:Dv} {fv qv:Value} (h:RcI w x d fv qv) (k:Below x.heap.size x y):RcI w y d fv qv:=⟨h.d.below k,h.b.trans (k.mono h.b.size)⟩
theorem rof_any (s:ByteArray) (w:World):Calls Tryz.prog 26 #[.string s,.slice none 0 0] w fun e w'=>∃ p n c,e=.returned (.tuple #[.slice p n c,.bool (isSum s)])∧(isSum s=true→n=sizeK (whichN s))∧Below w.heap.size w w':=by
 have hv:BytesAt w (.slice none 0 0) []:=.inl ⟨rfl,rfl⟩;rcases which_cases s with ⟨k,hk,e,hw⟩ | ⟨hw,hn⟩
 · rw [sum_yes hk hw,hw];rw [e];refine (rof_yes hk (.slice none 0 0) [] w hv (by simp) (fun c hc=>by cases hc)).mono ?_;rintro e y ⟨x,rfl,hx,hb⟩;have hl:=end_len hk [];rcases hx with ⟨rfl,h0⟩ | ⟨g,o,cap,rfl,_⟩
   · exact ⟨_,_,_,rfl,fun _=>by rw [← hl,h0]; rfl,hb⟩
   · exact ⟨_,_,_,rfl,fun _=>hl,hb⟩
 · rw [sum_not hw];refine (rof_no s (.slice none 0 0) [] w hv (by simp) (fun c hc=>by cases hc) hn).mono ?_;rintro e y ⟨rfl,hb⟩;exact ⟨_,_,_,rfl,fun h=>(by cases h),hb⟩
def NoneIn (nm:Wd) (l:List Wd):Prop:=nm ∉ l
theorem none_next {nm:Wd} {fs:List Fd} {k:Nat} (hk:k < fs.length) (h:NoneIn nm ((fs.take k).map (·.nm))) (hn:¬ fs[k].nm=nm):NoneIn nm ((fs.take (k + 1)).map (·.nm)):=by
 unfold NoneIn at *;rw [← List.take_append_getElem hk,List.map_append,List.mem_append];rintro (c | c)
 · exact h c
 · exact hn (by rw [List.map_cons,List.map_nil,List.mem_singleton] at c; exact c.symm)
theorem some_in {nm:Wd} {fs:List Fd} {k i:Nat} (hk:k < i) (hi:i≤fs.length) (hn:(fs[k]'(by omega)).nm=nm):nm ∈ (fs.take i).map (·.nm):=by
 rw [← hn];refine List.mem_map_of_mem ?_;have hk':k < (fs.take i).length:=by rw [List.length_take]; omega
 have e:(fs.take i)[k]=fs[k]'(by omega):=List.getElem_take;rw [← e];exact List.getElem_mem hk'
theorem rck_c (d:Dv) (pf pq:Option Addr) (nf cf nq cq:Nat) (w:World) (hf:d.fs.length=nf) (hq:d.rq.length=nq) (hfv:FldsV w (.slice pf nf cf) d.fs) (hi:DvI d) (hn:nameB d.nm=true) (hN:gdN d=true):Calls Tryz.prog 12 #[dvV d (.slice pf nf cf) (.slice pq nq cq)] w (QA w (ckE d)):=by
 have nc:Hid (∀ x,Calls Tryz.prog 25 #[.string (txt d.nm)] x fun e w'=>e=.returned (.bool (nameB d.nm))∧Below x.heap.size x w'):=fun x=>same_b (rname_any (txt d.nm) x)
 have D0:Hid (DevB (w.alloc (.cells #[.string (txt d.nm),.int .i64 d.st,.int .i64 d.es,.int .i64 d.mx,.int .i64 d.sz,.string (txt d.sm),.slice pf nf cf,.slice pq nq cq,.int .i64 d.po,.int .i64 d.ti,.int .i64 d.re,.int .i64 d.ag] 25)) w.heap.size d (.slice pf nf cf) (.slice pq nq cq)):=DevB.new hfv _;have B0:Hid (Below w.heap.size w (w.alloc (.cells #[.string (txt d.nm),.int .i64 d.st,.int .i64 d.es,.int .i64 d.mx,.int .i64 d.sz,.string (txt d.sm),.slice pf nf cf,.slice pq nq cq,.int .i64 d.po,.int .i64 d.ti,.int .i64 d.re,.int .i64 d.ag] 25))):=(Below.refl _ _).alloc (Nat.le_refl _) _;rw [hn] at nc;have oc:Hid (∀ x,Calls Tryz.prog 26 #[.string (txt d.sm),.slice none 0 0] x fun e w'=>∃ p n c,e=.returned (.tuple #[.slice p n c,.bool (isSum (txt d.sm))])∧(isSum (txt d.sm)=true→n=sizeK (whichN (txt d.sm)))∧Below x.heap.size x w'):=fun x=>rof_any (txt d.sm) x
 obtain ⟨T,hT⟩:∃ T,ckE d=T:=⟨_,rfl⟩;rw [hT];replace hT:Hid (ckE d=T):=hT;obtain ⟨⟨i1,i2⟩,⟨i3,i4⟩,⟨i5,i6⟩,⟨i7,i8⟩,⟨i9,i10⟩,⟨i11,i12⟩,⟨i13,i14⟩,⟨i15,i16⟩,⟨i17,i18⟩,i19,i20⟩:=gdN_iff.1 hN;rw [hq] at i17 i18;rw [hf] at i19 i20;replace hn:Hid (nameB d.nm=true):=hn;replace hN:Hid (gdN d=true):=hN;replace hi:Hid (DvI d):=hi;replace hf:Hid (d.fs.length=nf):=hf;clear hq hfv;obtain ⟨S,hS⟩:∃ S,isSum (txt d.sm)=S:=⟨_,rfl⟩;rw [hS] at oc;replace hS:Hid (isSum (txt d.sm)=S):=hS
 go_enter Tryz.func12,Tryz.ntmps12
 go_wp2_with fail
 refine (nc.out _).mono ?_;rintro e y1 ⟨rfl,hb⟩;have D1:Hid (DevB y1 w.heap.size d (.slice pf nf cf) (.slice pq nq cq)):=D0.out.below hb;have B1:Hid (Below w.heap.size w y1):=B0.out.trans (hb.mono B0.out.size);clear hb D0 B0 nc;obtain ⟨_,z1,z2,z3,z4,z5,z6,z7,z8,z9,z10,z11⟩:=D1.out.cells
 go_wp2_with fail
 refine (oc.out _).mono ?_;rintro e y2 ⟨pO,nO,cO,rfl,_,hb⟩;have I2:Hid (RcI w y2 d (.slice pf nf cf) (.slice pq nq cq)):=⟨D1.out.below hb,B1.out.trans (hb.mono B1.out.size)⟩;clear hb D1 B1 oc z1 z2 z3 z4 z5 z6 z7 z8 z9 z10 z11
 cases S
 · have fin:Hid (4=T):=ck_4 hT.out hn.out hN.out hS.out;clear hT hn hN hS hi hf;go_wp2;go_ret;exact ⟨ret_int fin.out,I2.out.b⟩
 obtain ⟨_,z1,z2,z3,z4,_,z6,_,z8,z9,_,z11⟩:=I2.out.d.cells;have hC:=gdC_doc hN.out
 by_cases c1:d.st=d.es
 · have fin:Hid (10=T):=ck_10 hT.out hn.out hN.out hS.out (by rw [hC,decide_eq_true c1]; rfl);have b1:(d.st == d.es)=true:=beq_iff_eq.2 c1;clear hT hn hN hS hi hf hC c1;go_wp2;go_ret;exact ⟨ret_int fin.out,I2.out.b⟩
 have b1:(d.st == d.es)=false:=beq_eq_false_iff_ne.2 c1
 by_cases c2:d.mx=0
 · have fin:Hid (10=T):=ck_10 hT.out hn.out hN.out hS.out (by rw [hC,decide_eq_true c2]; simp);have b2:(d.mx == 0)=true:=beq_iff_eq.2 c2;clear hT hn hN hS hi hf hC c1 c2;go_wp2;go_ret;exact ⟨ret_int fin.out,I2.out.b⟩
 have b2:(d.mx == 0)=false:=beq_eq_false_iff_ne.2 c2
 by_cases c3:bits .xor .i64 d.es d.mx=d.st
 · have fin:Hid (10=T):=ck_10 hT.out hn.out hN.out hS.out (by rw [hC,decide_eq_true (show xorI d.es d.mx=d.st from c3)]; simp);have b3:(bits .xor .i64 d.es d.mx == d.st)=true:=beq_iff_eq.2 c3;clear hT hn hN hS hi hf hC c1 c2 c3;go_wp2;go_ret;exact ⟨ret_int fin.out,I2.out.b⟩
 have b3:(bits .xor .i64 d.es d.mx == d.st)=false:=beq_eq_false_iff_ne.2 c3;have hC':Hid (gdC d=true):=by
  unfold Hid;rw [hC,decide_eq_false c1,decide_eq_false c2,decide_eq_false (show ¬ xorI d.es d.mx=d.st from c3)]; rfl
 clear hC c1 c2 c3
 by_cases c4:d.po≤d.ti
 · have fin:Hid (11=T):=ck_11 hT.out hn.out hN.out hS.out hC'.out (by unfold gdT; rw [decide_eq_false (by omega)]; rfl);clear hT hn hN hS hi hf hC';go_wp2;go_ret;exact ⟨ret_int fin.out,I2.out.b⟩
 by_cases c5:d.ag < d.po
 · have fin:Hid (11=T):=ck_11 hT.out hn.out hN.out hS.out hC'.out (by unfold gdT; rw [decide_eq_false (by omega:¬ d.po≤d.ag)]; simp);clear hT hn hN hS hi hf hC';go_wp2;go_ret;exact ⟨ret_int fin.out,I2.out.b⟩
 have I0:Hid (FsI d.sz ((d.fs.take 0).map (·.nm)) (d.fs.drop 0) T):=ck_fs hT.out hn.out hN.out hS.out hC'.out (by unfold gdT; rw [decide_eq_true (by omega:d.ti < d.po),decide_eq_true (by omega:d.po≤d.ag)]; rfl);have hs1:Hid (I64 d.sz):=⟨by omega,by omega⟩;clear hT hn hN hS hC';go_wp2;clear z1 z2 z3 z4 z6 z8 z9 z11 b1 b2 b3 c4 c5 i1 i2 i3 i4 i5 i6 i9 i10 i11 i12 i13 i14 i15 i16 i17 i18 i19
 go_loopw [5] (fun vi wr=>∃ i:Nat,(i:Int)≤(nf:Int)∧vi=.int .i64 (i:Int)∧Hid (FsI d.sz ((d.fs.take i).map (·.nm)) (d.fs.drop i) T)∧Hid (RcI w wr d (.slice pf nf cf) (.slice pq nq cq))) (fun vi _=>nf - (intOf vi).toNat)
 case atStart=>exact ⟨0,by omega,rfl,I0,I2⟩
 case round=>
  obtain ⟨i,hii,rfl,lf,I⟩:=hrel;clear I0 I2;obtain ⟨_,_,_,_,z4,_,z6,_⟩:=I.out.d.cells
  by_cases hlt:(i:Int) < (nf:Int)
  · have hil:i < d.fs.length:=by have:=hf.out; omega
    have fl:=I.out.d.fl;rcases fl with ⟨_,_,_,e⟩ | ⟨g,o,cap',e,_,hin,hg⟩
    · rw [e] at hil; cases hil
    · injection e with e1 e2 e3
      subst e1;have lq:=lf.out;rw [List.drop_eq_getElem_cons hil] at lq;have tk:d.fs.take (i + 1)=d.fs.take i ++ [d.fs[i]]:=by rw [List.take_append_getElem]
      obtain ⟨f,hfi⟩:∃ f,d.fs[i]=f:=⟨_,rfl⟩;obtain ⟨c0,c1,c2,c3,c4,c5,c6,c7,c8⟩:=hin.cells hil hfi;have fi:=hi.out.fs f (by rw [← hfi]; exact List.getElem_mem hil);rw [hfi] at lq tk;replace lq:Hid (FsI d.sz ((d.fs.take i).map (·.nm)) (f :: d.fs.drop (i + 1)) T):=lq;replace tk:Hid (d.fs.take (i + 1)=d.fs.take i ++ [f]):=tk;have rf:Hid (∀ dr os,Calls Tryz.prog 27 #[.int .i64 d.sz,fdV f] (Sort.grow (redrawn wr dr) os) fun e w'=>e=.returned (.int .i64 (fldE d.sz f))∧Below (Sort.grow (redrawn wr dr) os).heap.size (Sort.grow (redrawn wr dr) os) w'):=fun dr os=>rfield_any d.sz f _ fi hs1.out (by omega)
      have k4:=fun dr os=>cell_regrown z4 dr os
      have k6:=fun dr os=>cell_regrown z6 dr os
      have k0:=fun dr os=>cell_regrown c0 dr os
      have k1:=fun dr os=>cell_regrown c1 dr os
      have k2:=fun dr os=>cell_regrown c2 dr os
      have k3:=fun dr os=>cell_regrown c3 dr os
      have k5:=fun dr os=>cell_regrown c4 dr os
      have k7:=fun dr os=>cell_regrown c5 dr os
      have k8:=fun dr os=>cell_regrown c6 dr os
      have k9:=fun dr os=>cell_regrown c7 dr os
      have k10:=fun dr os=>cell_regrown c8 dr os
      obtain ⟨E,hE⟩:∃ E,fldE d.sz f=E:=⟨_,rfl⟩;rw [hE] at rf;replace hE:Hid (fldE d.sz f=E):=hE;have hfi':Hid (∃ h:i < d.fs.length,d.fs[i]=f):=⟨hil,hfi⟩;clear lf hin hfi e2 e3 hil fi c0 c1 c2 c3 c4 c5 c6 c7 c8;obtain ⟨fm,pl,kd,wd,sn,sd,on,od,un⟩:=f;simp only at k0 k1 k2 k3 k5 k7 k8 k9 k10
      go_wp2_with fail
      refine wp_region_quiet_below (by kernel_rfl) (by kernel_rfl) ?_
      repeat (go_big_quiet_step (first
       | (go_at_call 27; with_reducible exact Calls.regrown_of (rf.out _ _))))
      refine wpQuiet_nil ?_;intro _ hw';obtain ⟨⟨dq,osq⟩,hw''⟩:=hw';subst hw'';replace I:Hid (RcI w (Sort.grow (redrawn wr dq) osq) d (.slice (some ⟨g,o,none⟩) nf cf) (.slice pq nq cq)):=I.out.below (below_regrown wr dq osq);clear k0 k1 k2 k3 k4 k5 k6 k7 k8 k9 k10 rf z4 z6 hg;generalize Sort.grow (redrawn wr dq) osq=wq at *
      by_cases h0:E=0
      · subst h0;have N0:Hid (NoneIn fm ((d.fs.take 0).map (·.nm))):=by unfold Hid NoneIn; simp
        go_wp2_with fail
        go_loopw [7] (fun vk wk=>∃ k:Nat,(k:Int)≤(i:Int)∧vk=.int .i64 (k:Int)∧Hid (NoneIn fm ((d.fs.take k).map (·.nm)))∧Hid (RcI w wk d (.slice (some ⟨g,o,none⟩) nf cf) (.slice pq nq cq))) (fun vk _=>i - (intOf vk).toNat)
        case atStart=>exact ⟨0,by omega,rfl,N0,I⟩
        case round=>
         obtain ⟨k,hk,rfl,ln,J⟩:=hrel;clear N0 I
         by_cases hki:(k:Int) < (i:Int)
         · obtain ⟨_,_,_,_,_,_,y6,_⟩:=J.out.d.cells;obtain ⟨hil,hfi⟩:=hfi'.out;have hkl:k < d.fs.length:=by omega
           rcases J.out.d.fl with ⟨_,_,_,e⟩ | ⟨g',o',cap',e,_,hin,_⟩
           · rw [e] at hkl; cases hkl
           · injection e with e1 e2 e3
             injection e1 with e1
             injection e1 with e1 e4 e5
             subst e1;subst e4;obtain ⟨d0,_⟩:=hin.cells hil hfi;obtain ⟨x0,_⟩:=hin.cells hkl rfl;simp only at d0;have kA:=fun dr os=>cell_regrown y6 dr os
             have kB:=fun dr os=>cell_regrown d0 dr os
             have kC:=fun dr os=>cell_regrown x0 dr os
             have heq:=txtw_eqL (d.fs[k]).nm fm;have hyes:Hid (d.fs[k].nm=fm→8=T):=fun h=>lq.out.twice hE.out (some_in (by omega) (by omega) h)
             have hno:Hid (¬ d.fs[k].nm=fm→NoneIn fm ((d.fs.take (k + 1)).map (·.nm))):=fun h=>none_next hkl ln.out h
             have hki2:(k:Int) < (nf:Int):=by omega
             clear hin e2 e3 ln
             cases hd:decide (d.fs[k].nm=fm)
             · rw [hd] at heq;have nx:=hno.out (of_decide_eq_false hd);replace nx:Hid (NoneIn fm ((d.fs.take (k + 1)).map (·.nm))):=nx;clear hyes hno hd d0 x0 y6;generalize txt d.fs[k].nm=S1 at *;generalize txt fm=S2 at *
               go_wp2_with fail
               refine wp_region_quiet_below (by kernel_rfl) (by kernel_rfl) ?_
               repeat (go_big_quiet_step (fail))
               refine wpQuiet_nil ?_;intro _ hw';obtain ⟨⟨dq,osq⟩,hw''⟩:=hw';subst hw'';have J2:Hid (RcI w (Sort.grow (redrawn wr dq) osq) d (.slice (some ⟨g,o,none⟩) nf cf) (.slice pq nq cq)):=J.out.below (below_regrown _ dq osq);clear kA kB kC J;go_wp2;exact ⟨⟨k + 1,by omega,by simp,nx,J2⟩,by simp [intOf]; omega⟩
             · rw [hd] at heq;have fin:Hid (8=T):=hyes.out (of_decide_eq_true hd);clear hyes hno hd d0 x0 y6;generalize txt d.fs[k].nm=S1 at *;generalize txt fm=S2 at *
               go_wp2_with fail
               refine wp_region_quiet_below (by kernel_rfl) (by kernel_rfl) ?_
               repeat (go_big_quiet_step (fail))
               refine wpQuiet_nil ?_;intro _ hw';obtain ⟨⟨dq,osq⟩,hw''⟩:=hw';subst hw'';have J2:Hid (Below w.heap.size w (Sort.grow (redrawn wr dq) osq)):=J.out.b.trans ((below_regrown _ dq osq).mono J.out.b.size);clear kA kB kC J;go_wp2;go_ret;exact ⟨ret_int fin.out,J2.out⟩
         · obtain rfl:k=i:=by omega
           have nx:Hid (FsI d.sz ((d.fs.take (k + 1)).map (·.nm)) (d.fs.drop (k + 1)) T):=by
            have k1:=lq.out.go hE.out ln.out;rw [tk.out,List.map_append];exact k1
           clear lq tk hE ln hfi';go_wp2;exact ⟨⟨k + 1,by omega,by simp,nx,J⟩,by simp [intOf]; omega⟩
      · have hne:(E != 0)=true:=by simpa using h0
        have fin:Hid (E=T):=by
         have k1:=lq.out.err (by rw [hE.out]; exact h0);rw [hE.out] at k1;exact k1
        clear lq tk hE hfi';go_wp2;go_ret;exact ⟨ret_int fin.out,I.out.b⟩
  · obtain rfl:i=nf:=by omega
    have fin:Hid (0=T):=by
     have lq:=lf.out;rw [List.drop_of_length_le (by have:=hf.out; omega)] at lq;exact lq.fin
    clear lf;go_wp2;go_ret;exact ⟨ret_int fin.out,I.out.b⟩
theorem rcheck_any (d:Dv) (pf pq:Option Addr) (cf cq:Nat) (w:World) (hi:DvI d) (hfv:FldsV w (.slice pf d.fs.length cf) d.fs):Calls Tryz.prog 12 #[dvV d (.slice pf d.fs.length cf) (.slice pq d.rq.length cq)] w (QA w (ckE d)):=by
 by_cases hn:nameB d.nm=true
 · by_cases hN:gdN d=true
   · exact rck_c d pf pq _ cf _ cq w rfl rfl hfv hi hn hN
   · rw [← ck_6 (d:=d) rfl (fun h=>hN h.2)];have hx:=fun h=>hN (gdN_iff.2 h)
     by_cases h1:d.st < 0 ∨ 255 < d.st ∨ d.es < 0 ∨ 255 < d.es ∨ d.mx < 0 ∨ 255 < d.mx ∨ d.sz < 1 ∨ 32 < d.sz ∨ 8 < (d.fs.length:Int) ∨ (d.rq.length:Int) < 1 ∨ 16 < (d.rq.length:Int)
     · exact rck_a d pf pq _ cf _ cq w rfl rfl hfv (.inr h1)
     · refine rck_b d pf pq _ cf _ cq w rfl rfl hfv hn (by omega) ?_;clear hN
       by_cases h2:d.po < 1 ∨ 1000 < d.po ∨ d.ti < 1 ∨ 1000 < d.ti ∨ d.ag < 1 ∨ 1000 < d.ag ∨ d.re < 0 ∨ 10 < d.re
       · exact h2
       · exact absurd (by omega) hx
 · rw [← ck_6 (d:=d) rfl (fun h=>hn h.1)];exact rck_a d pf pq _ cf _ cq w rfl rfl hfv (.inl hn)
theorem info_rdev:(Tryz.prog.info? 25).map (fun i=>(i.zero,i.size,i.bytes))=some (some (.agg dz),12,144):=by kernel_rfl
theorem flat_le:∀ (bs:List (List Lr)),(∀ b ∈ bs,b ≠ [])→bs.length≤bs.flatten.length
 | [],_=>Nat.le_refl _
 | b :: bs,h=>by
  have k:=flat_le bs fun c hc=>h c (List.mem_cons_of_mem _ hc)
  have:0 < b.length:=List.length_pos_iff.2 (h b (by simp));rw [List.flatten_cons,List.length_append,List.length_cons];omega
theorem txt_toL (z:Wd):(txt z).toList=z:=by rw [ByteArray.toList_eq]; rfl
def HdC10 (rs:List Lr):Prop:=∀ r ∈ rs,∀ (u:Value) (x:World),WdsAt x.heap.size x u r.2→Calls Tryz.prog 42 #[.agg #[.int .i64 r.1,u]] x fun e y=>e=.returned (.bool (hdL r))∧Below x.heap.size x y
def RrC10 (bs:List (List Lr)):Prop:=∀ b ∈ bs,∀ (v:Value) (x:World),RowsC x.heap.size x v b→Calls Tryz.prog 17 #[v] x (ReadQ x (readM b))
structure RsSt (w:World) (rs:List Lr) (bs:List (List Lr)) (T:List Dv × Int × Nat) (x:World) (lv:Value) (ps:List Dn10) (i q:Nat):Prop where
 dg:DvsG 25 w.heap.size x lv ps
 b:Below w.heap.size w x
 lf:devsM (ps.map (·.1)) (bs.drop q)=T
 ln:ps.length=q
 ps:PosB rs bs q i
theorem RsSt.bad {w:World} {rs:List Lr} {bs:List (List Lr)} {T:List Dv × Int × Nat} {x:World} {lv:Value} {ps:List Dn10} {i q:Nat} (h:RsSt w rs bs T x lv ps i q)
 {b:List Lr} {rest:List (List Lr)} (hb:bs.drop q=b :: rest) {E P:Int} (he:((blkE (namesD (ps.map (·.1))) b:Nat):Int)=E) (h0:¬ E=0) (hp:blkP b=P) {y:World} (hy:Below w.heap.size w y) :
 LinesQ 25 w T (.returned (.tuple #[.slice none 0 0,.int .i64 P,.int .i64 E])) y:=by
 have e:=h.lf;rw [hb,devs_bad (by intro k; rw [k] at he; exact h0 he.symm),hp] at e;subst e;exact ⟨_,[],by rw [he],rfl,DvsAt.nil _ _,hy⟩
theorem RsSt.next {w:World} {rs:List Lr} {bs:List (List Lr)} {T:List Dv × Int × Nat} {x0:World} {lv0:Value} {ps:List Dn10} {i q:Nat} (h:RsSt w rs bs T x0 lv0 ps i q)
 {b:List Lr} {rest:List (List Lr)} (hb:bs.drop q=b :: rest) (hr:rest=bs.drop (q + 1)) {i':Nat} (hp:PosB rs bs (q + 1) i') (x:World) (lv fv qv:Value) (he:((blkE (namesD (ps.map (·.1))) b:Nat):Int)=0) (dg:DvsG 25 w.heap.size x lv (ps ++ [((readM b).1,fv,qv)]))
 (b':Below w.heap.size w x):RsSt w rs bs T x lv (ps ++ [((readM b).1,fv,qv)]) i' (q + 1):=by
 have e:=h.lf;rw [hb,devs_ok (by omega)] at e;exact ⟨dg,b',by rw [← hr,List.map_append]; exact e,by rw [List.length_append,h.ln]; rfl,hp⟩
def KsE (ns:List Wd) (nm:Wd) (E1 E:Int) (k:Nat):Prop:=(E=E1∧(E1=0→nm ∉ ns.take k)) ∨ (E1=0∧E=8∧nm ∈ ns)
def BeE (ns:List Wd) (nm:Wd) (E1 B:Int):Prop:=(¬ E1=0→B=E1)∧(E1=0→nm ∉ ns→B=0)∧(E1=0→nm ∈ ns→B=8)
theorem KsE.fin {ns:List Wd} {nm:Wd} {E1 E B:Int} {k:Nat} (h:KsE ns nm E1 E k) (hb:BeE ns nm E1 B) (hk:k=ns.length ∨ ¬ E=0):B=E:=by
 rcases h with ⟨rfl,h⟩ | ⟨h1,rfl,h2⟩
 · by_cases h0:E=0
   · rcases hk with hk | hk
     · rw [h0];exact hb.2.1 h0 (by have:=h h0; rwa [hk,List.take_length] at this)
     · exact absurd h0 hk
   · exact hb.1 h0
 · exact hb.2.2 h1 h2
theorem KsE.step {ns:List Wd} {nm:Wd} {E1:Int} {k:Nat} (h:KsE ns nm E1 0 k) {z:Wd} (hz:ns[k]?=some z) (hne:¬ z=nm):KsE ns nm E1 0 (k + 1):=by
 rcases h with ⟨h1,h⟩ | ⟨_,h,_⟩
 · refine .inl ⟨h1,fun h0 hm=>?_⟩;rw [List.take_add_one,hz] at hm;rcases List.mem_append.1 hm with hm | hm
   · exact h h0 hm
   · simp at hm; exact hne hm.symm
 · cases h
theorem KsE.hit {ns:List Wd} {nm:Wd} {E1:Int} {k:Nat} (h:KsE ns nm E1 0 k) {z:Wd} (hz:ns[k]?=some z) (he:z=nm):KsE ns nm E1 8 (k + 1):=by
 rcases h with ⟨h1,_⟩ | ⟨_,h,_⟩
 · exact .inr ⟨h1.symm,rfl,he ▸ List.mem_of_getElem? hz⟩
 · cases h
theorem beE_of {ns:List Wd} {b:List Lr} {d:Dv} {lr:Int} {en:Nat} (h:readM b=(d,lr,en)):BeE ns d.nm (if en=0 then ckE d else (en:Int)) ((blkE ns b:Nat):Int):=by
 have hc:=ck_nat d;unfold blkE;rw [h];simp only
 by_cases h0:en=0
 · rw [if_pos h0,if_pos h0]
   by_cases h1:ckE d=0
   · rw [if_pos (cN_0.2 h1)];exact ⟨fun h=>absurd h1 h,fun _ h=>by rw [if_neg h]; rfl,fun _ h=>by rw [if_pos h]; rfl⟩
   · rw [if_neg (fun h=>h1 (cN_0.1 h))];exact ⟨fun _=>hc,fun h=>absurd h h1,fun h=>absurd h h1⟩
 · rw [if_neg h0,if_neg h0];exact ⟨fun _=>rfl,fun h=>absurd h (by omega),fun h=>absurd h (by omega)⟩
theorem rlines_any (P:LineP) (v:Value) (w:World) (rs:List Lr) (hv:RowsC w.heap.size w v rs) (hn:(rs.length:Int)≤4500) (hwl:∀ r ∈ rs,(r.2.length:Int)≤4500) (hz:∀ r ∈ rs,∀ z ∈ r.2,(z.length:Int)≤5000) (hcap:∀ p m c,v=.slice p m c→m≤c) :
 Calls Tryz.prog 21 #[v] w (LinesQ 25 w (linesM rs)):=by
 obtain ⟨i0,hi0,hz0,hz1,hz2⟩:=info_parts info_rdev;have bkr:=bkR_ex rs;have L0:devsM [] (blkF rs)=linesM rs:=rfl;generalize linesM rs=T at *;generalize blkF rs=bs at *;have hd:Hid (HdC10 rs):=fun r hr u x hu=>rhead_any r u x hu (hwl r hr)
 have rd:Hid (RrC10 bs):=by
  intro b hb v x hx;have hs:∀ r ∈ b,r ∈ rs:=fun r hr=>by rw [← bkr.flat]; exact List.mem_flatten.2 ⟨b,hb,hr⟩
  have hl:b.length≤rs.length:=by
   rw [← bkr.flat];exact (List.sublist_flatten_of_mem hb).length_le
  exact rread_of P b v x hx.lrs (by omega) (fun r hr=>hwl r (hs r hr)) (fun r hr=>hz r (hs r hr))
 have hbl:(bs.length:Int)≤4500:=by have:=flat_le bs bkr.ne; rw [bkr.flat] at this; omega
 have ST:Hid (RsSt w rs bs T w (.slice none 0 0) [] 0 0):=⟨DvsG.first _ _ _,Below.refl _ _,L0,rfl,PosB.first bkr⟩;obtain ⟨pv,cv,rfl⟩:=hv.form;have hnc:=hcap _ _ _ rfl;obtain ⟨n,hn'⟩:∃ n,rs.length=n:=⟨_,rfl⟩;rw [hn'] at hn hv hnc ⊢;replace hn':Hid (rs.length=n):=hn';replace hv:Hid (RowsC w.heap.size w (.slice pv n cv) rs):=hv;replace bkr:Hid (BkR rs bs):=bkr;clear L0 hwl hz P hcap
 go_enter Tryz.func21,Tryz.ntmps21
 go_wp2_with fail
 go_loopw [5,6] (fun vl vi wr=>∃ (i q:Nat) (ps:List Dn10),(i:Int)≤(n:Int)∧vi=.int .i64 (i:Int)∧Hid (RsSt w rs bs T wr vl ps i q)) (fun vl vi wr=>n - (intOf vi).toNat)
 case atStart=>exact ⟨0,0,[],by omega,rfl,ST⟩
 case round=>
  obtain ⟨i,q,ps,hi,rfl,st⟩:=hrel;clear ST
  by_cases hlt:i < n
  · have hki:(i:Int) < (n:Int):=by omega
    obtain ⟨b,rest,hdq,hb0,hdr,hre,hle,hbm⟩:=st.out.ps.got bkr.out (by rw [hn'.out]; exact hlt);rw [hn'.out] at hle;have wk:IntKind.i64.wrap ((i:Int) + 1)=(i:Int) + 1:=by simp only [IntKind.wrap_i64]; omega
    have hbl1:1≤b.length:=List.length_pos_iff.2 hb0;obtain ⟨g,o,rfl,_⟩:=hv.out.addr (by rw [hn'.out]; omega);obtain ⟨wo,hwo⟩:∃ wo,wo=wr:=⟨_,rfl⟩;subst hwo
    go_wp2_with fail
    go_loopw [7] (fun vj x=>∃ j:Nat,i + 1≤j∧j≤i + b.length∧vj=.int .i64 (j:Int)∧Hid (Below wo.heap.size wo x)) (fun vj x=>n - (intOf vj).toNat)
    case atStart=>exact ⟨i + 1,Nat.le_refl _,by omega,rfl,Below.refl _ _⟩
    case round=>
     obtain ⟨j,hj1,hj2,rfl,bx⟩:=hrel;have bw:Hid (Below w.heap.size w wr):=st.out.b.trans (bx.out.mono st.out.b.size);have hv2:=(hv.out.below bw.out).mono bw.out.size
     by_cases hjb:j < i + b.length
     · obtain ⟨r,hr,hh⟩:=PosB.inn bkr.out hdr hbm (m:=j - i) (by omega) (by omega);rw [show i + (j - i)=j by omega] at hr;obtain ⟨pu,cu,c0,c1,hw⟩:=hv2.row hr;have hdc:Hid (Calls Tryz.prog 42 #[.agg #[.int .i64 r.1,.slice pu r.2.length cu]] wr fun e y=>e=.returned (.bool false)∧Below wr.heap.size wr y):=by have h:=hd.out r (List.mem_of_getElem? hr) _ wr hw; rwa [hh] at h
       have hjn:(j:Int) < (n:Int):=by omega
       have hjnn:j < n:=by omega
       have wkj:IntKind.i64.wrap ((j:Int) + 1)=(j:Int) + 1:=by simp only [IntKind.wrap_i64]; omega
       generalize r.2.length=rl at *;generalize r.1=rln at *;clear hw hr hh hv2 bw hd
       go_wp2_with fail
       refine hdc.out.mono ?_;rintro e y ⟨rfl,hb⟩;have bx2:Hid (Below wo.heap.size wo y):=bx.out.trans (hb.mono bx.out.size);clear hb c0 c1 hdc;go_wp2;refine ⟨⟨j + 1,by omega,by omega,rfl,bx2⟩,?_⟩;show n - (intOf (.int .i64 ((j:Int) + 1))).toNat < n - (intOf (.int .i64 (j:Int))).toNat;simp only [intOf];omega
     · obtain rfl:j=i + b.length:=by omega
       have hsub:=hv2.sub i b.length (by rw [hn'.out]; omega) (cv - i);rw [PosB.take hdr] at hsub;have hnx:(i + b.length=n) ∨ (i + b.length < n∧∃ r pu,wr.cell? ⟨g,o + (i + b.length) * 2,none⟩=some (.int .i64 r)∧wr.cell? ⟨g,o + (i + b.length) * 2 + 1,none⟩=some pu∧Calls Tryz.prog 42 #[.agg #[.int .i64 r,pu]] wr fun e y=>e=.returned (.bool true)∧Below wr.heap.size wr y):=by
        by_cases he:i + b.length=n
        · exact .inl he
        · obtain ⟨r,hr,hh⟩:=PosB.hd bkr.out hdr hre (by rw [hn'.out]; omega);obtain ⟨pu,cu,c0,c1,hw⟩:=hv2.row hr;have h:=hd.out r (List.mem_of_getElem? hr) _ wr hw;rw [hh] at h;exact .inr ⟨by omega,r.1,_,c0,c1,h⟩
       obtain ⟨J,hJ⟩:∃ J,i + b.length=J:=⟨_,rfl⟩;have hjl:J - i=b.length:=by omega
       have hJn:J≤n:=by omega
       have hiJ:i≤J:=by omega
       have hiJlt:i < J:=by omega
       have nxt:=st.out.ps.next bkr.out (by rw [hn'.out]; exact hlt) hdq hdr (by rw [hn'.out]; omega) hre;rw [hJ] at hnx nxt ⊢;have hJi:(J:Int)≤(n:Int):=by omega
       have hiJi:(i:Int)≤(J:Int):=by omega
       have hnci:(n:Int)≤(cv:Int):=by omega
       obtain ⟨d,lr,en,hRd⟩:∃ d lr en,readM b=(d,lr,en):=⟨_,_,_,rfl⟩;have rdc:Hid (∀ x,Below wo.heap.size wo x→Calls Tryz.prog 17 #[.slice (some ⟨g,o + i * 2,none⟩) b.length (cv - i)] x (ReadQ x (d,lr,en))):=by
        intro x hx;have h:=rd.out b hbm (.slice (some ⟨g,o + i * 2,none⟩) b.length (cv - i)) x (by
         have bwx:=st.out.b.trans (hx.mono st.out.b.size);have h:=((hv.out.below bwx).mono bwx.size).sub i b.length (by rw [hn'.out]; omega) (cv - i);rw [PosB.take hdr,Nat.mul_comm 2 i] at h;exact h)
        rwa [hRd] at h
       have hBE:Hid (∀ ns,BeE ns d.nm (if en=0 then ckE d else (en:Int)) ((blkE ns b:Nat):Int)):=fun ns=>beE_of hRd
       have hdi:DvI d:=by
        have h1:=read_j b;have h2:=read_fs b;rw [hRd] at h1 h2;exact h1.i h2
       have hbP:Hid (blkP b=if lr=0 then (b.headD (0,[])).1 else lr):=by unfold Hid blkP; rw [hRd]
       have hSB:Hid (∀ (E P:Int) (y:World),((blkE (namesD (ps.map (·.1))) b:Nat):Int)=E→¬ E=0→blkP b=P→Below w.heap.size w y→LinesQ 25 w T (.returned (.tuple #[.slice none 0 0,.int .i64 P,.int .i64 E])) y):=fun E P y h1 h2 h3 h4=>st.out.bad hdq h1 h2 h3 h4
       have hSG:Hid (∀ (x:World) (lv fv qv:Value),((blkE (namesD (ps.map (·.1))) b:Nat):Int)=0→DvsG 25 w.heap.size x lv (ps ++ [(d,fv,qv)])→Below w.heap.size w x→RsSt w rs bs T x lv (ps ++ [(d,fv,qv)]) J (q + 1)):=by
        intro x lv fv qv h1 h2 h3;have h:=st.out.next hdq hre nxt x lv fv qv h1 (by rw [hRd]; exact h2) h3;rw [hRd] at h;exact h
       have hrow:Hid (∀ x,Below wo.heap.size wo x→x.cell? ⟨g,o + i * 2,none⟩=some (.int .i64 (b.headD (0,[])).1)):=by
        intro x hx;have bwx:=st.out.b.trans (hx.mono st.out.b.size);obtain ⟨r,hr⟩:∃ r,rs[i]?=some r:=⟨_,List.getElem?_eq_getElem (by rw [hn'.out]; exact hlt)⟩;obtain ⟨pu,cu,c0,_⟩:=(hv.out.below bwx).row hr;have:b.head?=some r:=by
         cases b with
         | nil=>exact absurd rfl hb0
         | cons q t=>
          have h:=congrArg (·[0]?) hdr;simp only [List.getElem?_drop,Nat.add_zero,hr] at h
          simpa using h.symm
        rw [List.headD_eq_head?_getD,this];exact c0
       have DG:Hid (DvsG 25 w.heap.size wo u5 ps):=st.out.dg;have BW:Hid (Below w.heap.size w wo):=st.out.b;have hlen:Hid (ps.length=q):=st.out.ln;have hq45:(q:Int)≤4500:=by
        have:q < bs.length:=by
         have h:=congrArg List.length hdq;rw [List.length_drop,List.length_cons] at h;omega
        omega
       generalize (b.headD (0,[])).1=rl at *;clear hd hsub hv2 hdr hre hdq hbm rd nxt hb0 hRd bw hle hbl1 hj1 hj2 hjb st bkr hv;obtain ⟨pl,cl,rfl⟩:∃ p c,u5=.slice p q c:=by
        have h:=DG.out.own;rw [hlen.out] at h;rcases own_slice h with ⟨e,hz⟩ | ⟨gl,cap,e,_⟩
        · exact ⟨none,0,by rw [e,hz]⟩
        · exact ⟨_,_,e⟩
       have hnm:Hid (∀ x,Below wo.heap.size wo x→∀ k,k < q→∃ gl z,pl=some ⟨gl,0,none⟩∧q≤cl∧x.cell? ⟨gl,k * 12,none⟩=some (.string (txt z))∧(namesD (ps.map (·.1)))[k]?=some z):=by
        intro x hx k hk;have h:=(DG.out.below hx).own;rw [hlen.out] at h;have hk':k < ps.length:=by rw [hlen.out]; exact hk
        rcases own_slice h with ⟨e,hz⟩ | ⟨gl,cap,e,_⟩
        · omega
        · injection e with e1 e2 e3
          subst e1 e3;have c:=World.ownsRow.cellAt h (k * 12) (by omega);have g0:=dvCs_get ps k 0 hk' (by omega);rw [Nat.add_zero,Nat.mul_comm 12 k] at g0;refine ⟨gl,ps[k].1.nm,rfl,own_room h _ _ _ rfl,c.trans (g0.trans rfl),?_⟩;unfold namesD;rw [List.map_map,List.getElem?_map,List.getElem?_eq_getElem hk'];rfl
       have hnl:Hid ((namesD (ps.map (·.1))).length=q):=by unfold Hid namesD; rw [List.length_map,List.length_map,hlen.out]
       generalize hns:namesD (ps.map (·.1))=ns at *;clear hns;rcases hnx with he | ⟨he,rh,pu,c0,c1,hdc⟩
       case' inl=>
        have hJe:(J:Int)=(n:Int):=by omega
        subst he
        go_wp2_with fail
        obtain ⟨y,hy⟩:∃ y,y=wr:=⟨_,rfl⟩;subst hy
       case' inr=>
        have hJe:(J:Int) < (n:Int):=by omega
        replace hdc:Hid (Calls Tryz.prog 42 #[.agg #[.int .i64 rh,pu]] wr fun e y=>e=.returned (.bool true)∧Below wr.heap.size wr y):=hdc
        go_wp2_with fail
        refine hdc.out.mono ?_;rintro e y ⟨rfl,hb⟩;replace bx:Hid (Below wo.heap.size wo y):=bx.out.trans (hb.mono bx.out.size);clear hb hdc c0 c1
        go_wp2_with fail
       all_goals
        refine (rdc.out y bx.out).mono ?_;rintro e z ⟨fv,qv,rfl,hf,hq,hb,fN,qN⟩;have hfv:=hf.v;have hqf:=bytes_form hq;have bz:Below z.heap.size z (z.alloc (.cells (dvB d fv qv) 25)):=(Below.refl _ _).alloc (Nat.le_refl _) _;have DZ:Hid ((z.alloc (.cells (dvB d fv qv) 25)).heap[z.heap.size]?=some (.cells (dvB d fv qv) 25 (0,0))):=World.alloc_heap_new z _;have BZ:Hid (Below wo.heap.size wo (z.alloc (.cells (dvB d fv qv) 25))):=bx.out.trans ((hb.trans (bz.mono hb.size)).mono bx.out.size);have fz:Hid (FldsAt (z.alloc (.cells (dvB d fv qv) 25)) fv d.fs):=hf.below bz;have qz:Hid (BytesAt (z.alloc (.cells (dvB d fv qv) 25)) qv d.rq):=hq.below bz;have fN2:Hid (∀ g,fv.ownBlock=some g→wo.heap.size≤g):=fun g e=>by have:=fN g e; have:=bx.out.size; omega
        have qN2:Hid (∀ g,qv.ownBlock=some g→wo.heap.size≤g):=fun g e=>by have:=qN g e; have:=bx.out.size; omega
        have hfz:=hfv.below bz;obtain ⟨pf,cf,rfl⟩:=hfv.form;obtain ⟨pq,cq,rfl⟩:=hqf;have ckc:Hid (Calls Tryz.prog 12 #[dvV d (.slice pf d.fs.length cf) (.slice pq d.rq.length cq)] (z.alloc (.cells (dvB d (.slice pf d.fs.length cf) (.slice pq d.rq.length cq)) 25)) (QA (z.alloc (.cells (dvB d (.slice pf d.fs.length cf) (.slice pq d.rq.length cq)) 25)) (ckE d))):=rcheck_any d pf pq cf cq _ hdi hfz;clear hfz hfv bz hf hq hb fN qN rdc;generalize d.fs.length=nf at *;generalize d.rq.length=nq at *
        by_cases he0:en=0
        case' pos=>
         subst he0;have be:Hid (BeE ns d.nm (ckE d) ((blkE ns b:Nat):Int)):=by have h:=hBE.out ns; rwa [if_pos rfl] at h
         generalize ckE d=E1 at *
         go_wp2_with fail
         change Calls Tryz.prog _ _ (z.alloc (.cells (dvB d (.slice pf nf cf) (.slice pq nq cq)) 25)) _;generalize z.alloc (.cells (dvB d (.slice pf nf cf) (.slice pq nq cq)) 25)=z1 at *;refine ckc.out.mono ?_;rintro e y2 ⟨rfl,hb2⟩;have B2:Hid (Below wo.heap.size wo y2):=BZ.out.trans (hb2.mono BZ.out.size);have D2:Hid (y2.heap[z.heap.size]?=some (.cells (dvB d (.slice pf nf cf) (.slice pq nq cq)) 25 (0,0))):=(hb2.block _ (Array.getElem?_eq_some_iff.1 DZ.out).1).trans DZ.out;have F2:Hid (FldsAt y2 (.slice pf nf cf) d.fs):=fz.out.below hb2;have Q2:Hid (BytesAt y2 (.slice pq nq cq) d.rq):=qz.out.below hb2;clear hb2 BZ DZ fz qz ckc hBE
         go_wp2_with fail
        case' neg=>
         have e0:((en:Int) == 0)=false:=beq_eq_false_iff_ne.2 (by omega);have be:Hid (BeE ns d.nm (en:Int) ((blkE ns b:Nat):Int)):=by have h:=hBE.out ns; rwa [if_neg he0] at h
         go_wp2_with fail
         change Code.wp Tryz.prog _ _ _ (z.alloc (.cells (dvB d (.slice pf nf cf) (.slice pq nq cq)) 25));generalize z.alloc (.cells (dvB d (.slice pf nf cf) (.slice pq nq cq)) 25)=y2 at *;have B2:=BZ;have D2:=DZ;have F2:=fz;have Q2:=qz;clear BZ DZ fz qz ckc hBE e0 he0;generalize (en:Int)=E1 at *
        all_goals
         go_loopw [10,11] (fun ve vk wk=>∃ (k:Nat) (E:Int),(k:Int)≤(q:Int)∧vk=.int .i64 (k:Int)∧ve=.int .i64 E∧Hid (KsE ns d.nm E1 E k)∧Hid (Below y2.heap.size y2 wk)) (fun ve vk wk=>q - (intOf vk).toNat)
         case atStart=>exact ⟨0,E1,by omega,rfl,rfl,.inl ⟨rfl,fun _ h=>(by simp at h)⟩,Below.refl _ _⟩
         case round=>
          obtain ⟨k,E,hk,rfl,rfl,ks,bk⟩:=hrel;have Bk:Hid (Below wo.heap.size wo wr):=B2.out.trans (bk.out.mono B2.out.size);have Dk:Hid (wr.heap[z.heap.size]?=some (.cells (dvB d (.slice pf nf cf) (.slice pq nq cq)) 25 (0,0))):=(bk.out.block _ (Array.getElem?_eq_some_iff.1 D2.out).1).trans D2.out
          by_cases hkq:k < q∧E=0
          · obtain ⟨hkq,rfl⟩:=hkq;have hkqi:(k:Int) < (q:Int):=by omega
            obtain ⟨gl,zz,rfl,hqc,cz,hzn⟩:=hnm.out wr Bk.out k hkq;obtain ⟨dn,dw⟩:=rd_cell Dk.out 0;simp only [List.getElem?_toArray,List.getElem?_cons_zero] at dn;have wkk:IntKind.i64.wrap ((k:Int) + 1)=(k:Int) + 1:=by simp only [IntKind.wrap_i64]; omega
            have bk2:∀ nn,Hid (Below y2.heap.size y2 (wr.drewN nn)):=fun nn=>⟨bk.out.os,bk.out.tape,bk.out.output,bk.out.size,bk.out.block⟩
            by_cases hzd:zz=d.nm
            · have ks2:Hid (KsE ns d.nm E1 8 (k + 1)):=ks.out.hit hzn hzd;have tb:((txt zz).toList == (txt d.nm).toList)=true:=by rw [txt_toL,txt_toL,beq_iff_eq]; exact hzd
              generalize txt zz=tz at *;generalize txt d.nm=td at *
              go_upto_region 13 with fail
              go_quiet (fail)
              go_wp2;refine ⟨⟨k + 1,8,by omega,rfl,rfl,ks2,bk2 _⟩,?_⟩;show q - (intOf (.int .i64 ((k:Int) + 1))).toNat < q - (intOf (.int .i64 (k:Int))).toNat;simp only [intOf];omega
            · have ks2:Hid (KsE ns d.nm E1 0 (k + 1)):=ks.out.step hzn hzd;have tb:((txt zz).toList == (txt d.nm).toList)=false:=by rw [txt_toL,txt_toL]; exact beq_eq_false_iff_ne.2 hzd
              generalize txt zz=tz at *;generalize txt d.nm=td at *
              go_upto_region 13 with fail
              go_quiet (fail)
              go_wp2;refine ⟨⟨k + 1,0,by omega,rfl,rfl,ks2,bk2 _⟩,?_⟩;show q - (intOf (.int .i64 ((k:Int) + 1))).toNat < q - (intOf (.int .i64 (k:Int))).toNat;simp only [intOf];omega
          · have hEB:Hid (((blkE ns b:Nat):Int)=E):=ks.out.fin be.out (by
             by_cases h1:k < q
             · exact .inr fun h2=>hkq ⟨h1,h2⟩
             · exact .inl (by rw [hnl.out]; omega))
            clear hnm hnl be ks;have hxx:(k=q) ∨ (k < q∧¬ E=0):=by
             by_cases h1:k < q
             · exact .inr ⟨h1,fun h2=>hkq ⟨h1,h2⟩⟩
             · exact .inl (by omega)
            clear hkq
            by_cases hE0:E=0
            · subst hE0;obtain rfl:q=k:=by
               rcases hxx with h | ⟨_,h⟩
               · exact h.symm
               · exact absurd rfl h
              have by4:Below wr.heap.size wr (wr.alloc (.cells (dvB d (.slice pf nf cf) (.slice pq nq cq)) 25)):=(Below.refl _ _).alloc (Nat.le_refl _) _;have DG4:=(DG.out.below Bk.out).below by4;have f4:=(F2.out.below bk.out).below by4;have q4:=(Q2.out.below bk.out).below by4;have B4:=(BW.out.trans (Bk.out.mono BW.out.size)).trans (by4.mono (BW.out.trans (Bk.out.mono BW.out.size)).size);have u5l:∀ g,(Value.slice pl q cl).ownBlock=some g→w.heap.size≤g∧g < wo.heap.size:=fun g e=>⟨(World.ownsRow.lt DG.out.own g e).1,(World.ownsRow.lt DG.out.own g e).2⟩
              have own4:Hid ((wr.alloc (.cells (dvB d (.slice pf nf cf) (.slice pq nq cq)) 25)).ownsRow w.heap.size 25 12 (.slice pl q cl) q (dvCs ps)):=by have h:=DG4.own; rwa [hlen.out] at h
              have fin:Hid (∀ (g cp:Nat) (yq:World),yq.ownsRow w.heap.size 25 12 (.slice (some ⟨g,0,none⟩) (q + 1) cp) (q + 1) (dvCs ps ++ (dvB d (.slice pf nf cf) (.slice pq nq cq)).toList)→(wr.alloc (.cells (dvB d (.slice pf nf cf) (.slice pq nq cq)) 25)).grownBy yq (Value.slice pl q cl).ownBlock→((Value.slice pl q cl).ownBlock=some g ∨ g=(wr.alloc (.cells (dvB d (.slice pf nf cf) (.slice pq nq cq)) 25)).heap.size) →
               RsSt w rs bs T yq (.slice (some ⟨g,0,none⟩) (q + 1) cp) (ps ++ [(d,.slice pf nf cf,.slice pq nq cq)]) J (q + 1)):=by
               intro g cp yq h1 h2 h3;rw [← hlen.out] at h1;rw [← hlen.out] at h2 h3;have u5l':=u5l;rw [← hlen.out] at u5l';have DG5:=DG4;rw [← hlen.out] at DG5;have P4:=DG5.push f4 q4 (fun g e=>by
                have:wo.heap.size≤g:=by
                 rcases e with e | e
                 · exact fN2.out g e
                 · exact qN2.out g e
                have:=BW.out.size;exact ⟨by omega,fun e'=>by have:=(u5l' g e').2; omega⟩) h1 h2 h3
               rw [hlen.out] at P4;exact hSG.out yq _ _ _ hEB.out P4 (B4.grown h2 B4.size (fun k e=>(u5l' k e).1))
              have hone:=one_dev d (fv:=.slice pf nf cf) (qv:=.slice pq nq cq) rfl rfl;have hcn:=cells_new10 wr (dvB d (.slice pf nf cf) (.slice pq nq cq)) 25;have h63:q + 1≤maxLen:=by unfold maxLen; omega
              have hby:(q + 1) * 144≤140737488355328:=by omega
              have hbs:Hid (w.heap.size≤wr.heap.size):=(BW.out.trans (Bk.out.mono BW.out.size)).size;obtain ⟨x0,w0,x1,w1,x2,w2,x3,w3,x4,w4,x5,w5,x6,w6,x7,w7,x8,w8,x9,w9,x10,w10,x11,w11⟩:=rd12 Dk.out;clear hSB hSG hrow DG BW hEB hbP B2 D2 F2 Q2 bk Bk Dk fN2 qN2 bx hdi by4 DG4 f4 q4 B4 u5l hlen hxx
              go_upto_region 20 with (at_builtin; refine wpList_append_lies _ rfl _ _ 46 rfl w.heap.size 25 i0 (.agg dz) 12 144 Tryz.underlying46 hi0 hz0 hz1 hz2 rfl (by decide) _ q (dvCs ps) rfl own4.out ⟨wr.heap.size,0,none⟩ 1 1 (dvB d (.slice pf nf cf) (.slice pq nq cq)).toList rfl rfl hcn hone (by decide) h63 hby (by have:=hbs.out; rw [World.size_alloc]; omega) (wr.alloc (.cells (dvB d (.slice pf nf cf) (.slice pq nq cq)) 25)).heap.size rfl ?_; intro g2 cap2 yq hO gO hat hlt2; have ST2:Hid (RsSt w rs bs T yq (.slice (some ⟨g2,0,none⟩) (q + 1) cap2) (ps ++ [(d,.slice pf nf cf,.slice pq nq cq)]) J (q + 1)):=fin.out g2 cap2 yq hO gO hat; clear hO gO hat hlt2)
              clear fin own4 hcn hone;go_wp2;refine ⟨⟨J,q + 1,_,by omega,rfl,ST2⟩,?_⟩;simp only [intOf];omega
            · have q0:(E == 0)=false:=beq_eq_false_iff_ne.2 hE0;have q1:(E != 0)=true:=by rw [bne,q0]; rfl
              have hrw:=hrow.out wr Bk.out;have fin:=hSB.out E _ wr hEB.out hE0 hbP.out (BW.out.trans (Bk.out.mono BW.out.size));replace fin:Hid (LinesQ 25 w T (.returned (.tuple #[.slice none 0 0,.int .i64 (if lr=0 then rl else lr),.int .i64 E])) wr):=fin;clear hSB hSG hrow DG BW hEB hbP B2 D2 F2 Q2 bk Bk Dk fN2 qN2 bx hdi
              by_cases hl0:lr=0
              case' pos=>
               rw [if_pos hl0] at fin;subst hl0
              case' neg=>
               rw [if_neg hl0] at fin;have l0:(lr == 0)=false:=beq_eq_false_iff_ne.2 hl0
              all_goals
               rcases hxx with rfl | ⟨hxk,_⟩
               case' inr=>have hxki:(k:Int) < (q:Int):=by omega
               all_goals
                go_wp2
                try simp only [Exit.inBlock,Exit.then]
                refine bodyPost_ret (results_tmp3 rfl _ _ _) rfl ?_;exact fin.out
  · have hki:(i:Int)=(n:Int):=by omega
    have hT:Hid (T=(ps.map (·.1),0,0)):=by
     unfold Hid;have h:=st.out.ps.dr;rw [List.drop_of_length_le (by rw [hn'.out]; omega)] at h;have:bs.drop q=[]:=by
      cases hd:bs.drop q with
      | nil=>rfl
      | cons c cs=>
       have hc:=bkr.out.ne c (List.mem_of_mem_drop (by rw [hd]; simp:c ∈ bs.drop q));rw [hd,List.flatten_cons] at h;exact absurd (List.append_eq_nil_iff.1 h.symm).1 hc
     rw [← st.out.lf,this];rfl
    rw [hki];go_wp2
    try simp only [Exit.inBlock,Exit.then]
    refine bodyPost_ret (results_tmp3 rfl _ _ _) rfl ?_;exact ⟨_,ps,by rw [hT.out]; rfl,by rw [hT.out],st.out.dg.at,st.out.b⟩
theorem same_v (d:Dv) (fa qa fb qb:Value) (w:World) (hfa:FldsV w fa d.fs) (hqa:BytesAt w qa d.rq) (hfb:FldsV w fb d.fs) (hqb:BytesAt w qb d.rq) (hn:(d.fs.length:Int)≤4500) :
 Calls Tryz.prog 15 #[dvV d fa qa,dvV d fb qb] w fun e y=>e=.returned (.int .i64 1)∧Below w.heap.size w y:=by
 obtain ⟨pa,na,ca,rfl,hna⟩:∃ p n c,fa=.slice p n c∧n=d.fs.length:=by
  rcases hfa with ⟨a,c,h1,h2⟩ | ⟨g,o,cap,h1,_⟩
  · exact ⟨_,_,_,h1,by rw [h2]; rfl⟩
  · exact ⟨_,_,_,h1,rfl⟩
 obtain ⟨pb,nb,cb,rfl,hnb⟩:∃ p n c,fb=.slice p n c∧n=d.fs.length:=by
  rcases hfb with ⟨a,c,h1,h2⟩ | ⟨g,o,cap,h1,_⟩
  · exact ⟨_,_,_,h1,by rw [h2]; rfl⟩
  · exact ⟨_,_,_,h1,rfl⟩
 obtain rfl:na=nb:=hna.trans hnb.symm;have hn2:(na:Int)≤4500:=by omega
 replace hna:Hid (na=d.fs.length):=hna;clear hnb hn;have bA:Below w.heap.size w ((w.alloc (.cells (dvB d (.slice pa na ca) qa) 33)).alloc (.cells (dvB d (.slice pb na cb) qb) 25)):=((Below.refl _ _).alloc (Nat.le_refl _) _).alloc (by rw [World.size_alloc]; omega) _;have hA:((w.alloc (.cells (dvB d (.slice pa na ca) qa) 33)).alloc (.cells (dvB d (.slice pb na cb) qb) 25)).heap[w.heap.size]?=some (.cells (dvB d (.slice pa na ca) qa) 33 (0,0)):=map_under _ _ _ _ (World.alloc_heap_new w _);have hB:((w.alloc (.cells (dvB d (.slice pa na ca) qa) 33)).alloc (.cells (dvB d (.slice pb na cb) qb) 25)).heap[w.heap.size + 1]?=some (.cells (dvB d (.slice pb na cb) qb) 25 (0,0)):=by
  have k:=World.alloc_heap_new (w.alloc (.cells (dvB d (.slice pa na ca) qa) 33)) (.cells (dvB d (.slice pb na cb) qb) 25)
  rwa [World.size_alloc] at k
 have kqa:=conv_at (hqa.below bA);have kqb:=conv_at (hqb.below bA);have Fa:Hid (FldsV ((w.alloc (.cells (dvB d (.slice pa na ca) qa) 33)).alloc (.cells (dvB d (.slice pb na cb) qb) 25)) (.slice pa na ca) d.fs):=hfa.below bA;have Fb:Hid (FldsV ((w.alloc (.cells (dvB d (.slice pa na ca) qa) 33)).alloc (.cells (dvB d (.slice pb na cb) qb) 25)) (.slice pb na cb) d.fs):=hfb.below bA;obtain ⟨pqa,nqa,cqa,rfl⟩:=hqa.form';obtain ⟨pqb,nqb,cqb,rfl⟩:=hqb.form';clear hfa hfb hqa hqb
 go_enter Tryz.func15,Tryz.ntmps15
 go_upto_region 1 with fail
 change Code.wp Tryz.prog _ _ _ ((w.alloc (.cells (dvB d (.slice pa na ca) (.slice pqa nqa cqa)) 33)).alloc (.cells (dvB d (.slice pb na cb) (.slice pqb nqb cqb)) 25));replace bA:Hid (Below w.heap.size w ((w.alloc (.cells (dvB d (.slice pa na ca) (.slice pqa nqa cqa)) 33)).alloc (.cells (dvB d (.slice pb na cb) (.slice pqb nqb cqb)) 25))):=bA;generalize ((w.alloc (.cells (dvB d (.slice pa na ca) (.slice pqa nqa cqa)) 33)).alloc (.cells (dvB d (.slice pb na cb) (.slice pqb nqb cqb)) 25))=w1 at *;obtain ⟨c0,f0,c1,f1,c2,f2,c3,f3,c4,f4,c5,f5,c6,f6,c7,f7,c8,f8,c9,f9,c10,f10,c11,f11⟩:=rd12 hA;obtain ⟨l0,m0,l1,m1,l2,m2,l3,m3,l4,m4,l5,m5,l6,m6,l7,m7,l8,m8,l9,m9,l10,m10,l11,m11⟩:=rd12 hB;replace hA:Hid (w1.heap[w.heap.size]?=some (.cells (dvB d (.slice pa na ca) (.slice pqa nqa cqa)) 33 (0,0))):=hA;replace hB:Hid (w1.heap[w.heap.size + 1]?=some (.cells (dvB d (.slice pb na cb) (.slice pqb nqb cqb)) 25 (0,0))):=hB;go_wp2;clear c0 f0 l0 m0 c1 f1 l1 m1 c2 f2 l2 m2 c3 f3 l3 m3 c4 f4 l4 m4 c5 f5 l5 m5 c6 f6 l6 m6 c7 f7 l7 m7 c8 f8 l8 m8 c9 f9 l9 m9 c10 f10 l10 m10 c11 f11 l11 m11 kqa kqb
 go_loopw [5] (fun vi wr=>∃ k:Nat,(k:Int)≤(na:Int)∧vi=.int .i64 (k:Int)∧Hid (Below w1.heap.size w1 wr)) (fun vi wr=>((na:Int) - intOf vi).toNat)
 case atStart=>exact ⟨0,by omega,rfl,Below.refl _ _⟩
 case round=>
  obtain ⟨k,hk,rfl,hb⟩:=hrel;have hAl:Hid (wr.cell? ⟨w.heap.size,6,none⟩=some (.slice pa na ca)):=kp hb.out (rd_cell hA.out 6).1;have hBl:Hid (wr.cell? ⟨w.heap.size + 1,6,none⟩=some (.slice pb na cb)):=kp hb.out (rd_cell hB.out 6).1
  by_cases hlt:k < na
  · have hki:(k:Int) < (na:Int):=by omega
    have hkf:k < d.fs.length:=by have:=hna.out; omega
    have wk:IntKind.i64.wrap ((k:Int) + 1)=(k:Int) + 1:=by simp only [IntKind.wrap_i64]; omega
    have hkb:0≤(k:Int):=by omega
    rcases Fa.out with ⟨_,_,_,hnil⟩ | ⟨ga,oa,c1,e1,_,hia,hga⟩
    · rw [hnil] at hkf; cases hkf
    injection e1 with e1 e2 e3
    subst e1;subst e3;clear e2;rcases Fb.out with ⟨_,_,_,hnil⟩ | ⟨gb,ob,c1,e1,_,hib,hgb⟩
    · rw [hnil] at hkf; cases hkf
    injection e1 with e1 e2 e3
    subst e1;subst e3;clear e2;have Na:Hid (∀ i v,(fdC d.fs[k])[i]?=some v→wr.cell? ⟨ga,oa + k * 9 + i,none⟩=some v):=fun i v hv=>kp hb.out (hia.nine hkf i v hv)
    have Nb:Hid (∀ i v,(fdC d.fs[k])[i]?=some v→wr.cell? ⟨gb,ob + k * 9 + i,none⟩=some v):=fun i v hv=>kp hb.out (hib.nine hkf i v hv)
    generalize d.fs[k]=f at *;clear hia hib hga hgb hkf;have al0:=hAl.out;have bl0:=hBl.out
    go_upto_region 6 with fail
    refine region_props3 (SmP w.heap.size ga oa gb ob k (.slice (some ⟨ga,oa,none⟩) na ca) (.slice (some ⟨gb,ob,none⟩) na cb) f) (SmW wr f) ⟨0,0⟩ (by kernel_rfl) (by kernel_rfl) ?_ ?_ ⟨⟨rfl,rfl,rfl,Nat.le_refl _,fun _ _=>rfl⟩,fun h=>(by cases h),fun h=>(by cases h),fun h=>(by cases h),fun h=>(by cases h),fun h=>(by cases h)⟩
    · intro γ x a z i op ho hI haf hx hxi hW;have hi:i < 14:=(List.getElem?_eq_some_iff.1 ho).1;have xi:=getD_false hxi
      match i,hi with
      | 0,_=>
       obtain rfl:=Option.some.inj ho;have e1:a.tmps.getD 2 undef=.pointer (some ⟨w.heap.size,0,none⟩):=(hI.was (by kernel_rfl)).trans rfl;go_simp;exact ⟨_,rfl,γ,rfl,fun j v _ h=>h,hW.other (by decide)⟩
      | 1,_=>
       obtain rfl:=Option.some.inj ho;have e1:a.tmps.getD 101 undef=.pointer (some ⟨w.heap.size,6,none⟩):=Eq.trans (hI.val 0 _ 101 rfl rfl (dep_at haf (by kernel_rfl))) rfl;have l1:=kp hW.low al0;go_simp;exact ⟨_,rfl,γ,rfl,fun j v _ h=>h,hW.other (by decide)⟩
      | 2,_=>
       obtain rfl:=Option.some.inj ho;have e1:a.tmps.getD 5 undef=.int .i64 (k:Int):=(hI.was (by kernel_rfl)).trans rfl;go_simp;exact ⟨_,rfl,γ,rfl,fun j v _ h=>h,hW.other (by decide)⟩
      | 3,_=>
       obtain rfl:=Option.some.inj ho;have e1:a.tmps.getD 102 undef=.slice (some ⟨ga,oa,none⟩) na ca:=Eq.trans (hI.val 1 _ 102 rfl rfl (dep_at haf (by kernel_rfl))) rfl;have e2:a.tmps.getD 103 undef=.int .i64 (k:Int):=Eq.trans (hI.val 2 _ 103 rfl rfl (dep_at haf (by kernel_rfl))) rfl;go_simp;exact ⟨_,rfl,γ,rfl,fun j v _ h=>h,hW.other (by decide)⟩
      | 4,_=>
       obtain rfl:=Option.some.inj ho;have e1:a.tmps.getD 104 undef=.pointer (some ⟨ga,oa + k * 9,none⟩):=Eq.trans (hI.val 3 _ 104 rfl rfl (dep_at haf (by kernel_rfl))) rfl;have l0:=kp hW.low (Na.out 0 _ rfl);have l1:=kp hW.low (Na.out 1 _ rfl);have l2:=kp hW.low (Na.out 2 _ rfl);have l3:=kp hW.low (Na.out 3 _ rfl);have l4:=kp hW.low (Na.out 4 _ rfl);have l5:=kp hW.low (Na.out 5 _ rfl);have l6:=kp hW.low (Na.out 6 _ rfl);have l7:=kp hW.low (Na.out 7 _ rfl);have l8:=kp hW.low (Na.out 8 _ rfl);simp only [Nat.add_zero] at l0;go_simp;exact ⟨_,rfl,γ,rfl,fun j v _ h=>h,hW.other (by decide)⟩
      | 5,_=>
       obtain rfl:=Option.some.inj ho;have e1:a.tmps.getD 3 undef=.pointer (some ⟨w.heap.size + 1,0,none⟩):=(hI.was (by kernel_rfl)).trans rfl;go_simp;exact ⟨_,rfl,γ,rfl,fun j v _ h=>h,hW.other (by decide)⟩
      | 6,_=>
       obtain rfl:=Option.some.inj ho;have e1:a.tmps.getD 106 undef=.pointer (some ⟨w.heap.size + 1,6,none⟩):=Eq.trans (hI.val 5 _ 106 rfl rfl (dep_at haf (by kernel_rfl))) rfl;have l1:=kp hW.low bl0;go_simp;exact ⟨_,rfl,γ,rfl,fun j v _ h=>h,hW.other (by decide)⟩
      | 7,_=>
       obtain rfl:=Option.some.inj ho;have e1:a.tmps.getD 5 undef=.int .i64 (k:Int):=(hI.was (by kernel_rfl)).trans rfl;go_simp;exact ⟨_,rfl,γ,rfl,fun j v _ h=>h,hW.other (by decide)⟩
      | 8,_=>
       obtain rfl:=Option.some.inj ho;have e1:a.tmps.getD 107 undef=.slice (some ⟨gb,ob,none⟩) na cb:=Eq.trans (hI.val 6 _ 107 rfl rfl (dep_at haf (by kernel_rfl))) rfl;have e2:a.tmps.getD 108 undef=.int .i64 (k:Int):=Eq.trans (hI.val 7 _ 108 rfl rfl (dep_at haf (by kernel_rfl))) rfl;go_simp;exact ⟨_,rfl,γ,rfl,fun j v _ h=>h,hW.other (by decide)⟩
      | 9,_=>
       obtain rfl:=Option.some.inj ho;have e1:a.tmps.getD 109 undef=.pointer (some ⟨gb,ob + k * 9,none⟩):=Eq.trans (hI.val 8 _ 109 rfl rfl (dep_at haf (by kernel_rfl))) rfl;have l0:=kp hW.low (Nb.out 0 _ rfl);have l1:=kp hW.low (Nb.out 1 _ rfl);have l2:=kp hW.low (Nb.out 2 _ rfl);have l3:=kp hW.low (Nb.out 3 _ rfl);have l4:=kp hW.low (Nb.out 4 _ rfl);have l5:=kp hW.low (Nb.out 5 _ rfl);have l6:=kp hW.low (Nb.out 6 _ rfl);have l7:=kp hW.low (Nb.out 7 _ rfl);have l8:=kp hW.low (Nb.out 8 _ rfl);simp only [Nat.add_zero] at l0;go_simp;exact ⟨_,rfl,γ,rfl,fun j v _ h=>h,hW.other (by decide)⟩
      | 10,_=>
       obtain rfl:=Option.some.inj ho;go_simp;refine ⟨_,rfl,⟨z.heap.size,γ.b2⟩,rfl,fun j v hj h=>Eq.trans h (smV_x ?_),hW.allocX xi hx⟩;rintro rfl; have hj:=gD_q hj; rw [xi] at hj; cases hj
      | 11,_=>
       obtain rfl:=Option.some.inj ho;go_simp;refine ⟨_,rfl,⟨γ.b1,z.heap.size⟩,rfl,fun j v hj h=>Eq.trans h (smV_y ?_),hW.allocY xi hx⟩;rintro rfl; have hj:=gD_q hj; rw [xi] at hj; cases hj
      | 12,_=>
       obtain rfl:=Option.some.inj ho;have x10:x.getD 10 false=true:=dep_at haf (by kernel_rfl);have e1:a.tmps.getD 6 undef=.pointer (some ⟨γ.b1,0,none⟩):=Eq.trans (hI.val 10 _ 6 rfl rfl (dep_at haf (by kernel_rfl))) rfl;have e2:a.tmps.getD 105 undef=.agg (fdA f):=Eq.trans (hI.val 4 _ 105 rfl rfl (dep_at haf (by kernel_rfl))) rfl;have hX:=(hW.bx x10).2;rw [xi] at hX;replace hX:z.heap[γ.b1]?=some (.cells zF 70 (0,0)):=hX;have W':=hW.storeX x10 xi hx;obtain ⟨b1,b2⟩:=γ;simp only at e1 hX W';obtain ⟨l0,m0⟩:=rd_cell hX 0;obtain ⟨l1,m1⟩:=rd_cell hX 1;obtain ⟨l2,m2⟩:=rd_cell hX 2;obtain ⟨l3,m3⟩:=rd_cell hX 3;obtain ⟨l4,m4⟩:=rd_cell hX 4;obtain ⟨l5,m5⟩:=rd_cell hX 5;obtain ⟨l6,m6⟩:=rd_cell hX 6;obtain ⟨l7,m7⟩:=rd_cell hX 7;obtain ⟨l8,m8⟩:=rd_cell hX 8;simp only [List.getElem?_toArray,List.getElem?_cons_zero,List.getElem?_cons_succ] at l0 l1 l2 l3 l4 l5 l6 l7 l8;go_simp;exact ⟨⟨b1,b2⟩,fun j v _ h=>h,W'⟩
      | 13,_=>
       obtain rfl:=Option.some.inj ho;have x11:x.getD 11 false=true:=dep_at haf (by kernel_rfl);have e1:a.tmps.getD 7 undef=.pointer (some ⟨γ.b2,0,none⟩):=Eq.trans (hI.val 11 _ 7 rfl rfl (dep_at haf (by kernel_rfl))) rfl;have e2:a.tmps.getD 110 undef=.agg (fdA f):=Eq.trans (hI.val 9 _ 110 rfl rfl (dep_at haf (by kernel_rfl))) rfl;have hX:=(hW.by' x11).2;rw [xi] at hX;replace hX:z.heap[γ.b2]?=some (.cells zF 64 (0,0)):=hX;have W':=hW.storeY x11 xi hx;obtain ⟨b1,b2⟩:=γ;simp only at e1 hX W';obtain ⟨l0,m0⟩:=rd_cell hX 0;obtain ⟨l1,m1⟩:=rd_cell hX 1;obtain ⟨l2,m2⟩:=rd_cell hX 2;obtain ⟨l3,m3⟩:=rd_cell hX 3;obtain ⟨l4,m4⟩:=rd_cell hX 4;obtain ⟨l5,m5⟩:=rd_cell hX 5;obtain ⟨l6,m6⟩:=rd_cell hX 6;obtain ⟨l7,m7⟩:=rd_cell hX 7;obtain ⟨l8,m8⟩:=rd_cell hX 8;simp only [List.getElem?_toArray,List.getElem?_cons_zero,List.getElem?_cons_succ] at l0 l1 l2 l3 l4 l5 l6 l7 l8;go_simp;exact ⟨⟨b1,b2⟩,fun j v _ h=>h,W'⟩
    · intro γ x a z hx hall hI hW;have ha:=RegI.tmps (V:=smV w.heap.size ga oa gb ob k (.slice (some ⟨ga,oa,none⟩) na ca) (.slice (some ⟨gb,ob,none⟩) na cb) f γ) hI (by kernel_rfl) hall;have bX:=(hW.bx (hall 10 (by decide))).2;have bY:=(hW.by' (hall 11 (by decide))).2;rw [if_pos (hall 12 (by decide))] at bX;rw [if_pos (hall 13 (by decide))] at bY;have lo:Hid (Below w1.heap.size w1 z):=hb.out.trans (hW.low.mono hb.out.size);obtain ⟨b1,b2⟩:=γ;simp only at bX bY;simp only [putsL,smV,List.setIfInBounds_toArray,List.set_cons_zero,List.set_cons_succ,Array.getD_eq_getD_getElem?,List.getElem?_toArray,List.getElem?_cons_zero,List.getElem?_cons_succ,Option.getD_some] at ha;subst ha;clear hI hall hx hW x hb al0 bl0 Na Nb hAl hBl;obtain ⟨l0,m0⟩:=rd_cell bX 0;obtain ⟨l1,m1⟩:=rd_cell bX 1;obtain ⟨l2,m2⟩:=rd_cell bX 2;obtain ⟨l3,m3⟩:=rd_cell bX 3;obtain ⟨l4,m4⟩:=rd_cell bX 4;obtain ⟨l5,m5⟩:=rd_cell bX 5;obtain ⟨l6,m6⟩:=rd_cell bX 6;obtain ⟨l7,m7⟩:=rd_cell bX 7;obtain ⟨l8,m8⟩:=rd_cell bX 8;simp only [List.getElem?_toArray,List.getElem?_cons_zero,List.getElem?_cons_succ] at l0 l1 l2 l3 l4 l5 l6 l7 l8;obtain ⟨p0,q0⟩:=rd_cell bY 0;obtain ⟨p1,q1⟩:=rd_cell bY 1;obtain ⟨p2,q2⟩:=rd_cell bY 2;obtain ⟨p3,q3⟩:=rd_cell bY 3;obtain ⟨p4,q4⟩:=rd_cell bY 4;obtain ⟨p5,q5⟩:=rd_cell bY 5;obtain ⟨p6,q6⟩:=rd_cell bY 6;obtain ⟨p7,q7⟩:=rd_cell bY 7;obtain ⟨p8,q8⟩:=rd_cell bY 8;simp only [List.getElem?_toArray,List.getElem?_cons_zero,List.getElem?_cons_succ] at p0 p1 p2 p3 p4 p5 p6 p7 p8
      go_upto_region 7 with fail
      clear bX bY m0 q0 m1 q1 m2 q2 m3 q3 m4 q4 m5 q5 m6 q6 m7 q7 m8 q8;obtain ⟨nm,pl,kd,wd,sn,sd,on,od,un⟩:=f;simp only at *;have kl0:=cell_regrown l0;have kp0:=cell_regrown p0;have kl1:=cell_regrown l1;have kp1:=cell_regrown p1;have kl2:=cell_regrown l2;have kp2:=cell_regrown p2;have kl3:=cell_regrown l3;have kp3:=cell_regrown p3;have kl4:=cell_regrown l4;have kp4:=cell_regrown p4;have kl5:=cell_regrown l5;have kp5:=cell_regrown p5;have kl6:=cell_regrown l6;have kp6:=cell_regrown p6;have kl7:=cell_regrown l7;have kp7:=cell_regrown p7;have kl8:=cell_regrown l8;have kp8:=cell_regrown p8;refine wp_region_quiet_below (by kernel_rfl) (by kernel_rfl) ?_
      repeat (go_big_quiet_step (first
       | (go_at_call 32; with_reducible exact Calls.regrown_of (plain_any sn sd _))
       | (go_at_call 32; with_reducible exact Calls.regrown_of (plain_any on od _))))
      refine wpQuiet_nil ?_;intro _ hw';obtain ⟨⟨dq,osq⟩,hw''⟩:=hw';subst hw'';replace lo:Hid (Below w1.heap.size w1 (Sort.grow (redrawn z dq) osq)):=lo.out.trans ((below_regrown z dq osq).mono lo.out.size);clear kl0 kp0 l0 p0 kl1 kp1 l1 p1 kl2 kp2 l2 p2 kl3 kp3 l3 p3 kl4 kp4 l4 p4 kl5 kp5 l5 p5 kl6 kp6 l6 p6 kl7 kp7 l7 p7 kl8 kp8 l8 p8;generalize Sort.grow (redrawn z dq) osq=w5 at *;go_wp2;exact ⟨⟨k + 1,by omega,by simp,lo⟩,by simp [intOf]; omega⟩
  · obtain rfl:k=na:=by omega
    have hAl:=hAl.out;have hBl:=hBl.out;have lo:Hid (Below w.heap.size w wr):=bA.out.trans (hb.out.mono bA.out.size);go_wp2;go_ret;exact ⟨rfl,lo.out⟩
theorem DvsAt.form {T:TypeId} {x:World} {lv:Value} {ps:List Dn10} (h:DvsAt T x lv ps):∃ p cap,lv=.slice p ps.length cap:=by
 obtain ⟨N,ho⟩:=h.own;rcases own_slice ho with ⟨e,hz⟩ | ⟨g,cap,e,_⟩
 · exact ⟨none,0,by rw [e,hz]⟩
 · exact ⟨_,_,e⟩
theorem DvsAt.at {T:TypeId} {x:World} {p:Option Addr} {n cap:Nat} {ps:List Dn10} (h:DvsAt T x (.slice p n cap) ps) (hn:ps.length=n) {i:Nat} (hi:i < ps.length) :
 ∃ g,p=some ⟨g,0,none⟩∧n≤cap∧∀ k,k < 12→x.cell? ⟨g,i * 12 + k,none⟩=(dvB ps[i].1 ps[i].2.1 ps[i].2.2).toList[k]?:=by
 obtain ⟨N,ho⟩:=h.own;rcases own_slice ho with ⟨e,hz⟩ | ⟨g,c2,e,_⟩
 · omega
 · injection e with e1 e2 e3
   subst e1 e3;refine ⟨g,rfl,own_room ho _ _ _ rfl,fun k hk=>?_⟩;rw [← hn] at ho;rw [World.ownsRow.cellAt ho (i * 12 + k) (by omega),Nat.mul_comm i 12];exact dvCs_get ps i k hi hk
theorem dvs_same {T T':TypeId} {x:World} {lv lv':Value} {ps ps':List Dn10} (h:DvsAt T x lv ps) (h':DvsAt T' x lv' ps') (he:ps.map (·.1)=ps'.map (·.1)) {i:Nat} (hi:i < ps.length) (hi':i < ps'.length) (hl:((ps[i]).1.fs.length:Int)≤4500) :
 Calls Tryz.prog 15 #[dvV ps[i].1 ps[i].2.1 ps[i].2.2, dvV ps'[i].1 ps'[i].2.1 ps'[i].2.2] x fun e y => e = .returned (.int .i64 1) ∧ Below x.heap.size x y := by
 have e : ps[i].1 = ps'[i].1 := by
  have k:=congrArg (·[i]?) he;simp only [List.getElem?_map,List.getElem?_eq_getElem hi,List.getElem?_eq_getElem hi'] at k
  simpa using k
 have f1:=h.fl _ (List.getElem_mem hi);have f2:=h'.fl _ (List.getElem_mem hi');rw [← e] at f2 ⊢;exact same_v _ _ _ _ _ x f1.1.v f1.2 f2.1.v f2.2 hl
theorem row12 {x:World} {g o:Nat} {d:Dv} {fv qv:Value} (h:∀ k,k < 12→x.cell? ⟨g,o + k,none⟩=(dvB d fv qv).toList[k]?) :
 x.cell? ⟨g,o,none⟩=some (.string (txt d.nm))∧x.cell? ⟨g,o + 1,none⟩=some (.int .i64 d.st)∧x.cell? ⟨g,o + 2,none⟩=some (.int .i64 d.es)∧x.cell? ⟨g,o + 3,none⟩=some (.int .i64 d.mx)∧x.cell? ⟨g,o + 4,none⟩=some (.int .i64 d.sz)∧x.cell? ⟨g,o + 5,none⟩=some (.string (txt d.sm))∧x.cell? ⟨g,o + 6,none⟩=some fv∧x.cell? ⟨g,o + 7,none⟩=some qv∧x.cell? ⟨g,o + 8,none⟩=some (.int .i64 d.po)∧x.cell? ⟨g,o + 9,none⟩=some (.int .i64 d.ti)∧x.cell? ⟨g,o + 10,none⟩=some (.int .i64 d.re)∧x.cell? ⟨g,o + 11,none⟩=some (.int .i64 d.ag):=
 ⟨h 0 (by decide),h 1 (by decide),h 2 (by decide),h 3 (by decide),h 4 (by decide),h 5 (by decide),h 6 (by decide),h 7 (by decide),h 8 (by decide),h 9 (by decide),h 10 (by decide),h 11 (by decide)⟩
theorem DvsAt.max {T:TypeId} {x:World} {lv:Value} {ps:List Dn10} (h:DvsAt T x lv ps):(ps.length:Int)≤9223372036854775807:=by
 obtain ⟨N,h1,h2⟩:=h.own;rcases h2 with ⟨_,h3⟩ | ⟨g,cap,cur,_,_,_,h4,h5,_⟩
 · omega
 · unfold maxLen at h5; omega
theorem parse_text {d:Dv} (h:DvOk d):parseM (textD d)=(d,0,0):=by
 have hl:(textD d).length≤4000:=by have:=h.len; omega
 obtain ⟨h1,h2,h3⟩:=lex_text (linesW d) h.lines hl;unfold parseM;rw [show lexErr (textD d)=0 from h3,if_pos rfl,show lexRows (textD d)=nrL 1 (linesW d) from h1];exact read_lines h (wds_nr _ 1)
def awd:Dv:=⟨[97],2,27,32,3,[120,111,114],[],[5],10,3,0,30⟩
theorem awd_ck:ckE awd=0:=of_decide_eq_true (by kernel_rfl)
theorem awd_i:DvI awd:=⟨by decide,fun f hf=>(by cases hf),⟨by decide,by decide⟩,by decide⟩
theorem awd_b:AllBytes awd.rq:=fun c hc=>by
 have:c=5:=by simpa [awd] using hc
 omega
theorem awd_len:20 < (txt (textD awd)).size:=by
 rw [txt_size];exact of_decide_eq_true (by kernel_rfl)
def AwT (S:ByteArray) (p:Addr):World→Prop:=fun x=>Calls Tryz.prog 10 #[.agg #[.string ⟨#[97]⟩,.int .i64 2,.int .i64 27,.int .i64 32,.int .i64 3,.string ⟨#[120,111,114]⟩,.slice none 0 0,.slice (some p) 1 1,.int .i64 10,.int .i64 3,.int .i64 0,.int .i64 30]] x fun e y=>e=.returned (.tuple #[.string S,.int .i64 0])∧Below x.heap.size x y
theorem shAwT {x:World} {g:Nat} (h:x.cell? ⟨g,0,none⟩=some (.int .u8 5)) (hg:g < x.heap.size):AwT (txt (textD awd)) ⟨g,0,none⟩ x:=by
 have k:=shtext_any awd (.slice none 0 0) (.slice (some ⟨g,0,none⟩) 1 1) x awd_i awd_b (.inr ⟨g,0,1,rfl,fun j hj=>by
  have e:j=0:=by simp [awd] at hj; exact hj
  subst e;exact h,hg⟩) (.inl ⟨none,0,rfl,rfl⟩)
 have e:shT awd=textD awd:=by unfold shT; rw [if_pos awd_ck]
 rw [e,awd_ck] at k;exact k
def AwR (S:ByteArray):Prop:=∀ x,Tab7 x→Calls Tryz.prog 13 #[.string S] x fun e y=>(∃ fv qv,e=.returned (.tuple #[.agg #[.string ⟨#[97]⟩,.int .i64 2,.int .i64 27,.int .i64 32,.int .i64 3,.string ⟨#[120,111,114]⟩,fv,qv,.int .i64 10,.int .i64 3,.int .i64 0,.int .i64 30],.int .i64 0,.int .i64 0])∧(∃ p n c,fv=.slice p n c)∧∃ p n c,qv=.slice p n c)∧Below x.heap.size x y
theorem awR:AwR (txt (textD awd)):=fun x T=>by
 refine (shread_any (txt (textD awd)) x T).mono ?_;have e:chkM (parseM (txt (textD awd)).data.toList)=(awd,0,0):=by
  rw [show (txt (textD awd)).data.toList=textD awd from rfl,parse_text (awd_i.snd awd_ck awd_b).ok,chk_sound awd_ck]
 rw [e];rintro e y ⟨fv,qv,rfl,hf,hq,hb,_,_⟩;exact ⟨⟨fv,qv,rfl,hf.form,hq.form'⟩,hb⟩
theorem awake10 (w:World) (T7:Tab7 w):Calls Tryz.prog 8 #[] w fun e y=>e=.returned (.bool true)∧Below w.heap.size w y:=by
 have B0:Hid (Below w.heap.size w ((w.alloc (.cells #[.int .u8 5] 5)).alloc (.cells #[.string ⟨#[97]⟩,.int .i64 2,.int .i64 27,.int .i64 32,.int .i64 3,.string ⟨#[120,111,114]⟩,.slice none 0 0,.slice (some ⟨w.heap.size,0,none⟩) 1 1,.int .i64 10,.int .i64 3,.int .i64 0,.int .i64 30] 33))):=((Below.refl _ _).alloc (Nat.le_refl _) _).alloc (by rw [World.size_alloc]; omega) _;have tx:Hid (AwT (txt (textD awd)) ⟨w.heap.size,0,none⟩ ((w.alloc (.cells #[.int .u8 5] 5)).alloc (.cells #[.string ⟨#[97]⟩,.int .i64 2,.int .i64 27,.int .i64 32,.int .i64 3,.string ⟨#[120,111,114]⟩,.slice none 0 0,.slice (some ⟨w.heap.size,0,none⟩) 1 1,.int .i64 10,.int .i64 3,.int .i64 0,.int .i64 30] 33))):=by
  have h1:=cell_1 w (.int .u8 5) 5;have hb:Below (w.alloc (.cells #[.int .u8 5] 5)).heap.size (w.alloc (.cells #[.int .u8 5] 5)) ((w.alloc (.cells #[.int .u8 5] 5)).alloc (.cells #[.string ⟨#[97]⟩,.int .i64 2,.int .i64 27,.int .i64 32,.int .i64 3,.string ⟨#[120,111,114]⟩,.slice none 0 0,.slice (some ⟨w.heap.size,0,none⟩) 1 1,.int .i64 10,.int .i64 3,.int .i64 0,.int .i64 30] 33)):=(Below.refl _ _).alloc (Nat.le_refl _) _;obtain ⟨k1,k2⟩:=cell_keep ⟨h1,by rw [World.size_alloc]; exact Nat.lt_succ_self _⟩ hb;exact shAwT k1 k2
 have rd:Hid (AwR (txt (textD awd))):=awR;have hS:=awd_len;replace T7:Hid (Tab7 w):=T7;generalize txt (textD awd)=S at *;have hS':(20:Int) < (S.size:Int):=by omega
 clear hS
 go_enter Tryz.func8,Tryz.ntmps8
 go_wp2_with fail
 generalize (w.alloc (.cells #[.int .u8 5] 5)).alloc (.cells #[.string ⟨#[97]⟩,.int .i64 2,.int .i64 27,.int .i64 32,.int .i64 3,.string ⟨#[120,111,114]⟩,.slice none 0 0,.slice (some ⟨w.heap.size,0,none⟩) 1 1,.int .i64 10,.int .i64 3,.int .i64 0,.int .i64 30] 33)=w2 at *;refine tx.out.mono ?_;rintro e y ⟨rfl,hb⟩;have B1:Hid (Below w.heap.size w y):=B0.out.trans (hb.mono B0.out.size);clear hb tx B0
 go_wp2_with fail
 refine (rd.out y (T7.out.below B1.out)).mono ?_;rintro e z ⟨⟨fv,qv,rfl,⟨pf,nf,cf,rfl⟩,⟨pq,nq,cq,rfl⟩⟩,hb⟩;have B2:Hid (Below w.heap.size w z):=B1.out.trans (hb.mono B1.out.size);have B3:Hid (∀ o,Below w.heap.size w (z.alloc o)):=fun o=>B2.out.alloc B2.out.size o
 clear hb rd B1 T7;go_wp2;go_ret;exact ⟨rfl,B3.out _⟩
def ShAwC (w:World):Prop:=∀ x,Below w.heap.size w x→Calls Tryz.prog 8 #[] x fun e y=>e=.returned (.bool true)∧Below x.heap.size x y
theorem shAwC {w:World} (T7:Tab7 w):ShAwC w:=fun x hx=>awake10 x (T7.below hx)
end Go.Proofs.YthabffjgdhfbmaaGreatDoor
