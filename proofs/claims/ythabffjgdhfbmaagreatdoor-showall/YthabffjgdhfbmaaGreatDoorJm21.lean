/-
  Texts that belong together, one behind the other: SnRc, SnLr, ShRd, ShOpD, ShAw, ShRds0, RefText, TextsB, ShRhex. Conditions: as each says.
-/
import Derived.BigQuiet
import Derived.ChangeOld
import Derived.Deep.CutRange
import Derived.Deep.QuietTactic
import Derived.Deep.RegionHeld3
import Derived.Laws.BitsAllLaws
import Derived.Laws.OwnMore
import Derived.Laws.Shifts
import Derived.Lib.QuietBelowIn
import Derived.Maps.AppendAt
import Derived.OpenShut
import Derived.ProofKit
import Derived.RangeFuncCalls
import Derived.ShutString
import Derived.Sort.BigQuietIn
import Derived.Test.YthabffjgdhfbmaaGreatDoorProg
import Derived.Test.YthabffjgdhfbmaaGreatDoorJm1
import Derived.Test.YthabffjgdhfbmaaGreatDoorJm2
import Derived.Test.YthabffjgdhfbmaaGreatDoorJm3
import Derived.Test.YthabffjgdhfbmaaGreatDoorJm4
import Derived.Test.YthabffjgdhfbmaaGreatDoorJm5
import Derived.Test.YthabffjgdhfbmaaGreatDoorJm6
import Derived.Test.YthabffjgdhfbmaaGreatDoorJm7
import Derived.Test.YthabffjgdhfbmaaGreatDoorJm8
import Derived.Test.YthabffjgdhfbmaaGreatDoorJm9
import Derived.Test.YthabffjgdhfbmaaGreatDoorJm10
import Derived.Test.YthabffjgdhfbmaaGreatDoorJm11
import Derived.Test.YthabffjgdhfbmaaGreatDoorJm12
import Derived.Test.YthabffjgdhfbmaaGreatDoorJm13
import Derived.Test.YthabffjgdhfbmaaGreatDoorJm14
import Derived.Test.YthabffjgdhfbmaaGreatDoorJm15
import Derived.Test.YthabffjgdhfbmaaGreatDoorJm16
import Derived.Test.YthabffjgdhfbmaaGreatDoorJm17
import Derived.Test.YthabffjgdhfbmaaGreatDoorJm18
import Derived.Test.YthabffjgdhfbmaaGreatDoorJm19
import Derived.Test.YthabffjgdhfbmaaGreatDoorJm20
set_option maxRecDepth 100000
set_option maxHeartbeats 32000000
set_option linter.unusedVariables false
namespace Go.Proofs.YthabffjgdhfbmaaGreatDoor
open Go.RowKit
structure RcI (w wr:World) (d:Dv) (fv qv:Value):Prop where
 d:DevB wr w.heap.size d fv qv
 b:Below w.heap.size w wr
theorem RcI.below {w x y:World} {d:Dv} {fv qv:Value} (h:RcI w x d fv qv) (k:Below x.heap.size x y):RcI w y d fv qv:=⟨h.d.below k,h.b.trans (k.mono h.b.size)⟩
theorem rof_any (s:ByteArray) (w:World):Calls Tryz.prog 26 #[.string s,.slice none 0 0] w fun e w'=>∃ p n c,e=.returned (.tuple #[.slice p n c,.bool (isSum s)])∧(isSum s=true→n=sizeK (whichN s))∧Below w.heap.size w w':=by
 have hv:BytesAt w (.slice none 0 0) []:=.inl ⟨rfl,rfl⟩;rcases which_cases s with ⟨k,hk,e,hw⟩ | ⟨hw,hn⟩
 · rw [sum_yes hk hw,hw];rw [e];refine (rof_yes hk (.slice none 0 0) [] w hv (by simp) (fun c hc=>by cases hc)).mono ?_;rintro e y ⟨x,rfl,hx,hb⟩;have hl:=end_len hk [];rcases hx with ⟨rfl,h0⟩ | ⟨g,o,cap,rfl,_⟩
   · exact ⟨_,_,_,rfl,fun _=>by rw [← hl,h0]; rfl,hb⟩
   · exact ⟨_,_,_,rfl,fun _=>hl,hb⟩
 · rw [sum_not hw];refine (rof_no s (.slice none 0 0) [] w hv (by simp) (fun c hc=>by cases hc) hn).mono ?_;rintro e y ⟨rfl,hb⟩;exact ⟨_,_,_,rfl,fun h=>(by cases h),hb⟩
def NoneIn (nm:Wd) (l:List Wd):Prop:=nm ∉ l
theorem none_next {nm:Wd} {fs:List Fd} {k:Nat} (hk:k < fs.length) (h:NoneIn nm ((fs.take k).map (·.nm))) (hn:¬ fs[k].nm=nm):NoneIn nm ((fs.take (k + 1)).map (·.nm)):=by
 unfold NoneIn at *;rw [← List.take_append_getElem hk,List.map_append,List.mem_append];rintro (c | c)
 · exact h c
 · exact hn (by rw [List.map_cons,List.map_nil,List.mem_singleton] at c; exact c.symm)
theorem some_in {nm:Wd} {fs:List Fd} {k i:Nat} (hk:k < i) (hi:i≤fs.length) (hn:(fs[k]'(by omega)).nm=nm):nm ∈ (fs.take i).map (·.nm):=by
 rw [← hn];refine List.mem_map_of_mem ?_;have hk':k < (fs.take i).length:=by rw [List.length_take]; omega
 have e:(fs.take i)[k]=fs[k]'(by omega):=List.getElem_take;rw [← e];exact List.getElem_mem hk'
theorem rck_c (d:Dv) (pf pq:Option Addr) (nf cf nq cq:Nat) (w:World) (hf:d.fs.length=nf) (hq:d.rq.length=nq) (hfv:FldsV w (.slice pf nf cf) d.fs) (hi:DvI d) (hn:nameB d.nm=true) (hN:gdN d=true):Calls Tryz.prog 12 #[dvV d (.slice pf nf cf) (.slice pq nq cq)] w (QA w (ckE d)):=by
 have nc:Hid (∀ x,Calls Tryz.prog 25 #[.string (txt d.nm)] x fun e w'=>e=.returned (.bool (nameB d.nm))∧Below x.heap.size x w'):=fun x=>same_b (rname_any (txt d.nm) x)
 have D0:Hid (DevB (w.alloc (.cells #[.string (txt d.nm),.int .i64 d.st,.int .i64 d.es,.int .i64 d.mx,.int .i64 d.sz,.string (txt d.sm),.slice pf nf cf,.slice pq nq cq,.int .i64 d.po,.int .i64 d.ti,.int .i64 d.re,.int .i64 d.ag] 25)) w.heap.size d (.slice pf nf cf) (.slice pq nq cq)):=DevB.new hfv _;have B0:Hid (Below w.heap.size w (w.alloc (.cells #[.string (txt d.nm),.int .i64 d.st,.int .i64 d.es,.int .i64 d.mx,.int .i64 d.sz,.string (txt d.sm),.slice pf nf cf,.slice pq nq cq,.int .i64 d.po,.int .i64 d.ti,.int .i64 d.re,.int .i64 d.ag] 25))):=(Below.refl _ _).alloc (Nat.le_refl _) _;rw [hn] at nc;have oc:Hid (∀ x,Calls Tryz.prog 26 #[.string (txt d.sm),.slice none 0 0] x fun e w'=>∃ p n c,e=.returned (.tuple #[.slice p n c,.bool (isSum (txt d.sm))])∧(isSum (txt d.sm)=true→n=sizeK (whichN (txt d.sm)))∧Below x.heap.size x w'):=fun x=>rof_any (txt d.sm) x
 obtain ⟨T,hT⟩:∃ T,ckE d=T:=⟨_,rfl⟩;rw [hT];replace hT:Hid (ckE d=T):=hT;obtain ⟨⟨i1,i2⟩,⟨i3,i4⟩,⟨i5,i6⟩,⟨i7,i8⟩,⟨i9,i10⟩,⟨i11,i12⟩,⟨i13,i14⟩,⟨i15,i16⟩,⟨i17,i18⟩,i19,i20⟩:=gdN_iff.1 hN;rw [hq] at i17 i18;rw [hf] at i19 i20;replace hn:Hid (nameB d.nm=true):=hn;replace hN:Hid (gdN d=true):=hN;replace hi:Hid (DvI d):=hi;replace hf:Hid (d.fs.length=nf):=hf;clear hq hfv;obtain ⟨S,hS⟩:∃ S,isSum (txt d.sm)=S:=⟨_,rfl⟩;rw [hS] at oc;replace hS:Hid (isSum (txt d.sm)=S):=hS
 go_enter Tryz.func12,Tryz.ntmps12
 go_wp2_with fail
 refine (nc.out _).mono ?_;rintro e y1 ⟨rfl,hb⟩;have D1:Hid (DevB y1 w.heap.size d (.slice pf nf cf) (.slice pq nq cq)):=D0.out.below hb;have B1:Hid (Below w.heap.size w y1):=B0.out.trans (hb.mono B0.out.size);clear hb D0 B0 nc;obtain ⟨_,z1,z2,z3,z4,z5,z6,z7,z8,z9,z10,z11⟩:=D1.out.cells
 go_wp2_with fail
 refine (oc.out _).mono ?_;rintro e y2 ⟨pO,nO,cO,rfl,_,hb⟩;have I2:Hid (RcI w y2 d (.slice pf nf cf) (.slice pq nq cq)):=⟨D1.out.below hb,B1.out.trans (hb.mono B1.out.size)⟩;clear hb D1 B1 oc z1 z2 z3 z4 z5 z6 z7 z8 z9 z10 z11
 cases S
 · have fin:Hid (4=T):=ck_4 hT.out hn.out hN.out hS.out;clear hT hn hN hS hi hf;go_wp2;go_ret;exact ⟨ret_int fin.out,I2.out.b⟩
 obtain ⟨_,z1,z2,z3,z4,_,z6,_,z8,z9,_,z11⟩:=I2.out.d.cells;have hC:=gdC_doc hN.out
 by_cases c1:d.st=d.es
 · have fin:Hid (10=T):=ck_10 hT.out hn.out hN.out hS.out (by rw [hC,decide_eq_true c1]; rfl);have b1:(d.st == d.es)=true:=beq_iff_eq.2 c1;clear hT hn hN hS hi hf hC c1;go_wp2;go_ret;exact ⟨ret_int fin.out,I2.out.b⟩
 have b1:(d.st == d.es)=false:=beq_eq_false_iff_ne.2 c1
 by_cases c2:d.mx=0
 · have fin:Hid (10=T):=ck_10 hT.out hn.out hN.out hS.out (by rw [hC,decide_eq_true c2]; simp);have b2:(d.mx == 0)=true:=beq_iff_eq.2 c2;clear hT hn hN hS hi hf hC c1 c2;go_wp2;go_ret;exact ⟨ret_int fin.out,I2.out.b⟩
 have b2:(d.mx == 0)=false:=beq_eq_false_iff_ne.2 c2
 by_cases c3:bits .xor .i64 d.es d.mx=d.st
 · have fin:Hid (10=T):=ck_10 hT.out hn.out hN.out hS.out (by rw [hC,decide_eq_true (show xorI d.es d.mx=d.st from c3)]; simp);have b3:(bits .xor .i64 d.es d.mx == d.st)=true:=beq_iff_eq.2 c3;clear hT hn hN hS hi hf hC c1 c2 c3;go_wp2;go_ret;exact ⟨ret_int fin.out,I2.out.b⟩
 have b3:(bits .xor .i64 d.es d.mx == d.st)=false:=beq_eq_false_iff_ne.2 c3;have hC':Hid (gdC d=true):=by
  unfold Hid;rw [hC,decide_eq_false c1,decide_eq_false c2,decide_eq_false (show ¬ xorI d.es d.mx=d.st from c3)]; rfl
 clear hC c1 c2 c3
 by_cases c4:d.po≤d.ti
 · have fin:Hid (11=T):=ck_11 hT.out hn.out hN.out hS.out hC'.out (by unfold gdT; rw [decide_eq_false (by omega)]; rfl);clear hT hn hN hS hi hf hC';go_wp2;go_ret;exact ⟨ret_int fin.out,I2.out.b⟩
 by_cases c5:d.ag < d.po
 · have fin:Hid (11=T):=ck_11 hT.out hn.out hN.out hS.out hC'.out (by unfold gdT; rw [decide_eq_false (by omega:¬ d.po≤d.ag)]; simp);clear hT hn hN hS hi hf hC';go_wp2;go_ret;exact ⟨ret_int fin.out,I2.out.b⟩
 have I0:Hid (FsI d.sz ((d.fs.take 0).map (·.nm)) (d.fs.drop 0) T):=ck_fs hT.out hn.out hN.out hS.out hC'.out (by unfold gdT; rw [decide_eq_true (by omega:d.ti < d.po),decide_eq_true (by omega:d.po≤d.ag)]; rfl);have hs1:Hid (I64 d.sz):=⟨by omega,by omega⟩;clear hT hn hN hS hC';go_wp2;clear z1 z2 z3 z4 z6 z8 z9 z11 b1 b2 b3 c4 c5 i1 i2 i3 i4 i5 i6 i9 i10 i11 i12 i13 i14 i15 i16 i17 i18 i19
 go_loopw [5] (fun vi wr=>∃ i:Nat,(i:Int)≤(nf:Int)∧vi=.int .i64 (i:Int)∧Hid (FsI d.sz ((d.fs.take i).map (·.nm)) (d.fs.drop i) T)∧Hid (RcI w wr d (.slice pf nf cf) (.slice pq nq cq))) (fun vi _=>nf - (intOf vi).toNat)
 case atStart=>exact ⟨0,by omega,rfl,I0,I2⟩
 case round=>
  obtain ⟨i,hii,rfl,lf,I⟩:=hrel;clear I0 I2;obtain ⟨_,_,_,_,z4,_,z6,_⟩:=I.out.d.cells
  by_cases hlt:(i:Int) < (nf:Int)
  · have hil:i < d.fs.length:=by have:=hf.out; omega
    have fl:=I.out.d.fl;rcases fl with ⟨_,_,_,e⟩ | ⟨g,o,cap',e,_,hin,hg⟩
    · rw [e] at hil; cases hil
    · injection e with e1 e2 e3
      subst e1;have lq:=lf.out;rw [List.drop_eq_getElem_cons hil] at lq;have tk:d.fs.take (i + 1)=d.fs.take i ++ [d.fs[i]]:=by rw [List.take_append_getElem]
      obtain ⟨f,hfi⟩:∃ f,d.fs[i]=f:=⟨_,rfl⟩;obtain ⟨c0,c1,c2,c3,c4,c5,c6,c7,c8⟩:=hin.cells hil hfi;have fi:=hi.out.fs f (by rw [← hfi]; exact List.getElem_mem hil);rw [hfi] at lq tk;replace lq:Hid (FsI d.sz ((d.fs.take i).map (·.nm)) (f :: d.fs.drop (i + 1)) T):=lq;replace tk:Hid (d.fs.take (i + 1)=d.fs.take i ++ [f]):=tk;have rf:Hid (∀ dr os,Calls Tryz.prog 27 #[.int .i64 d.sz,fdV f] (Sort.grow (redrawn wr dr) os) fun e w'=>e=.returned (.int .i64 (fldE d.sz f))∧Below (Sort.grow (redrawn wr dr) os).heap.size (Sort.grow (redrawn wr dr) os) w'):=fun dr os=>rfield_any d.sz f _ fi hs1.out (by omega)
      have k4:=fun dr os=>cell_regrown z4 dr os
      have k6:=fun dr os=>cell_regrown z6 dr os
      have k0:=fun dr os=>cell_regrown c0 dr os
      have k1:=fun dr os=>cell_regrown c1 dr os
      have k2:=fun dr os=>cell_regrown c2 dr os
      have k3:=fun dr os=>cell_regrown c3 dr os
      have k5:=fun dr os=>cell_regrown c4 dr os
      have k7:=fun dr os=>cell_regrown c5 dr os
      have k8:=fun dr os=>cell_regrown c6 dr os
      have k9:=fun dr os=>cell_regrown c7 dr os
      have k10:=fun dr os=>cell_regrown c8 dr os
      obtain ⟨E,hE⟩:∃ E,fldE d.sz f=E:=⟨_,rfl⟩;rw [hE] at rf;replace hE:Hid (fldE d.sz f=E):=hE;have hfi':Hid (∃ h:i < d.fs.length,d.fs[i]=f):=⟨hil,hfi⟩;clear lf hin hfi e2 e3 hil fi c0 c1 c2 c3 c4 c5 c6 c7 c8;obtain ⟨fm,pl,kd,wd,sn,sd,on,od,un⟩:=f;simp only at k0 k1 k2 k3 k5 k7 k8 k9 k10
      go_wp2_with fail
      refine wp_region_quiet_below (by kernel_rfl) (by kernel_rfl) ?_
      repeat (go_big_quiet_step (first
       | (go_at_call 27; with_reducible exact Calls.regrown_of (rf.out _ _))))
      refine wpQuiet_nil ?_;intro _ hw';obtain ⟨⟨dq,osq⟩,hw''⟩:=hw';subst hw'';replace I:Hid (RcI w (Sort.grow (redrawn wr dq) osq) d (.slice (some ⟨g,o,none⟩) nf cf) (.slice pq nq cq)):=I.out.below (below_regrown wr dq osq);clear k0 k1 k2 k3 k4 k5 k6 k7 k8 k9 k10 rf z4 z6 hg;generalize Sort.grow (redrawn wr dq) osq=wq at *
      by_cases h0:E=0
      · subst h0;have N0:Hid (NoneIn fm ((d.fs.take 0).map (·.nm))):=by unfold Hid NoneIn; simp
        go_wp2_with fail
        go_loopw [7] (fun vk wk=>∃ k:Nat,(k:Int)≤(i:Int)∧vk=.int .i64 (k:Int)∧Hid (NoneIn fm ((d.fs.take k).map (·.nm)))∧Hid (RcI w wk d (.slice (some ⟨g,o,none⟩) nf cf) (.slice pq nq cq))) (fun vk _=>i - (intOf vk).toNat)
        case atStart=>exact ⟨0,by omega,rfl,N0,I⟩
        case round=>
         obtain ⟨k,hk,rfl,ln,J⟩:=hrel;clear N0 I
         by_cases hki:(k:Int) < (i:Int)
         · obtain ⟨_,_,_,_,_,_,y6,_⟩:=J.out.d.cells;obtain ⟨hil,hfi⟩:=hfi'.out;have hkl:k < d.fs.length:=by omega
           rcases J.out.d.fl with ⟨_,_,_,e⟩ | ⟨g',o',cap',e,_,hin,_⟩
           · rw [e] at hkl; cases hkl
           · injection e with e1 e2 e3
             injection e1 with e1
             injection e1 with e1 e4 e5
             subst e1;subst e4;obtain ⟨d0,_⟩:=hin.cells hil hfi;obtain ⟨x0,_⟩:=hin.cells hkl rfl;simp only at d0;have kA:=fun dr os=>cell_regrown y6 dr os
             have kB:=fun dr os=>cell_regrown d0 dr os
             have kC:=fun dr os=>cell_regrown x0 dr os
             have heq:=txtw_eqL (d.fs[k]).nm fm;have hyes:Hid (d.fs[k].nm=fm→8=T):=fun h=>lq.out.twice hE.out (some_in (by omega) (by omega) h)
             have hno:Hid (¬ d.fs[k].nm=fm→NoneIn fm ((d.fs.take (k + 1)).map (·.nm))):=fun h=>none_next hkl ln.out h
             have hki2:(k:Int) < (nf:Int):=by omega
             clear hin e2 e3 ln
             cases hd:decide (d.fs[k].nm=fm)
             · rw [hd] at heq;have nx:=hno.out (of_decide_eq_false hd);replace nx:Hid (NoneIn fm ((d.fs.take (k + 1)).map (·.nm))):=nx;clear hyes hno hd d0 x0 y6;generalize txt d.fs[k].nm=S1 at *;generalize txt fm=S2 at *
               go_wp2_with fail
               refine wp_region_quiet_below (by kernel_rfl) (by kernel_rfl) ?_
               repeat (go_big_quiet_step (fail))
               refine wpQuiet_nil ?_;intro _ hw';obtain ⟨⟨dq,osq⟩,hw''⟩:=hw';subst hw'';have J2:Hid (RcI w (Sort.grow (redrawn wr dq) osq) d (.slice (some ⟨g,o,none⟩) nf cf) (.slice pq nq cq)):=J.out.below (below_regrown _ dq osq);clear kA kB kC J;go_wp2;exact ⟨⟨k + 1,by omega,by simp,nx,J2⟩,by simp [intOf]; omega⟩
             · rw [hd] at heq;have fin:Hid (8=T):=hyes.out (of_decide_eq_true hd);clear hyes hno hd d0 x0 y6;generalize txt d.fs[k].nm=S1 at *;generalize txt fm=S2 at *
               go_wp2_with fail
               refine wp_region_quiet_below (by kernel_rfl) (by kernel_rfl) ?_
               repeat (go_big_quiet_step (fail))
               refine wpQuiet_nil ?_;intro _ hw';obtain ⟨⟨dq,osq⟩,hw''⟩:=hw';subst hw'';have J2:Hid (Below w.heap.size w (Sort.grow (redrawn wr dq) osq)):=J.out.b.trans ((below_regrown _ dq osq).mono J.out.b.size);clear kA kB kC J;go_wp2;go_ret;exact ⟨ret_int fin.out,J2.out⟩
         · obtain rfl:k=i:=by omega
           have nx:Hid (FsI d.sz ((d.fs.take (k + 1)).map (·.nm)) (d.fs.drop (k + 1)) T):=by
            have k1:=lq.out.go hE.out ln.out;rw [tk.out,List.map_append];exact k1
           clear lq tk hE ln hfi';go_wp2;exact ⟨⟨k + 1,by omega,by simp,nx,J⟩,by simp [intOf]; omega⟩
      · have hne:(E != 0)=true:=by simpa using h0
        have fin:Hid (E=T):=by
         have k1:=lq.out.err (by rw [hE.out]; exact h0);rw [hE.out] at k1;exact k1
        clear lq tk hE hfi';go_wp2;go_ret;exact ⟨ret_int fin.out,I.out.b⟩
  · obtain rfl:i=nf:=by omega
    have fin:Hid (0=T):=by
     have lq:=lf.out;rw [List.drop_of_length_le (by have:=hf.out; omega)] at lq;exact lq.fin
    clear lf;go_wp2;go_ret;exact ⟨ret_int fin.out,I.out.b⟩
theorem rcheck_any (d:Dv) (pf pq:Option Addr) (cf cq:Nat) (w:World) (hi:DvI d) (hfv:FldsV w (.slice pf d.fs.length cf) d.fs):Calls Tryz.prog 12 #[dvV d (.slice pf d.fs.length cf) (.slice pq d.rq.length cq)] w (QA w (ckE d)):=by
 by_cases hn:nameB d.nm=true
 · by_cases hN:gdN d=true
   · exact rck_c d pf pq _ cf _ cq w rfl rfl hfv hi hn hN
   · rw [← ck_6 (d:=d) rfl (fun h=>hN h.2)];have hx:=fun h=>hN (gdN_iff.2 h)
     by_cases h1:d.st < 0 ∨ 255 < d.st ∨ d.es < 0 ∨ 255 < d.es ∨ d.mx < 0 ∨ 255 < d.mx ∨ d.sz < 1 ∨ 32 < d.sz ∨ 8 < (d.fs.length:Int) ∨ (d.rq.length:Int) < 1 ∨ 16 < (d.rq.length:Int)
     · exact rck_a d pf pq _ cf _ cq w rfl rfl hfv (.inr h1)
     · refine rck_b d pf pq _ cf _ cq w rfl rfl hfv hn (by omega) ?_;clear hN
       by_cases h2:d.po < 1 ∨ 1000 < d.po ∨ d.ti < 1 ∨ 1000 < d.ti ∨ d.ag < 1 ∨ 1000 < d.ag ∨ d.re < 0 ∨ 10 < d.re
       · exact h2
       · exact absurd (by omega) hx
 · rw [← ck_6 (d:=d) rfl (fun h=>hn h.1)];exact rck_a d pf pq _ cf _ cq w rfl rfl hfv (.inl hn)
theorem txt_toL (z:Wd):(txt z).toList=z:=by rw [ByteArray.toList_eq]; rfl
def KsE (ns:List Wd) (nm:Wd) (E1 E:Int) (k:Nat):Prop:=(E=E1∧(E1=0→nm ∉ ns.take k)) ∨ (E1=0∧E=8∧nm ∈ ns)
def BeE (ns:List Wd) (nm:Wd) (E1 B:Int):Prop:=(¬ E1=0→B=E1)∧(E1=0→nm ∉ ns→B=0)∧(E1=0→nm ∈ ns→B=8)
theorem KsE.fin {ns:List Wd} {nm:Wd} {E1 E B:Int} {k:Nat} (h:KsE ns nm E1 E k) (hb:BeE ns nm E1 B) (hk:k=ns.length ∨ ¬ E=0):B=E:=by
 rcases h with ⟨rfl,h⟩ | ⟨h1,rfl,h2⟩
 · by_cases h0:E=0
   · rcases hk with hk | hk
     · rw [h0];exact hb.2.1 h0 (by have:=h h0; rwa [hk,List.take_length] at this)
     · exact absurd h0 hk
   · exact hb.1 h0
 · exact hb.2.2 h1 h2
theorem KsE.step {ns:List Wd} {nm:Wd} {E1:Int} {k:Nat} (h:KsE ns nm E1 0 k) {z:Wd} (hz:ns[k]?=some z) (hne:¬ z=nm):KsE ns nm E1 0 (k + 1):=by
 rcases h with ⟨h1,h⟩ | ⟨_,h,_⟩
 · refine .inl ⟨h1,fun h0 hm=>?_⟩;rw [List.take_add_one,hz] at hm;rcases List.mem_append.1 hm with hm | hm
   · exact h h0 hm
   · simp at hm; exact hne hm.symm
 · cases h
theorem KsE.hit {ns:List Wd} {nm:Wd} {E1:Int} {k:Nat} (h:KsE ns nm E1 0 k) {z:Wd} (hz:ns[k]?=some z) (he:z=nm):KsE ns nm E1 8 (k + 1):=by
 rcases h with ⟨h1,_⟩ | ⟨_,h,_⟩
 · exact .inr ⟨h1.symm,rfl,he ▸ List.mem_of_getElem? hz⟩
 · cases h
end Go.Proofs.YthabffjgdhfbmaaGreatDoor
namespace Go.Proofs.YthabffjgdhfbmaaGreatDoor
open Go.ChangeShapes Go.WideShapes Go.ChangeAt Go.RowKit
open Go.Deep (open_slice)
structure DvX (d:Dv):Prop where
 fn:∀ f ∈ d.fs,FdN f
 sz:I64 d.sz
 rb:AllBytes d.rq
section
variable {H:Type} {enc:TypeId × Value→H} {w:World}
theorem op_dv {n:Nat} {cs:List Value} {y:DataW H × List MemPlace} (h:DataW.trod enc Tryz.prog w 0 (fun _=>true) true n 25 cs=some y) :
 ∃ p:Dn10,cs=(dvB p.1 p.2.1 p.2.2).toList∧FldsV w p.2.1 p.1.fs∧BytesW w p.2.2 p.1.rq∧DvX p.1:=by
 obtain ⟨xs,m,_,_,hl,hlen,hf⟩:=DataW.trod_struct Tryz.underlying25 h;rw [clDv] at hl
 match cs,hl with
 | [c0,c1,c2,c3,c4,c5,c6,c7,c8,c9,c10,c11],_=>
  match xs,hlen with
  | [y0,y1,y2,y3,y4,y5,y6,y7,y8,y9,y10,y11],_=>
   have h0:DataW.trod enc Tryz.prog w 0 (fun _=>true) true m 9 [c0]=some y0:=by simpa [clStr] using hf 0 _ rfl
   have h1:DataW.trod enc Tryz.prog w 0 (fun _=>true) true m 3 [c1]=some y1:=by simpa [clInt] using hf 1 _ rfl
   have h2:DataW.trod enc Tryz.prog w 0 (fun _=>true) true m 3 [c2]=some y2:=by simpa [clInt] using hf 2 _ rfl
   have h3:DataW.trod enc Tryz.prog w 0 (fun _=>true) true m 3 [c3]=some y3:=by simpa [clInt] using hf 3 _ rfl
   have h4:DataW.trod enc Tryz.prog w 0 (fun _=>true) true m 3 [c4]=some y4:=by simpa [clInt] using hf 4 _ rfl
   have h5:DataW.trod enc Tryz.prog w 0 (fun _=>true) true m 9 [c5]=some y5:=by simpa [clStr] using hf 5 _ rfl
   have h6:DataW.trod enc Tryz.prog w 0 (fun _=>true) true m 22 [c6]=some y6:=by simpa [clFs] using hf 6 _ rfl
   have h7:DataW.trod enc Tryz.prog w 0 (fun _=>true) true m 23 [c7]=some y7:=by simpa [clBs] using hf 7 _ rfl
   have h8:DataW.trod enc Tryz.prog w 0 (fun _=>true) true m 3 [c8]=some y8:=by simpa [clInt] using hf 8 _ rfl
   have h9:DataW.trod enc Tryz.prog w 0 (fun _=>true) true m 3 [c9]=some y9:=by simpa [clInt] using hf 9 _ rfl
   have h10:DataW.trod enc Tryz.prog w 0 (fun _=>true) true m 3 [c10]=some y10:=by simpa [clInt] using hf 10 _ rfl
   have h11:DataW.trod enc Tryz.prog w 0 (fun _=>true) true m 3 [c11]=some y11:=by simpa [clInt] using hf 11 _ rfl
   obtain ⟨z0,rfl⟩:=op_str h0;obtain ⟨z1,rfl,b1⟩:=op_int h1;obtain ⟨z2,rfl,b2⟩:=op_int h2;obtain ⟨z3,rfl,b3⟩:=op_int h3;obtain ⟨z4,rfl,b4⟩:=op_int h4;obtain ⟨z5,rfl⟩:=op_str h5;obtain ⟨fs,hfl,hfn⟩:=op_fds h6;obtain ⟨bs,hbw,hba⟩:=op_bytes h7;obtain ⟨z8,rfl,b8⟩:=op_int h8;obtain ⟨z9,rfl,b9⟩:=op_int h9;obtain ⟨z10,rfl,b10⟩:=op_int h10;obtain ⟨z11,rfl,b11⟩:=op_int h11;exact ⟨(⟨z0,z1,z2,z3,z4,z5,fs,bs,z8,z9,z10,z11⟩,c6,c7),rfl,hfl,hbw,hfn,b4,hba⟩
def dn0:Dn10:=(⟨[],0,0,0,0,[],[],[],0,0,0,0⟩,.slice none 0 0,.slice none 0 0)
theorem open_devs {b0:Nat} {v:Value} {dd:DataW H} {ps:List MemPlace} (hv:Value.okWide Tryz.prog w .any b0 46 v) (h:DataW.Trod enc Tryz.prog w 0 (fun _=>true) true 46 v dd ps) :
 ∃ qs:List Dn10,DvsR w v qs∧(∀ p ∈ qs,DvX p.1)∧(qs.length:Int)≤9223372036854775807:=by
 obtain ⟨a,len,cap,rfl⟩:=okWide_slice Tryz.underlying46 hv;obtain ⟨fuel,hf⟩:=h;rcases open_slice Tryz.underlying46 hf with ⟨hc,_⟩ | ⟨x,l,c,m,n',D,Pl,hc,_,hl,hcm,hm,_,hx⟩
 · simp [Value.cells] at hc;obtain ⟨rfl,rfl,rfl⟩:=hc;exact ⟨[],⟨.inl ⟨_,_,rfl,rfl⟩,(fun p hp=>by cases hp)⟩,(fun p hp=>by cases hp),by simp⟩
 · simp [Value.cells] at hc;obtain ⟨rfl,rfl,rfl⟩:=hc;simp only [if_true] at hm;subst hm
   by_cases h0:len=0
   · subst h0;exact ⟨[],⟨.inl ⟨_,_,rfl,rfl⟩,(fun p hp=>by cases hp)⟩,(fun p hp=>by cases hp),by simp⟩
   · rw [clDv] at hx;have each:∀ i,i < len→∃ p:Dn10,(∀ k,k < 12→w.cell? ((x.add (i * 12)).add k)=(dvB p.1 p.2.1 p.2.2).toList[k]?)∧FldsV w p.2.1 p.1.fs∧BytesW w p.2.2 p.1.rq∧DvX p.1:=by
      intro i hi;obtain ⟨cs',h1,h2⟩:=hx i (by omega);obtain ⟨_,hcl,hcell⟩:=World.cells?_some h1;obtain ⟨p,rfl,k1,k2,k3⟩:=op_dv h2;exact ⟨p,fun k hk=>hcell k hk,k1,k2,k3⟩
     obtain ⟨F,hF⟩:=choose_ltS dn0 each;have k0:w.cell? ((x.add (0 * 12)).add 0)=some _:=((hF 0 (by omega)).1 0 (by decide)).trans rfl;obtain ⟨hs,hb⟩:=cell_plainS k0;obtain ⟨g,o,sp⟩:=x;have hs':sp=none:=by simpa [Addr.add] using hs
     subst hs';rw [addr_add,addr_add] at hb;have hlen:((List.range len).map F).length=len:=by simp
     refine ⟨(List.range len).map F,⟨.inr ⟨g,o,m,by rw [hlen],by rw [hlen]; exact hl,fun j hj k hk=>?_,hb⟩,fun p hp=>?_⟩,fun p hp=>?_,by rw [hlen]; unfold maxLen at hcm; omega⟩
     · rw [hlen] at hj;simp only [List.getElem_map,List.getElem_range];have q:=(hF j hj).1 k hk;rw [addr_add,addr_add] at q;exact q
     · obtain ⟨j,hj,rfl⟩:=List.mem_map.1 hp;exact ⟨(hF j (List.mem_range.1 hj)).2.1,(hF j (List.mem_range.1 hj)).2.2.1⟩
     · obtain ⟨j,hj,rfl⟩:=List.mem_map.1 hp;exact (hF j (List.mem_range.1 hj)).2.2.2
end
end Go.Proofs.YthabffjgdhfbmaaGreatDoor
namespace Go.Proofs.YthabffjgdhfbmaaGreatDoor
open Go.RowKit
theorem parse_text {d:Dv} (h:DvOk d):parseM (textD d)=(d,0,0):=by
 have hl:(textD d).length≤4000:=by have:=h.len; omega
 obtain ⟨h1,h2,h3⟩:=lex_text (linesW d) h.lines hl;unfold parseM;rw [show lexErr (textD d)=0 from h3,if_pos rfl,show lexRows (textD d)=nrL 1 (linesW d) from h1];exact read_lines h (wds_nr _ 1)
def awd:Dv:=⟨[97],2,27,32,3,[120,111,114],[],[5],10,3,0,30⟩
theorem awd_ck:ckE awd=0:=of_decide_eq_true (by kernel_rfl)
theorem awd_i:DvI awd:=⟨by decide,fun f hf=>(by cases hf),⟨by decide,by decide⟩,by decide⟩
theorem awd_b:AllBytes awd.rq:=fun c hc=>by
 have:c=5:=by simpa [awd] using hc
 omega
theorem awd_len:20 < (txt (textD awd)).size:=by
 rw [txt_size];exact of_decide_eq_true (by kernel_rfl)
def AwT (S:ByteArray) (p:Addr):World→Prop:=fun x=>Calls Tryz.prog 10 #[.agg #[.string ⟨#[97]⟩,.int .i64 2,.int .i64 27,.int .i64 32,.int .i64 3,.string ⟨#[120,111,114]⟩,.slice none 0 0,.slice (some p) 1 1,.int .i64 10,.int .i64 3,.int .i64 0,.int .i64 30]] x fun e y=>e=.returned (.tuple #[.string S,.int .i64 0])∧Below x.heap.size x y
theorem shAwT {x:World} {g:Nat} (h:x.cell? ⟨g,0,none⟩=some (.int .u8 5)) (hg:g < x.heap.size):AwT (txt (textD awd)) ⟨g,0,none⟩ x:=by
 have k:=shtext_any awd (.slice none 0 0) (.slice (some ⟨g,0,none⟩) 1 1) x awd_i awd_b (.inr ⟨g,0,1,rfl,fun j hj=>by
  have e:j=0:=by simp [awd] at hj; exact hj
  subst e;exact h,hg⟩) (.inl ⟨none,0,rfl,rfl⟩)
 have e:shT awd=textD awd:=by unfold shT; rw [if_pos awd_ck]
 rw [e,awd_ck] at k;exact k
def AwR (S:ByteArray):Prop:=∀ x,Tab7 x→Calls Tryz.prog 13 #[.string S] x fun e y=>(∃ fv qv,e=.returned (.tuple #[.agg #[.string ⟨#[97]⟩,.int .i64 2,.int .i64 27,.int .i64 32,.int .i64 3,.string ⟨#[120,111,114]⟩,fv,qv,.int .i64 10,.int .i64 3,.int .i64 0,.int .i64 30],.int .i64 0,.int .i64 0])∧(∃ p n c,fv=.slice p n c)∧∃ p n c,qv=.slice p n c)∧Below x.heap.size x y
theorem awR:AwR (txt (textD awd)):=fun x T=>by
 refine (shread_any (txt (textD awd)) x T).mono ?_;have e:chkM (parseM (txt (textD awd)).data.toList)=(awd,0,0):=by
  rw [show (txt (textD awd)).data.toList=textD awd from rfl,parse_text (awd_i.snd awd_ck awd_b).ok,chk_sound awd_ck]
 rw [e];rintro e y ⟨fv,qv,rfl,hf,hq,hb,_,_⟩;exact ⟨⟨fv,qv,rfl,hf.form,hq.form'⟩,hb⟩
theorem awake10 (w:World) (T7:Tab7 w):Calls Tryz.prog 8 #[] w fun e y=>e=.returned (.bool true)∧Below w.heap.size w y:=by
 have B0:Hid (Below w.heap.size w ((w.alloc (.cells #[.int .u8 5] 5)).alloc (.cells #[.string ⟨#[97]⟩,.int .i64 2,.int .i64 27,.int .i64 32,.int .i64 3,.string ⟨#[120,111,114]⟩,.slice none 0 0,.slice (some ⟨w.heap.size,0,none⟩) 1 1,.int .i64 10,.int .i64 3,.int .i64 0,.int .i64 30] 33))):=((Below.refl _ _).alloc (Nat.le_refl _) _).alloc (by rw [World.size_alloc]; omega) _;have tx:Hid (AwT (txt (textD awd)) ⟨w.heap.size,0,none⟩ ((w.alloc (.cells #[.int .u8 5] 5)).alloc (.cells #[.string ⟨#[97]⟩,.int .i64 2,.int .i64 27,.int .i64 32,.int .i64 3,.string ⟨#[120,111,114]⟩,.slice none 0 0,.slice (some ⟨w.heap.size,0,none⟩) 1 1,.int .i64 10,.int .i64 3,.int .i64 0,.int .i64 30] 33))):=by
  have h1:=cell_1 w (.int .u8 5) 5;have hb:Below (w.alloc (.cells #[.int .u8 5] 5)).heap.size (w.alloc (.cells #[.int .u8 5] 5)) ((w.alloc (.cells #[.int .u8 5] 5)).alloc (.cells #[.string ⟨#[97]⟩,.int .i64 2,.int .i64 27,.int .i64 32,.int .i64 3,.string ⟨#[120,111,114]⟩,.slice none 0 0,.slice (some ⟨w.heap.size,0,none⟩) 1 1,.int .i64 10,.int .i64 3,.int .i64 0,.int .i64 30] 33)):=(Below.refl _ _).alloc (Nat.le_refl _) _;obtain ⟨k1,k2⟩:=cell_keep ⟨h1,by rw [World.size_alloc]; exact Nat.lt_succ_self _⟩ hb;exact shAwT k1 k2
 have rd:Hid (AwR (txt (textD awd))):=awR;have hS:=awd_len;replace T7:Hid (Tab7 w):=T7;generalize txt (textD awd)=S at *;have hS':(20:Int) < (S.size:Int):=by omega
 clear hS
 go_enter Tryz.func8,Tryz.ntmps8
 go_wp2_with fail
 generalize (w.alloc (.cells #[.int .u8 5] 5)).alloc (.cells #[.string ⟨#[97]⟩,.int .i64 2,.int .i64 27,.int .i64 32,.int .i64 3,.string ⟨#[120,111,114]⟩,.slice none 0 0,.slice (some ⟨w.heap.size,0,none⟩) 1 1,.int .i64 10,.int .i64 3,.int .i64 0,.int .i64 30] 33)=w2 at *;refine tx.out.mono ?_;rintro e y ⟨rfl,hb⟩;have B1:Hid (Below w.heap.size w y):=B0.out.trans (hb.mono B0.out.size);clear hb tx B0
 go_wp2_with fail
 refine (rd.out y (T7.out.below B1.out)).mono ?_;rintro e z ⟨⟨fv,qv,rfl,⟨pf,nf,cf,rfl⟩,⟨pq,nq,cq,rfl⟩⟩,hb⟩;have B2:Hid (Below w.heap.size w z):=B1.out.trans (hb.mono B1.out.size);have B3:Hid (∀ o,Below w.heap.size w (z.alloc o)):=fun o=>B2.out.alloc B2.out.size o
 clear hb rd B1 T7;go_wp2;go_ret;exact ⟨rfl,B3.out _⟩
def ShAwC (w:World):Prop:=∀ x,Below w.heap.size w x→Calls Tryz.prog 8 #[] x fun e y=>e=.returned (.bool true)∧Below x.heap.size x y
theorem shAwC {w:World} (T7:Tab7 w):ShAwC w:=fun x hx=>awake10 x (T7.below hx)
theorem conv_one (w:World) (m:Nat) :
 (convert 23 9 (.slice (some ⟨w.heap.size,0,none⟩) 1 1)).run Tryz.prog (w.alloc (.cells #[.int .u8 (48 + (m:Int) % 10)] 5))=.ok (.string ⟨#[dig m]⟩) (w.alloc (.cells #[.int .u8 (48 + (m:Int) % 10)] 5)):=by
 have:=run_convert_bytes_back (P:=Tryz.prog) (w.alloc (.cells #[.int .u8 (48 + (m:Int) % 10)] 5)) 23 9 5 ⟨w.heap.size,0,none⟩ 1 [dig m] Tryz.underlying23 Tryz.underlying5 Tryz.underlying9 (fun i hi=>by
  rw [taddr_add];have:i=0:=by simpa using hi
  subst this;simp [dig_toNat])
 exact this
theorem conv_two (w:World) (m:Nat) :
 (convert 23 9 (.slice (some ⟨w.heap.size,0,none⟩) 1 1)).run Tryz.prog (w.alloc (.cells #[.int .u8 (48 + (m:Int) / 10 % 10)] 5))=.ok (.string ⟨#[dig (m / 10)]⟩) (w.alloc (.cells #[.int .u8 (48 + (m:Int) / 10 % 10)] 5)):=by
 have:=conv_one w (m / 10);rw [Int.natCast_ediv] at this;exact this
theorem cat_one (c:UInt8) (l:List UInt8):(ByteArray.mk #[c] ++ ByteArray.mk l.toArray)=ByteArray.mk (c :: l).toArray:=by
 apply ByteArray.ext;apply Array.toList_inj.1;rw [ByteArray.data_append];simp
theorem brtext_any (a:Int) (w:World) (ha:-9223372036854775808≤a∧a≤9223372036854775807) :
 Calls Tryz.prog 31 #[.int .i64 a] w fun e w'=>e=.returned (.string ⟨(textL a).toArray⟩)∧Below w.heap.size w w':=by
 have hn:(a.natAbs:Int)≤9223372036854775808:=by omega
 have hcv:=fun w m=>conv_one w m
 have hct:=fun c l=>cat_one c l
 go_enter Tryz.func31,Tryz.ntmps31
 go_wp2_with fail
 refine (rsize_any a _ ha).mono ?_;rintro e w' ⟨rfl,rfl⟩;generalize hq:a.natAbs=q at *;have hq':Hid _:=hq;clear hq;go_wp2
 go_loopw [3,4] (fun n u wx=>∃ k m:Nat,∃ L:List UInt8,n=.int .u64 (m:Int)∧u=.string ⟨L.toArray⟩∧m≤q∧k≤18∧Hid (m=q / 10 ^ k)∧Hid (L=low (k + 1) q)∧Hid (k=0 ∨ q / 10 ^ k ≠ 0)∧Below w'.heap.size w' wx) (fun n _ _=>(intOf n).toNat)
 case atStart=>exact ⟨0,q,[dig q],rfl,rfl,by omega,by omega,by show _=_; simp,by show _=_; simp [low],.inl rfl,(Below.refl _ _).alloc (Nat.le_refl _) _⟩
 case round=>
  obtain ⟨k,m,L,rfl,rfl,hmq,hk,hm,hL,h3,hg⟩:=hrel;have hdm:Hid (m / 10=q / 10 ^ (k + 1)):=by show _=_; rw [hm.out,Nat.div_div_eq_div_mul,Nat.pow_succ]
  have hlen:L.length≤20:=by rw [hL.out,low_length]; omega
  by_cases h9:(9:Int) < (m:Int)
  · have hcv2:=fun w=>conv_two w m
    go_wp2
    go_roundw
    case rel=>exact ⟨k + 1,m / 10,dig (m / 10) :: L,by go_num,rfl,by omega,by
     rcases Nat.lt_or_ge k 18 with h | h
     · omega
     · exfalso
       have:k=18:=by omega
       subst this;have:=pow19 hn;have h2:=hdm.out
       omega,hdm,by show _=_; rw [hL.out,hdm.out]; rfl,.inr (by rw [← hdm.out]; omega),hg.alloc hg.size _⟩
    case measure=>simp [intOf]; omega
  · have hend:=text_end hq'.out (show q / 10 ^ (k + 1)=0 by rw [← hdm.out]; omega) h3.out hk;rw [← hL.out] at hend;have HE:Hid _:=hend;clear hend hcv
    by_cases hs:a < 0
    · go_wp2;go_ret;exact ⟨ret_s (HE.out.1 hs),hg⟩
    · have hs:0≤a:=by omega
      go_wp2;go_ret;exact ⟨ret_s (HE.out.2 hs),hg⟩
theorem hexS_cutF:∀ n:Fin 16,(hexS.extract n.1 (n.1 + 1)).data.toList=[hexD n.1]:=by decide +kernel
theorem hexS_cut {n:Nat} (h:n < 16):hexS.extract n (n + 1)=txt [hexD n]:=by
 apply ByteArray.ext;apply Array.toList_inj.1;exact hexS_cutF ⟨n,h⟩
theorem rhx10_any (bs:List Nat) (v:Value) (w:World) (hv:BytesAt w v bs) (ha:AllBytes bs) (hn:(bs.length:Int)≤100) :
 Calls Tryz.prog 29 #[v] w fun e y=>e=.returned (.string (txt (hexW bs)))∧Below w.heap.size w y:=by
 obtain ⟨p,cap,rfl⟩:∃ p cap,v=.slice p bs.length cap:=by
  rcases hv with ⟨h1,h2⟩ | ⟨g,o,cap,h,_⟩
  · exact ⟨none,0,by rw [h1,h2]; rfl⟩
  · exact ⟨_,_,h⟩
 obtain ⟨len,hlen⟩:∃ len,bs.length=len:=⟨_,rfl⟩;rw [hlen] at hv hn ⊢;replace hlen:Hid (bs.length=len):=hlen;replace hv:Hid (BytesAt w (.slice p len cap) bs):=hv;replace ha:Hid (AllBytes bs):=ha;have b0:Hid (Below w.heap.size w w):=Below.refl _ _
 go_enter Tryz.func29,Tryz.ntmps29
 go_wp2
 go_loopw [4,5] (fun vs vi wr=>∃ k:Nat,(k:Int)≤(len:Int)∧vi=.int .i64 (k:Int)∧vs=.string (txt (hexW (bs.take k)))∧Hid (Below w.heap.size w wr)) (fun _ vi _=>len - (intOf vi).toNat)
 case atStart=>exact ⟨0,by omega,rfl,rfl,b0⟩
 case round=>
  obtain ⟨k,hk,rfl,rfl,br⟩:=hrel;clear b0
  by_cases hlt:(k:Int) < (len:Int)
  · have hkl:k < bs.length:=by have:=hlen.out; omega
    rcases hv.out with ⟨_,e⟩ | ⟨g,o,cap',e,hin,hg⟩
    · rw [e] at hkl; cases hkl
    · injection e with e1 e2 e3
      subst e1;have c0:=hin.at hg br.out k hkl;have hc:=ha.out bs[k] (List.getElem_mem hkl);obtain ⟨c,hcc⟩:∃ c,bs[k]=c:=⟨_,rfl⟩;rw [hcc] at c0 hc;clear hin e2 e3;have nx:Hid (hexW (bs.take (k + 1))=(hexW (bs.take k) ++ [hexD (c / 16)]) ++ [hexD (c % 16)]):=hexW_next hkl hcc;have hl:((txt (hexW (bs.take k))).size:Int)≤200:=by rw [txt_size,hexW_len,List.length_take]; omega
      have hcI:(c:Int) < 256:=by omega
      clear hcc hkl;generalize hexW (bs.take k)=S at *
      go_upto_region 6 with fail
      go_quiet (fail)
      have e1:=hexS_cut (n:=c / 16) (by omega);have e2:=hexS_cut (n:=c % 16) (by omega);have nx2:Hid (.string (txt S ++ hexS.extract (c / 16) (c / 16 + 1) ++ hexS.extract (c % 16) (c % 16 + 1))=Value.string (txt (hexW (bs.take (k + 1))))):=by
       unfold Hid;rw [e1,e2,nx.out]
       congr 1
      clear e1 e2 nx;generalize txt S ++ hexS.extract (c / 16) (c / 16 + 1) ++ hexS.extract (c % 16) (c % 16 + 1)=R at *;have BN:Hid (∀ n,Below w.heap.size w (wr.drewN n)):=fun n=>⟨br.out.os,br.out.tape,br.out.output,br.out.size,br.out.block⟩
      go_wp2;exact ⟨⟨k + 1,by omega,by simp,nx2.out,BN.out _⟩,by simp [intOf]; omega⟩
  · obtain rfl:k=len:=by omega
    have st:Hid (hexW (bs.take k)=hexW bs):=by
     rw [List.take_of_length_le (by have:=hlen.out; omega)]; rfl
    rw [st.out];go_wp2;go_ret;exact ⟨rfl,br.out⟩
theorem rnum10_any (a:Int) (w:World) (ha:-9223372036854775808≤a∧a≤9223372036854775807) :
 Calls Tryz.prog 30 #[.int .i64 a] w fun e y=>e=.returned (.string (txt (textL a)))∧Below w.heap.size w y:=by
 have bt:Hid (Calls Tryz.prog 31 #[.int .i64 a] w fun e y=>e=.returned (.string ⟨(textL a).toArray⟩)∧Below w.heap.size w y):=brtext_any a w ha;unfold txt;generalize (textL a).toArray=S at *
 go_enter Tryz.func30,Tryz.ntmps30
 go_wp2_with fail
 refine bt.out.mono ?_;rintro e y ⟨rfl,hb⟩;replace hb:Hid (Below w.heap.size w y):=hb;clear bt;go_wp2;go_ret;exact ⟨rfl,hb.out⟩
end Go.Proofs.YthabffjgdhfbmaaGreatDoor
