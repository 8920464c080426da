/-
  Texts that belong together, one behind the other: DsLineFie, DsLineA, ShOpn, LexLaid. Conditions: as each says.
-/
import Derived.KernelRfl
import Derived.Lib.QuietBelowIn
import Derived.MakeChecks
import Derived.RangeFuncCalls
import Derived.Sort.BigQuietIn
import Derived.Stop.LaidErr
import Derived.Tactics2
import Derived.Test.YthabffjgdhfbmaaGreatDoorProg
import Derived.Test.YthabffjgdhfbmaaGreatDoorRows
import Derived.Test.YthabffjgdhfbmaaGreatDoorJl1
import Derived.Test.YthabffjgdhfbmaaGreatDoorJl2
import Derived.Test.YthabffjgdhfbmaaGreatDoorJl3
import Derived.Test.YthabffjgdhfbmaaGreatDoorJl4
import Derived.Test.YthabffjgdhfbmaaGreatDoorJl5
import Derived.Test.YthabffjgdhfbmaaGreatDoorJl6
import Derived.Test.YthabffjgdhfbmaaGreatDoorJl7
import Derived.Test.YthabffjgdhfbmaaGreatDoorJl8
import Derived.Test.YthabffjgdhfbmaaGreatDoorJl9
import Derived.Test.YthabffjgdhfbmaaGreatDoorJl10
import Derived.Test.YthabffjgdhfbmaaGreatDoorJl24
import Derived.Test.YthabffjgdhfbmaaGreatDoorJl25
import Derived.Test.YthabffjgdhfbmaaGreatDoorJl26
import Derived.Test.YthabffjgdhfbmaaGreatDoorJl27
set_option maxRecDepth 100000
set_option maxHeartbeats 32000000
set_option linter.unusedVariables false
namespace Go.Proofs.YthabffjgdhfbmaaGreatDoor
open Go.RowKit
theorem line_fie (a:List Wd) (d:Dv) (pf:Option Addr) (nf cf:Nat) (pq:Option Addr) (mq cq:Nat) (g o cap:Nat) (w:World) (hi:StrsIn w g o (kFie :: a)) (hgw:g < w.heap.size) (hl:(a.length:Int)≤5000) (hz:∀ z ∈ a,(z.length:Int)≤5000) (ps:Option Addr) (cs:Nat) (seen:List Wd) (hs:StrsAt w (.slice ps seen.length cs) seen) (hsl:(seen.length:Int)≤5000) (hfl:FldsAt w (.slice pf nf cf) d.fs) (hnf:nf=d.fs.length) (hf8:d.fs.length≤8) (hrq:BytesAt w (.slice pq mq cq) d.rq) :
 Calls Tryz.prog 33 #[dvV d (.slice pf nf cf) (.slice pq mq cq),.slice (some ⟨g,o,none⟩) (a.length + 1) cap,.slice ps seen.length cs] w (LineQ w d (.slice pf nf cf) (.slice pq mq cq) seen (kFie :: a)):=by
 obtain ⟨r0,hri,hr0,hr1,hr2⟩:=info_parts info_rfd;have nf8:(nf:Int)≤8:=by omega
 replace hnf:Hid (nf=d.fs.length):=hnf;replace hf8:Hid (d.fs.length≤8):=hf8;have m0:=lineM_first w d (.slice pf nf cf) (.slice pq mq cq);have n0:((a.length:Int) + 1 == 0)=false:=beq_eq_false_iff_ne.2 (by omega);have FQ0:Hid (FldsAt w (.slice pf nf cf) d.fs∧BytesAt w (.slice pq mq cq) d.rq):=⟨hfl,hrq⟩;have wi:Hid (StrsIn w g o (kFie :: a)):=hi;replace hs:Hid (StrsAt w (.slice ps seen.length cs) seen):=hs;replace hz:Hid (∀ z ∈ a,(z.length:Int)≤5000):=hz;obtain ⟨sl,hsl2⟩:∃ sl,seen.length=sl:=⟨_,rfl⟩;rw [hsl2] at hs hsl ⊢;replace hsl2:Hid (seen.length=sl):=hsl2;clear hfl hrq hi
 go_enter Tryz.func33,Tryz.ntmps33
 go_upto_region 5 with fail
 change Code.wp Tryz.prog _ _ _ (LineW w d (.slice pf nf cf) (.slice pq mq cq));have LM0:Hid (LineM w (LineW w d (.slice pf nf cf) (.slice pq mq cq)) d (.slice pf nf cf) (.slice pq mq cq)):=m0.1;have lc0:Hid (∀ (i:Nat) (h:i < 11),(LineW w d (.slice pf nf cf) (.slice pq mq cq)).cell? ⟨w.heap.size + 1 + 1,i,none⟩=some (.string (txt (allK[i]'h)))):=fun i h=>(rd_cell m0.2 i).1.trans (allC_at i h)
 have hc0:(LineW w d (.slice pf nf cf) (.slice pq mq cq)).cell? ⟨g,o,none⟩=some (.string ⟨#[102,105,101,108,100]⟩):=kp m0.1.b (wi.out 0 (by simp));clear m0;generalize LineW w d (.slice pf nf cf) (.slice pq mq cq)=x0 at *;go_wp2
 go_loopw [8,10] (fun vk vi wr=>∃ n k:Nat,(k:Int)≤11∧wr=x0.drewN n∧vi=.int .i64 (k:Int)∧vk=.bool (decide (kFie ∈ allK.take k))) (fun vk vi wr=>(11 - intOf vi).toNat)
 case atStart=>exact ⟨0,0,by omega,rfl,rfl,by simp⟩
 case round=>
  obtain ⟨n,k,hk11,rfl,rfl,rfl⟩:=hrel
  by_cases hlt:k < 11
  · have hki:(k:Int) < 11:=by omega
    have st:=allK_step kFie k hlt;have l1:=lc0.out k hlt;have wk:IntKind.i64.wrap ((k:Int) + 1)=(k:Int) + 1:=by simp only [IntKind.wrap_i64]; omega
    have cmp:(txt (allK[k]'hlt) == ⟨#[102,105,101,108,100]⟩)=decide (allK[k]'hlt=kFie):=txt_beq _ kFie;generalize allK[k]'hlt=ak at *;clear lc0 LM0
    cases hd:decide (kFie ∈ allK.take k)
    · rw [hd,Bool.false_or] at st;have c2:((txt ak).toList == [102,105,101,108,100])=decide (ak=kFie):=by
       rw [Bool.eq_iff_iff,decide_eq_true_iff,beq_iff_eq,ByteArray.toList_eq];exact ⟨fun h=>h,fun h=>by rw [h]; rfl⟩
      generalize decide (ak=kFie)=R at *
      go_wp2_with fail
      go_quiet (fail)
      go_wp2;exact ⟨⟨n + nq,k + 1,by omega,rfl,by simp,by rw [st]⟩,by simp [intOf]; omega⟩
    · rw [hd,Bool.true_or] at st
      go_wp2_with fail
      go_quiet (fail)
      go_wp2;exact ⟨⟨n + nq,k + 1,by omega,rfl,by simp,by rw [st]⟩,by simp [intOf]; omega⟩
  · obtain rfl:k=11:=by omega
    rw [allK_mem,show knownB kFie=true from rfl];clear lc0;go_wp2
    go_loopw [11] (fun vi wr=>∃ n k:Nat,(k:Int)≤(sl:Int)∧wr=x0.drewN n∧vi=.int .i64 (k:Int)) (fun vi wr=>((sl:Int) - intOf vi).toNat)
    case atStart=>exact ⟨n,0,by omega,rfl,rfl⟩
    case round=>
     obtain ⟨n,k,hk,rfl,rfl⟩:=hrel
     by_cases hlt:k < sl
     · have hki:(k:Int) < (sl:Int):=by omega
       have hks:k < seen.length:=by have:=hsl2.out; omega
       rcases hs.out with ⟨_,hnil⟩ | ⟨gs,os,cs',e1,hin,hgs⟩
       · rw [hnil] at hks; cases hks
       injection e1 with e1 e2 e3
       subst e1;subst e3;clear e2;have l1:=kp LM0.out.b (hin k hks);have wk:IntKind.i64.wrap ((k:Int) + 1)=(k:Int) + 1:=by simp only [IntKind.wrap_i64]; omega
       obtain ⟨ak,hak⟩:∃ ak,seen[k]=ak:=⟨_,rfl⟩;rw [hak] at l1;have cmp:(txt ak == ⟨#[102,105,101,108,100]⟩)=decide (ak=kFie):=txt_beq _ kFie;have c2:((txt ak).toList == [102,105,101,108,100])=decide (ak=kFie):=by
        rw [Bool.eq_iff_iff,decide_eq_true_iff,beq_iff_eq,ByteArray.toList_eq];exact ⟨fun h=>h,fun h=>by rw [h]; rfl⟩
       clear hin hak LM0
       cases hd:decide (ak=kFie)
       · rw [hd] at cmp c2
         go_wp2_with fail
         go_quiet (fail)
         go_wp2;exact ⟨⟨n + nq,k + 1,by omega,rfl,by simp⟩,by simp [intOf]; omega⟩
       · rw [hd] at cmp c2
         go_wp2_with fail
         go_quiet (fail)
         go_wp2;exact ⟨⟨n + nq,k + 1,by omega,rfl,by simp⟩,by simp [intOf]; omega⟩
     · obtain rfl:k=sl:=by omega
       have LM:Hid (LineM w (x0.drewN n) d (.slice pf nf cf) (.slice pq mq cq)):=LM0.out.below (below_drewN (Below.refl _ _) _);have hcy:(x0.drewN n).cell? ⟨g,o,none⟩=some (.string ⟨#[102,105,101,108,100]⟩):=hc0;generalize x0.drewN n=y at *;clear LM0 hc0 hs hsl2 n0
       by_cases h8:nf=8
       · have e7:Hid (stepM d seen (kFie :: a)=.error 7):=by
          unfold Hid stepM;simp only [show knownB kFie=true from rfl];rw [if_neg (by decide),if_neg (fun c=>c.1 rfl),if_pos ⟨trivial,by have:=hnf.out; omega⟩]
         have n8:((nf:Int) == 8)=true:=beq_iff_eq.2 (by omega);obtain ⟨dc6,df6⟩:=LM.out.cells.1 6 _ rfl
         go_upto_region 18 with fail
         refine line_end LM.out ?_ ?_ ?_ ?_ ?_
         · kernel_rfl
         · kernel_rfl
         · exact of_decide_eq_true (by kernel_rfl)
         · decide
         repeat go_step
         refine bodyPost_ret (res_dev2 (e1:=.int .i64 7) Tryz.results33 (by kernel_rfl) (by kernel_rfl) LM.out.res) rfl ?_;exact LM.out.quit e7.out _ rfl
       have n8:((nf:Int) == 8)=false:=beq_eq_false_iff_ne.2 (by omega);have hd8:¬ d.fs.length=8:=by have:=hnf.out; omega
       replace hd8:Hid (¬ d.fs.length=8):=hd8
       by_cases h1:a.length=7
       · obtain ⟨n,p,k,wd,s,f,u,rfl⟩:=len_seven h1;have E0:Hid (Eight y g o n p k wd s f u):=Eight.of (fun j hj=>kp LM.out.b (wi.out j hj));have hP:Hid (RNu p 0 31 (numB p 0 31) (numV p 0 31)):=rNu p (hz.out p (by simp)) 0 31;have hW:Hid (RNu wd 1 8 (numB wd 1 8) (numV wd 1 8)):=rNu wd (hz.out wd (by simp)) 1 8;have hS:Hid (RFr s (frB s)):=rFr s (hz.out s (by simp));have hF:Hid (RFr f (frB f)):=rFr f (hz.out f (by simp));have hN:Hid (RNa n (nameB n)):=rNa n;have hK:Hid (RNa k (nameB k)):=rNa k;have hU:Hid (RNa u (nameB u)):=rNa u;have ST:Hid (StFie d seen n p k wd s f u):=step_fie hd8.out;have vP:Hid (NumE p 0 31):=numE p 0 31;have vW:Hid (NumE wd 1 8):=numE wd 1 8;obtain ⟨P,eP⟩:∃ P,numV p 0 31=P:=⟨_,rfl⟩;obtain ⟨V,eV⟩:∃ V,numV wd 1 8=V:=⟨_,rfl⟩;rw [eP] at hP;rw [eV] at hW;replace eP:Hid (numV p 0 31=P):=eP;replace eV:Hid (numV wd 1 8=V):=eV;clear hz hsl hl h1 wi;clear h8;obtain ⟨c0,c1,c2,c3,c4,c5,c6,c7⟩:=E0.out;obtain ⟨dc6,df6⟩:=LM.out.cells.1 6 _ rfl
         go_wp2_with fail
         refine (hP.out _).mono ?_;rintro e yA ⟨rfl,rfl⟩;clear hP
         go_wp2_with fail
         refine (hW.out _).mono ?_;rintro e yA ⟨rfl,rfl⟩;clear hW
         go_wp2_with fail
         refine (hS.out _).mono ?_;rintro e y5 ⟨N1,D1,rfl,r1,hb5⟩;replace r1:Hid (RFrT s N1 D1):=r1;have LM5:Hid (LineM w (y5.alloc (.cells #[.int .i64 N1,.int .i64 D1] 62)) d (.slice pf nf cf) (.slice pq mq cq)):=LM.out.below (hb5.alloc hb5.size _);have b5l:w.heap.size + 1 < y5.heap.size:=Nat.lt_of_lt_of_le (Array.getElem?_eq_some_iff.1 LM.out.rc).1 hb5.size;have E5:Hid (Eight (y5.alloc (.cells #[.int .i64 N1,.int .i64 D1] 62)) g o n p k wd s f u):=E0.out.below (hb5.alloc hb5.size _);clear c0 c1 c2 c3 c4 c5 c6 c7 hb5 LM E0 hS hcy;clear dc6;have H5:Hid (Has (y5.alloc (.cells #[.int .i64 N1,.int .i64 D1] 62)) y5.heap.size (.int .i64 N1) (.int .i64 D1)):=has_new _ _ _ _
         go_upto_region 24 with fail
         generalize hX:y5.alloc (.cells #[.int .i64 N1,.int .i64 D1] 62)=y6 at *;clear hX;obtain ⟨c0,c1,c2,c3,c4,c5,c6,c7⟩:=E5.out;generalize y5.heap.size=b5 at *
         go_wp2_with fail
         refine (hF.out _).mono ?_;rintro e y7 ⟨N2,D2,rfl,r2,hb7⟩;replace r2:Hid (RFrT f N2 D2):=r2;have LM8:Hid (LineM w (y7.alloc (.cells #[.int .i64 N2,.int .i64 D2] 62)) d (.slice pf nf cf) (.slice pq mq cq)):=LM5.out.below (hb7.alloc hb7.size _);have H7:Hid (Has (y7.alloc (.cells #[.int .i64 N2,.int .i64 D2] 62)) b5 (.int .i64 N1) (.int .i64 D1)):=(H5.out.below hb7).alloc _;have H8:Hid (Has (y7.alloc (.cells #[.int .i64 N2,.int .i64 D2] 62)) y7.heap.size (.int .i64 N2) (.int .i64 D2)):=has_new _ _ _ _;have b7l:w.heap.size + 1 < y7.heap.size:=Nat.lt_of_lt_of_le (Array.getElem?_eq_some_iff.1 LM5.out.rc).1 hb7.size;have E8:Hid (Eight (y7.alloc (.cells #[.int .i64 N2,.int .i64 D2] 62)) g o n p k wd s f u):=E5.out.below (hb7.alloc hb7.size _);clear c0 c1 c2 c3 c4 c5 c6 c7 hb7 LM5 E5 hF H5
         go_upto_region 25 with fail
         generalize hX:y7.alloc (.cells #[.int .i64 N2,.int .i64 D2] 62)=y8 at *;clear hX;generalize y7.heap.size=b7 at *;obtain ⟨c0,c1,c2,c3,c4,c5,c6,c7⟩:=E8.out;have LM:Hid (LineM w y8 d (.slice pf nf cf) (.slice pq mq cq)):=LM8;clear LM8
         cases hB0:numB p 0 31
         · have st:Hid (stepM d seen [kFie,n,p,k,wd,s,f,u]=.error 6):=ST.out.trans (if_neg (by rw [hB0]; simp))
           go_upto_region 26 with fail
           refine line_end LM.out ?_ ?_ ?_ ?_ ?_
           · kernel_rfl
           · kernel_rfl
           · exact of_decide_eq_true (by kernel_rfl)
           · decide
           repeat go_step
           refine bodyPost_ret (res_dev2 (e1:=.int .i64 6) Tryz.results33 (by kernel_rfl) (by kernel_rfl) LM.out.res) rfl ?_;exact LM.out.quit st.out _ rfl
         · skip
           cases hB1:numB wd 1 8
           · have st:Hid (stepM d seen [kFie,n,p,k,wd,s,f,u]=.error 6):=ST.out.trans (if_neg (by rw [hB1]; simp))
             go_upto_region 26 with fail
             refine line_end LM.out ?_ ?_ ?_ ?_ ?_
             · kernel_rfl
             · kernel_rfl
             · exact of_decide_eq_true (by kernel_rfl)
             · decide
             repeat go_step
             refine bodyPost_ret (res_dev2 (e1:=.int .i64 6) Tryz.results33 (by kernel_rfl) (by kernel_rfl) LM.out.res) rfl ?_;exact LM.out.quit st.out _ rfl
           · skip
             cases hB2:frB s
             · have st:Hid (stepM d seen [kFie,n,p,k,wd,s,f,u]=.error 6):=ST.out.trans (if_neg (by rw [hB2]; simp))
               go_upto_region 26 with fail
               refine line_end LM.out ?_ ?_ ?_ ?_ ?_
               · kernel_rfl
               · kernel_rfl
               · exact of_decide_eq_true (by kernel_rfl)
               · decide
               repeat go_step
               refine bodyPost_ret (res_dev2 (e1:=.int .i64 6) Tryz.results33 (by kernel_rfl) (by kernel_rfl) LM.out.res) rfl ?_;exact LM.out.quit st.out _ rfl
             · skip
               cases hB3:frB f
               · have st:Hid (stepM d seen [kFie,n,p,k,wd,s,f,u]=.error 6):=ST.out.trans (if_neg (by rw [hB3]; simp))
                 go_upto_region 26 with fail
                 refine line_end LM.out ?_ ?_ ?_ ?_ ?_
                 · kernel_rfl
                 · kernel_rfl
                 · exact of_decide_eq_true (by kernel_rfl)
                 · decide
                 repeat go_step
                 refine bodyPost_ret (res_dev2 (e1:=.int .i64 6) Tryz.results33 (by kernel_rfl) (by kernel_rfl) LM.out.res) rfl ?_;exact LM.out.quit st.out _ rfl
               · skip
                 cases hB4:nameB n
                 · have st:Hid (stepM d seen [kFie,n,p,k,wd,s,f,u]=.error 6):=ST.out.trans (if_neg (by rw [hB4]; simp));rw [hB4] at hN
                   go_wp2_with fail
                   refine (hN.out _).mono ?_;rintro e yQ ⟨rfl,hyQ⟩;replace hyQ:=hyQ.symm;subst hyQ
                   go_upto_region 26 with fail
                   refine line_end LM.out ?_ ?_ ?_ ?_ ?_
                   · kernel_rfl
                   · kernel_rfl
                   · exact of_decide_eq_true (by kernel_rfl)
                   · decide
                   repeat go_step
                   refine bodyPost_ret (res_dev2 (e1:=.int .i64 6) Tryz.results33 (by kernel_rfl) (by kernel_rfl) LM.out.res) rfl ?_;exact LM.out.quit st.out _ rfl
                 · rw [hB4] at hN
                   cases hB5:nameB k
                   · have st:Hid (stepM d seen [kFie,n,p,k,wd,s,f,u]=.error 6):=ST.out.trans (if_neg (by rw [hB5]; simp));rw [hB5] at hK
                     go_wp2_with fail
                     refine (hN.out _).mono ?_;rintro e yQ ⟨rfl,hyQ⟩;replace hyQ:=hyQ.symm;subst hyQ
                     go_wp2_with fail
                     refine (hK.out _).mono ?_;rintro e yQ ⟨rfl,hyQ⟩;replace hyQ:=hyQ.symm;subst hyQ
                     go_upto_region 26 with fail
                     refine line_end LM.out ?_ ?_ ?_ ?_ ?_
                     · kernel_rfl
                     · kernel_rfl
                     · exact of_decide_eq_true (by kernel_rfl)
                     · decide
                     repeat go_step
                     refine bodyPost_ret (res_dev2 (e1:=.int .i64 6) Tryz.results33 (by kernel_rfl) (by kernel_rfl) LM.out.res) rfl ?_;exact LM.out.quit st.out _ rfl
                   · rw [hB5] at hK
                     cases hB6:nameB u
                     · have st:Hid (stepM d seen [kFie,n,p,k,wd,s,f,u]=.error 6):=ST.out.trans (if_neg (by rw [hB6]; simp));rw [hB6] at hU
                       go_wp2_with fail
                       refine (hN.out _).mono ?_;rintro e yQ ⟨rfl,hyQ⟩;replace hyQ:=hyQ.symm;subst hyQ
                       go_wp2_with fail
                       refine (hK.out _).mono ?_;rintro e yQ ⟨rfl,hyQ⟩;replace hyQ:=hyQ.symm;subst hyQ
                       go_wp2_with fail
                       refine (hU.out _).mono ?_;rintro e yQ ⟨rfl,hyQ⟩;replace hyQ:=hyQ.symm;subst hyQ
                       go_upto_region 26 with fail
                       refine line_end LM.out ?_ ?_ ?_ ?_ ?_
                       · kernel_rfl
                       · kernel_rfl
                       · exact of_decide_eq_true (by kernel_rfl)
                       · decide
                       repeat go_step
                       refine bodyPost_ret (res_dev2 (e1:=.int .i64 6) Tryz.results33 (by kernel_rfl) (by kernel_rfl) LM.out.res) rfl ?_;exact LM.out.quit st.out _ rfl
                     · rw [hB6] at hU;have st:Hid (stepM d seen [kFie,n,p,k,wd,s,f,u]=.ok { d with fs:=d.fs ++ [⟨n,P,k,V,N1,D1,N2,D2,u⟩] }):=by
                        refine ST.out.trans ((if_pos (by rw [hB0,hB1,hB2,hB3,hB4,hB5,hB6]; rfl)).trans ?_);obtain ⟨a1,a2⟩:=r1.out hB2;obtain ⟨a3,a4⟩:=r2.out hB3;rw [a1,a2,a3,a4,← eP.out,← eV.out,vP.out hB0,vW.out hB1]
                       go_wp2_with fail
                       refine (hN.out _).mono ?_;rintro e yQ ⟨rfl,hyQ⟩;replace hyQ:=hyQ.symm;subst hyQ
                       go_wp2_with fail
                       refine (hK.out _).mono ?_;rintro e yQ ⟨rfl,hyQ⟩;replace hyQ:=hyQ.symm;subst hyQ
                       go_wp2_with fail
                       refine (hU.out _).mono ?_;rintro e yQ ⟨rfl,hyQ⟩;replace hyQ:=hyQ.symm;subst hyQ;clear hN hK hU ST vP vW eP eV r1 r2 hB0 hB1 hB2 hB3 hB4 hB5 hB6;obtain ⟨p0,p1,_,_,_⟩:=H7.out;obtain ⟨q0,q1,_,_,_⟩:=H8.out;have dc6:=LM.out.cells.1 6 _ rfl;have hgl:g < y8.heap.size:=block_lt_of_cell c0;have W0:Hid (FxW y8 w.heap.size g o b5 b7 (.slice pf nf cf) d.fs ⟨n,P,k,V,N1,D1,N2,D2,u⟩ (Array.replicate 22 false) y8):=⟨c1,c3,c7,p0,p1,q0,q1,fun _=>Below.refl _ _,fun h=>(by cases h),fun h=>(by cases h),fun h=>(by cases h),fun h=>(by cases h),fun h=>(by cases h),fun h=>(by cases h)⟩;have FS:Hid (FldsAt y8 (.slice pf nf cf) d.fs):=FQ0.out.1.below LM.out.b;have hDl:w.heap.size < y8.heap.size:=(Array.getElem?_eq_some_iff.1 LM.out.dc).1;have hne5:Hid (b5 ≠ w.heap.size):=(show b5 ≠ w.heap.size by omega);have hne7:Hid (b7 ≠ w.heap.size):=(show b7 ≠ w.heap.size by omega);have hneg:Hid (g ≠ w.heap.size):=(show g ≠ w.heap.size by omega);clear c0 c1 c2 c3 c4 c5 c6 c7 p0 p1 q0 q1 H7 H8 E8 hgl
                       go_upto_region 27 with fail
                       refine region_props2 (FxP y8.heap.size w.heap.size g o cap (.slice pf nf cf) d.fs ⟨n,P,k,V,N1,D1,N2,D2,u⟩) (FxW y8 w.heap.size g o b5 b7 (.slice pf nf cf) d.fs ⟨n,P,k,V,N1,D1,N2,D2,u⟩) (by kernel_rfl) (by kernel_rfl) ?_ ?_ (W0.out.drew rfl W0.out)
                       · intro x a z i op ho hI haf hx hxi hW;have hi:i < 22:=(List.getElem?_eq_some_iff.1 ho).1
                         match i,hi with
                         | 0,_=>
                          obtain rfl:=Option.some.inj ho;have x21:x.getD 21 false=false:=off_of (fun h=>hW.i30 (hW.i193 (hW.i21 h))) (getD_false hxi);have lo:=hW.low x21;go_simp;refine ⟨_,rfl,⟨fun _=>.inr ⟨z.heap.size,rfl,lo.size,World.alloc_heap_new z _⟩,fun e=>absurd e (by decide),fun e=>absurd e (by decide),fun e=>absurd e (by decide),fun e=>absurd rfl e⟩,fun j v _ h=>(h.alloc _).mono _,?_⟩;exact (hW.step x21 W0.out (lo.alloc lo.size _)).other (by decide) (by decide) (by decide)
                         | 1,_=>
                          obtain rfl:=Option.some.inj ho;have e1:a.tmps.getD 3 undef=.pointer (some ⟨w.heap.size,0,none⟩):=(hI.was (by kernel_rfl)).trans rfl;go_simp;exact ⟨_,rfl,FxP.val rfl (by decide) (by decide) (by decide) (by decide),fun j v _ h=>h.mono _,hW.other (by decide) (by decide) (by decide)⟩
                         | 2,_=>
                          obtain rfl:=Option.some.inj ho;have e1:a.tmps.getD 150 undef=.pointer (some ⟨w.heap.size,6,none⟩):=(hI.val 1 _ 150 rfl rfl (dep_at haf (by kernel_rfl))).2.2.2.2 (by decide) (by decide) (by decide) (by decide);have l1:=kp (hW.low (off_of (fun h=>hW.i32 (hW.i193 (hW.i21 h))) (getD_false hxi))) dc6.1;go_simp;exact ⟨_,rfl,FxP.val rfl (by decide) (by decide) (by decide) (by decide),fun j v _ h=>h.mono _,hW.other (by decide) (by decide) (by decide)⟩
                         | 3,_=>
                          obtain rfl:=Option.some.inj ho;have x3:=getD_false hxi;have x19:x.getD 19 false=false:=off_of hW.i193 x3;have x21:x.getD 21 false=false:=off_of hW.i21 x19;have lo:=hW.low x21;have x0d:x.getD 0 false=true:=dep_at haf (by kernel_rfl);have x2d:x.getD 2 false=true:=dep_at haf (by kernel_rfl);have e2:a.tmps.getD 151 undef=.slice pf nf cf:=(hI.val 2 _ 151 rfl rfl (dep_at haf (by kernel_rfl))).2.2.2.2 (by decide) (by decide) (by decide) (by decide);obtain ⟨A,e1,hNA,hA⟩:=((hI.val 0 _ 149 rfl rfl x0d).1 rfl).resolve_left (by rw [x3]; decide);refine wp_copy (.tmp 149) (.tmp 151) rfl e1 hA hNA e2 (FS.out.below lo) hf8.out ?_;intro v' z' hO hG;have lo':Below y8.heap.size y8 z':=lo.grown hG lo.size (fun j e=>by cases e; exact hNA);refine ⟨v',rfl,fun d _=>⟨fun e=>absurd e (by decide),fun _=>.inr hO,fun e=>absurd e (by decide),fun e=>absurd e (by decide),fun _ e=>absurd rfl e⟩,fun j v hj h=>?_,?_⟩
                          · refine ⟨fun _=>.inl (getD_set_at (by rw [hx]; decide)),fun e=>?_,fun e=>?_,fun e=>?_,h.2.2.2.2⟩
                            · rw [e,x3] at hj; cases hj
                            · refine .inr ?_;obtain ⟨b,h1,h2,h3⟩:=(h.2.2.1 e).resolve_left (by rw [x19]; decide);have hbA:b ≠ A:=fun c=>by rw [c,hA] at h3; simp [fdC] at h3
                              exact ⟨b,h1,h2,(hG.block b (Array.getElem?_eq_some_iff.1 h3).1 (fun c=>hbA (Option.some.inj c))).trans h3⟩
                            · rw [e,x19] at hj; cases hj
                          · have hS:=hW.step x21 W0.out lo';have s21:(x.setIfInBounds 3 true).getD 21 false=false:=(getD_set_ne false (by decide)).trans x21;have s19:(x.setIfInBounds 3 true).getD 19 false=false:=(getD_set_ne false (by decide)).trans x19;exact ⟨hS.c1,hS.c3,hS.c7,hS.p0,hS.p1,hS.q0,hS.q1,fun _=>lo',fun _=>getD_set_true x0d,fun _=>getD_set_true x2d,fun e=>(by rw [s19] at e; cases e),fun e=>(by rw [s19] at e; cases e),fun e=>(by rw [s21] at e; cases e),fun e=>(by rw [s21] at e; cases e)⟩
                         | 4,_=>
                          obtain rfl:=Option.some.inj ho;have e1:a.tmps.getD 1 undef=.slice (some ⟨g,o,none⟩) 8 cap:=(hI.was (by kernel_rfl)).trans rfl;go_simp;exact ⟨_,rfl,FxP.val rfl (by decide) (by decide) (by decide) (by decide),fun j v _ h=>h.mono _,hW.other (by decide) (by decide) (by decide)⟩
                         | 5,_=>
                          obtain rfl:=Option.some.inj ho;have e1:a.tmps.getD 153 undef=.slice (some ⟨g,o,none⟩) 8 cap:=(hI.val 4 _ 153 rfl rfl (dep_at haf (by kernel_rfl))).2.2.2.2 (by decide) (by decide) (by decide) (by decide);go_simp;exact ⟨_,rfl,FxP.val rfl (by decide) (by decide) (by decide) (by decide),fun j v _ h=>h.mono _,hW.other (by decide) (by decide) (by decide)⟩
                         | 6,_=>
                          obtain rfl:=Option.some.inj ho;have e1:a.tmps.getD 154 undef=.pointer (some ⟨g,o + 1,none⟩):=(hI.val 5 _ 154 rfl rfl (dep_at haf (by kernel_rfl))).2.2.2.2 (by decide) (by decide) (by decide) (by decide);have l1:=hW.c1;go_simp;exact ⟨_,rfl,FxP.val rfl (by decide) (by decide) (by decide) (by decide),fun j v _ h=>h.mono _,hW.other (by decide) (by decide) (by decide)⟩
                         | 7,_=>
                          obtain rfl:=Option.some.inj ho;have e1:a.tmps.getD 12 undef=.int .i64 P:=(hI.was (by kernel_rfl)).trans rfl;go_simp;exact ⟨_,rfl,FxP.val rfl (by decide) (by decide) (by decide) (by decide),fun j v _ h=>h.mono _,hW.other (by decide) (by decide) (by decide)⟩
                         | 8,_=>
                          obtain rfl:=Option.some.inj ho;have e1:a.tmps.getD 1 undef=.slice (some ⟨g,o,none⟩) 8 cap:=(hI.was (by kernel_rfl)).trans rfl;go_simp;exact ⟨_,rfl,FxP.val rfl (by decide) (by decide) (by decide) (by decide),fun j v _ h=>h.mono _,hW.other (by decide) (by decide) (by decide)⟩
                         | 9,_=>
                          obtain rfl:=Option.some.inj ho;have e1:a.tmps.getD 157 undef=.slice (some ⟨g,o,none⟩) 8 cap:=(hI.val 8 _ 157 rfl rfl (dep_at haf (by kernel_rfl))).2.2.2.2 (by decide) (by decide) (by decide) (by decide);go_simp;exact ⟨_,rfl,FxP.val rfl (by decide) (by decide) (by decide) (by decide),fun j v _ h=>h.mono _,hW.other (by decide) (by decide) (by decide)⟩
                         | 10,_=>
                          obtain rfl:=Option.some.inj ho;have e1:a.tmps.getD 158 undef=.pointer (some ⟨g,o + 3,none⟩):=(hI.val 9 _ 158 rfl rfl (dep_at haf (by kernel_rfl))).2.2.2.2 (by decide) (by decide) (by decide) (by decide);have l1:=hW.c3;go_simp;exact ⟨_,rfl,FxP.val rfl (by decide) (by decide) (by decide) (by decide),fun j v _ h=>h.mono _,hW.other (by decide) (by decide) (by decide)⟩
                         | 11,_=>
                          obtain rfl:=Option.some.inj ho;have e1:a.tmps.getD 14 undef=.int .i64 V:=(hI.was (by kernel_rfl)).trans rfl;go_simp;exact ⟨_,rfl,FxP.val rfl (by decide) (by decide) (by decide) (by decide),fun j v _ h=>h.mono _,hW.other (by decide) (by decide) (by decide)⟩
                         | 12,_=>
                          obtain rfl:=Option.some.inj ho;have e1:a.tmps.getD 16 undef=.pointer (some ⟨b5,0,none⟩):=(hI.was (by kernel_rfl)).trans rfl;have l1:=hW.p0;have l2:=hW.p1;go_simp;exact ⟨_,rfl,FxP.val rfl (by decide) (by decide) (by decide) (by decide),fun j v _ h=>h.mono _,hW.other (by decide) (by decide) (by decide)⟩
                         | 13,_=>
                          obtain rfl:=Option.some.inj ho;have e1:a.tmps.getD 18 undef=.pointer (some ⟨b7,0,none⟩):=(hI.was (by kernel_rfl)).trans rfl;have l1:=hW.q0;have l2:=hW.q1;go_simp;exact ⟨_,rfl,FxP.val rfl (by decide) (by decide) (by decide) (by decide),fun j v _ h=>h.mono _,hW.other (by decide) (by decide) (by decide)⟩
                         | 14,_=>
                          obtain rfl:=Option.some.inj ho;have e1:a.tmps.getD 1 undef=.slice (some ⟨g,o,none⟩) 8 cap:=(hI.was (by kernel_rfl)).trans rfl;go_simp;exact ⟨_,rfl,FxP.val rfl (by decide) (by decide) (by decide) (by decide),fun j v _ h=>h.mono _,hW.other (by decide) (by decide) (by decide)⟩
                         | 15,_=>
                          obtain rfl:=Option.some.inj ho;have e1:a.tmps.getD 163 undef=.slice (some ⟨g,o,none⟩) 8 cap:=(hI.val 14 _ 163 rfl rfl (dep_at haf (by kernel_rfl))).2.2.2.2 (by decide) (by decide) (by decide) (by decide);go_simp;exact ⟨_,rfl,FxP.val rfl (by decide) (by decide) (by decide) (by decide),fun j v _ h=>h.mono _,hW.other (by decide) (by decide) (by decide)⟩
                         | 16,_=>
                          obtain rfl:=Option.some.inj ho;have e1:a.tmps.getD 164 undef=.pointer (some ⟨g,o + 7,none⟩):=(hI.val 15 _ 164 rfl rfl (dep_at haf (by kernel_rfl))).2.2.2.2 (by decide) (by decide) (by decide) (by decide);have l1:=hW.c7;go_simp;exact ⟨_,rfl,FxP.val rfl (by decide) (by decide) (by decide) (by decide),fun j v _ h=>h.mono _,hW.other (by decide) (by decide) (by decide)⟩
                         | 17,_=>
                          obtain rfl:=Option.some.inj ho;have e1:a.tmps.getD 155 undef=.string (txt n):=(hI.val 6 _ 155 rfl rfl (dep_at haf (by kernel_rfl))).2.2.2.2 (by decide) (by decide) (by decide) (by decide);have e2:a.tmps.getD 156 undef=.int .i64 P:=(hI.val 7 _ 156 rfl rfl (dep_at haf (by kernel_rfl))).2.2.2.2 (by decide) (by decide) (by decide) (by decide);have e3:a.tmps.getD 159 undef=.string (txt k):=(hI.val 10 _ 159 rfl rfl (dep_at haf (by kernel_rfl))).2.2.2.2 (by decide) (by decide) (by decide) (by decide);have e4:a.tmps.getD 160 undef=.int .i64 V:=(hI.val 11 _ 160 rfl rfl (dep_at haf (by kernel_rfl))).2.2.2.2 (by decide) (by decide) (by decide) (by decide);have e5:a.tmps.getD 161 undef=rv N1 D1:=(hI.val 12 _ 161 rfl rfl (dep_at haf (by kernel_rfl))).2.2.2.2 (by decide) (by decide) (by decide) (by decide);have e6:a.tmps.getD 162 undef=rv N2 D2:=(hI.val 13 _ 162 rfl rfl (dep_at haf (by kernel_rfl))).2.2.2.2 (by decide) (by decide) (by decide) (by decide);have e7:a.tmps.getD 165 undef=.string (txt u):=(hI.val 16 _ 165 rfl rfl (dep_at haf (by kernel_rfl))).2.2.2.2 (by decide) (by decide) (by decide) (by decide);go_simp;simp only [← Array.getD_eq_getD_getElem?,e1,e2,e3,e4,e5,e6,e7];go_simp;exact ⟨_,rfl,FxP.val rfl (by decide) (by decide) (by decide) (by decide),fun j v _ h=>h.mono _,hW.other (by decide) (by decide) (by decide)⟩
                         | 18,_=>
                          obtain rfl:=Option.some.inj ho;have x21:x.getD 21 false=false:=off_of (fun h=>hW.i198 (hW.i21 h)) (getD_false hxi);have lo:=hW.low x21;have e1:a.tmps.getD 166 undef=.agg #[.string (txt n),.int .i64 P,.string (txt k),.int .i64 V,.int .i64 N1,.int .i64 D1,.int .i64 N2,.int .i64 D2,.string (txt u)]:=(hI.val 17 _ 166 rfl rfl (dep_at haf (by kernel_rfl))).2.2.2.2 (by decide) (by decide) (by decide) (by decide);go_simp;simp only [← Array.getD_eq_getD_getElem?,e1];go_simp;refine ⟨_,rfl,⟨fun e=>absurd e (by decide),fun e=>absurd e (by decide),fun _=>.inr ⟨z.heap.size,rfl,lo.size,World.alloc_heap_new z _⟩,fun e=>absurd e (by decide),fun _ _ e _=>absurd rfl e⟩,fun j v _ h=>(h.alloc _).mono _,?_⟩;exact (hW.step x21 W0.out (lo.alloc lo.size _)).other (by decide) (by decide) (by decide)
                         | 19,_=>
                          obtain rfl:=Option.some.inj ho;have x19:=getD_false hxi;have x21:x.getD 21 false=false:=off_of hW.i21 x19;have lo:=hW.low x21;have x3d:x.getD 3 false=true:=dep_at haf (by kernel_rfl);have x8d:x.getD 18 false=true:=dep_at haf (by kernel_rfl);have hO:=((hI.val 3 _ 152 rfl rfl x3d).2.1 rfl).resolve_left (by rw [x19]; decide);obtain ⟨b,e2,hNb,hb⟩:=((hI.val 18 _ 167 rfl rfl x8d).2.2.1 rfl).resolve_left (by rw [x19]; decide);refine wp_append_lies _ (.tmp 152) (.tmp 167) 22 rfl y8.heap.size 64 r0 _ 9 96 Tryz.underlying22 hri hr0 hr1 hr2 rfl (by omega) (a.tmps.getD 152 undef) d.fs.length (fdCs d.fs) rfl hO ⟨b,0,none⟩ 1 1 (fdC ⟨n,P,k,V,N1,D1,N2,D2,u⟩) e2 rfl (World.news_of_block hb) (one_fd _) (by omega) (by have:=hf8.out; unfold maxLen; omega) (by have:=hf8.out; omega) lo.size _ rfl ?_;intro gg cap' z' hO' hG hat hlt2;have lo':Below y8.heap.size y8 z':=lo.grown hG lo.size (fun j e=>(World.ownsRow.lt hO j e).1);refine ⟨_,rfl,fun d _=>⟨fun e=>absurd e (by decide),fun e=>absurd e (by decide),fun e=>absurd e (by decide),fun _=>.inr hO',fun _ _ _ e=>absurd rfl e⟩,fun j v hj h=>?_,?_⟩
                          · refine ⟨fun _=>.inl (getD_set_true x3d),fun e=>.inl (getD_set_at (by rw [hx]; decide)),fun e=>.inl (getD_set_at (by rw [hx]; decide)),fun e=>?_,h.2.2.2.2⟩;rw [e,x19] at hj; cases hj
                          · have hS:=hW.step x21 W0.out lo';have s21:(x.setIfInBounds 19 true).getD 21 false=false:=(getD_set_ne false (by decide)).trans x21;exact ⟨hS.c1,hS.c3,hS.c7,hS.p0,hS.p1,hS.q0,hS.q1,fun _=>lo',fun e=>getD_set_true (hW.i30 x3d),fun e=>getD_set_true (hW.i32 x3d),fun _=>getD_set_true x3d,fun _=>getD_set_true x8d,fun e=>(by rw [s21] at e; cases e),fun e=>(by rw [s21] at e; cases e)⟩
                         | 20,_=>
                          obtain rfl:=Option.some.inj ho;have e1:a.tmps.getD 3 undef=.pointer (some ⟨w.heap.size,0,none⟩):=(hI.was (by kernel_rfl)).trans rfl;go_simp;exact ⟨_,rfl,FxP.val rfl (by decide) (by decide) (by decide) (by decide),fun j v _ h=>h.mono _,hW.other (by decide) (by decide) (by decide)⟩
                         | 21,_=>
                          obtain rfl:=Option.some.inj ho;have x21:=getD_false hxi;have lo:=hW.low x21;have x19d:x.getD 19 false=true:=dep_at haf (by kernel_rfl);have hO:=((hI.val 19 _ 168 rfl rfl x19d).2.2.2.1 rfl).resolve_left (by rw [x21]; decide);have e1:a.tmps.getD 169 undef=.pointer (some ⟨w.heap.size,6,none⟩):=(hI.val 20 _ 169 rfl rfl (dep_at haf (by kernel_rfl))).2.2.2.2 (by decide) (by decide) (by decide) (by decide);obtain ⟨gg,cap',e2,_,_⟩:=World.ownsRow.form hO (by omega);rw [e2] at hO;have fc1:=kp lo dc6.1;have fc2:=kpf lo dc6.1 dc6.2;go_simp;refine ⟨fun j v hj h=>?_,?_⟩
                          · exact ⟨fun _=>.inl (getD_set_true (hW.i193 x19d)),fun _=>.inl (getD_set_true x19d),fun _=>.inl (getD_set_true x19d),fun _=>.inl (getD_set_at (by rw [hx]; decide)),h.2.2.2.2⟩
                          · have kk:∀ {a:Addr} {u v:Value},z.cell? a=some u→a.block ≠ w.heap.size→(z.setCell ⟨w.heap.size,6,none⟩ v).cell? a=some u:=fun {a u v} h hn=>by rw [World.cell?_setCell_other _ _ _ _ (fun e=>hn (by rw [← e]))]; exact h
                            have s21:(x.setIfInBounds 21 true).getD 21 false=true:=getD_set_at (by rw [hx]; decide);exact ⟨kk hW.c1 hneg.out,kk hW.c3 hneg.out,kk hW.c7 hneg.out,kk hW.p0 hne5.out,kk hW.p1 hne5.out,kk hW.q0 hne7.out,kk hW.q1 hne7.out,fun e=>(by rw [s21] at e; cases e),fun _=>getD_set_true (hW.i30 (hW.i193 x19d)),fun _=>getD_set_true (hW.i32 (hW.i193 x19d)),fun _=>getD_set_true (hW.i193 x19d),fun _=>getD_set_true (hW.i198 x19d),fun _=>getD_set_true x19d,fun _=>⟨z,_,_,_,lo,hO,rfl⟩⟩
                       · intro x a z hx hall hI hW;obtain ⟨y9,p1,n1,c1,lo,hO,rfl⟩:=hW.fin (hall 21 (by decide));have t3:a.tmps.getD 3 undef=.pointer (some ⟨w.heap.size,0,none⟩):=(hI.was (by kernel_rfl)).trans rfl;have t6:a.tmps.getD 6 undef=.pointer (some ⟨w.heap.size + 1,0,none⟩):=(hI.was (by kernel_rfl)).trans rfl;have LM9:Hid (LineM w y9 d (.slice pf nf cf) (.slice pq mq cq)):=LM.out.below lo;have FN:Hid (FldsAt y9 (.slice p1 n1 c1) (d.fs ++ [⟨n,P,k,V,N1,D1,N2,D2,u⟩])):=flds_own' (N:=y8.heap.size) (e:=64) (by rw [List.length_append,fdCs_snoc]; exact hO);have NP:Hid (NewP p1 y8.heap.size):=fun q hq=>(World.ownsRow.lt hO q.block (by rw [hq]; rfl)).1
                         have rl:w.heap.size + 1 < y8.heap.size:=(Array.getElem?_eq_some_iff.1 LM.out.rc).1;obtain ⟨VV,hV⟩:=hI.slots (by kernel_rfl) hall;clear LM hW hI hO lo W0 FS hall hx x t3 t6;have LM:Hid (LineM w (y9.setCell ⟨w.heap.size,6,none⟩ (.slice p1 n1 c1)) { d with fs:=d.fs ++ [⟨n,P,k,V,N1,D1,N2,D2,u⟩] } (.slice p1 n1 c1) (.slice pq mq cq)):=LM9.out.set 6 (.slice p1 n1 c1) rfl;simp only [putsL,List.setIfInBounds_toArray,List.set_cons_zero,List.set_cons_succ] at hV;subst hV;have BZ:Hid (BytesAt (LineZ w (y9.setCell ⟨w.heap.size,6,none⟩ (.slice p1 n1 c1)) { d with fs:=d.fs ++ [⟨n,P,k,V,N1,D1,N2,D2,u⟩] } (.slice p1 n1 c1) (.slice pq mq cq)) (.slice pq mq cq) d.rq):=(LM.out.old FQ0.out).2;have FZ:Hid (FldsAt (LineZ w (y9.setCell ⟨w.heap.size,6,none⟩ (.slice p1 n1 c1)) { d with fs:=d.fs ++ [⟨n,P,k,V,N1,D1,N2,D2,u⟩] } (.slice p1 n1 c1) (.slice pq mq cq)) (.slice p1 n1 c1) (d.fs ++ [⟨n,P,k,V,N1,D1,N2,D2,u⟩])):=FldsAt.z (FN.out.set (fun a ha=>by have:=NP.out a ha; omega)) (fun a ha=>by have:=NP.out a ha; omega) LineZ.size
                         go_upto_region 28 with fail
                         refine line_end LM.out ?_ ?_ ?_ ?_ ?_
                         · kernel_rfl
                         · kernel_rfl
                         · exact of_decide_eq_true (by kernel_rfl)
                         · decide
                         repeat go_step
                         refine bodyPost_ret (res_dev2 (e1:=.int .i64 0) Tryz.results33 (by kernel_rfl) (by kernel_rfl) LM.out.res) rfl ?_;exact LM.out.done st.out FZ.out BZ.out (NP.out.b (by omega)) (.inl rfl)
       · have n2:((a.length:Int) + 1 != 8)=true:=bne_iff_ne.2 (by omega);have st:Hid (stepM d seen (kFie :: a)=.error 6):=by
          unfold Hid;rw [step_f hd8.out];have hm:updM kFie a=none:=by
           have e:updM kFie a=(fldO a).map fun x d=>{ d with fs:=d.fs ++ [x] }:=rfl
           rw [e,fld_len h1]; rfl
          rw [hm]
         obtain ⟨dc6,df6⟩:=LM.out.cells.1 6 _ rfl
         go_upto_region 20 with fail
         refine line_end LM.out ?_ ?_ ?_ ?_ ?_
         · kernel_rfl
         · kernel_rfl
         · exact of_decide_eq_true (by kernel_rfl)
         · decide
         repeat go_step
         refine bodyPost_ret (res_dev2 (e1:=.int .i64 6) Tryz.results33 (by kernel_rfl) (by kernel_rfl) LM.out.res) rfl ?_;exact LM.out.quit st.out _ rfl
theorem line_none (d:Dv) (pf:Option Addr) (nf cf:Nat) (pq:Option Addr) (mq cq:Nat) (p:Option Addr) (c:Nat) (vs:Value) (w:World) (seen:List Wd) (hfl:FldsAt w (.slice pf nf cf) d.fs) (hrq:BytesAt w (.slice pq mq cq) d.rq) :
 Calls Tryz.prog 33 #[dvV d (.slice pf nf cf) (.slice pq mq cq),.slice p 0 c,vs] w (LineQ w d (.slice pf nf cf) (.slice pq mq cq) seen []):=by
 have LM:Hid (LineM w ((w.alloc (.cells (dvA d (.slice pf nf cf) (.slice pq mq cq)) 25)).alloc (.cells dz 25)) d (.slice pf nf cf) (.slice pq mq cq)):=by
  refine ⟨map_under _ _ _ _ (World.alloc_heap_new w _),?_,?_⟩
  · have k:=World.alloc_heap_new (w.alloc (.cells (dvA d (.slice pf nf cf) (.slice pq mq cq)) 25)) (.cells dz 25)
    rwa [World.size_alloc] at k
  · exact ((Below.refl _ _).alloc (Nat.le_refl _) _).alloc (by rw [World.size_alloc]; omega) _
 have st:Hid (stepM d seen []=.error 6):=rfl
 go_enter Tryz.func33,Tryz.ntmps33
 go_upto_region 1 with fail
 change Code.wp Tryz.prog _ _ _ ((w.alloc (.cells (dvA d (.slice pf nf cf) (.slice pq mq cq)) 25)).alloc (.cells dz 25));generalize ((w.alloc (.cells (dvA d (.slice pf nf cf) (.slice pq mq cq)) 25)).alloc (.cells dz 25))=y at *;clear hfl hrq;obtain ⟨dc0,df0⟩:=LM.out.cells.1 0 _ rfl;obtain ⟨dc1,df1⟩:=LM.out.cells.1 1 _ rfl;obtain ⟨dc2,df2⟩:=LM.out.cells.1 2 _ rfl;obtain ⟨dc3,df3⟩:=LM.out.cells.1 3 _ rfl;obtain ⟨dc4,df4⟩:=LM.out.cells.1 4 _ rfl;obtain ⟨dc5,df5⟩:=LM.out.cells.1 5 _ rfl;obtain ⟨dc6,df6⟩:=LM.out.cells.1 6 _ rfl;obtain ⟨dc7,df7⟩:=LM.out.cells.1 7 _ rfl;obtain ⟨dc8,df8⟩:=LM.out.cells.1 8 _ rfl;obtain ⟨dc9,df9⟩:=LM.out.cells.1 9 _ rfl;obtain ⟨dc10,df10⟩:=LM.out.cells.1 10 _ rfl;obtain ⟨dc11,df11⟩:=LM.out.cells.1 11 _ rfl;obtain ⟨zc0,zf0⟩:=LM.out.cells.2 0 _ rfl;obtain ⟨zc1,zf1⟩:=LM.out.cells.2 1 _ rfl;obtain ⟨zc2,zf2⟩:=LM.out.cells.2 2 _ rfl;obtain ⟨zc3,zf3⟩:=LM.out.cells.2 3 _ rfl;obtain ⟨zc4,zf4⟩:=LM.out.cells.2 4 _ rfl;obtain ⟨zc5,zf5⟩:=LM.out.cells.2 5 _ rfl;obtain ⟨zc6,zf6⟩:=LM.out.cells.2 6 _ rfl;obtain ⟨zc7,zf7⟩:=LM.out.cells.2 7 _ rfl;obtain ⟨zc8,zf8⟩:=LM.out.cells.2 8 _ rfl;obtain ⟨zc9,zf9⟩:=LM.out.cells.2 9 _ rfl;obtain ⟨zc10,zf10⟩:=LM.out.cells.2 10 _ rfl;obtain ⟨zc11,zf11⟩:=LM.out.cells.2 11 _ rfl;go_wp2;change bodyPost _ _ _ _ _ (LineZ w y d (.slice pf nf cf) (.slice pq mq cq));refine bodyPost_ret (res_dev2 Tryz.results33 rfl rfl LM.out.res) rfl ?_;exact LM.out.quit st.out _ rfl
theorem rline_any:LineP:=by
 intro ws d fv qv vw vs w seen hw hl hz hs hsl hf hq h8;obtain ⟨pf,nf,cf,rfl,hnf⟩:∃ p n c,fv=.slice p n c∧n=d.fs.length:=by
  rcases hf with ⟨h1,h2⟩ | ⟨g,o,cap,h1,_⟩
  · exact ⟨_,_,_,h1,by rw [h2]; rfl⟩
  · exact ⟨_,_,_,h1,rfl⟩
 obtain ⟨pq,mq,cq,rfl⟩:=hq.form;obtain ⟨ps,cs,rfl⟩:∃ p c,vs=.slice p seen.length c:=by
  rcases hs with ⟨h1,h2⟩ | ⟨g,o,cap,h1,_⟩
  · exact ⟨_,_,by rw [h1,h2]; rfl⟩
  · exact ⟨_,_,h1⟩
 cases ws with
 | nil=>
  rcases hw with ⟨_,_,rfl,_⟩ | ⟨g,o,cap,rfl,_⟩
  · exact line_none d pf nf cf pq mq cq _ _ _ w seen hf hq
  · exact line_none d pf nf cf pq mq cq _ _ _ w seen hf hq
 | cons f a=>
  rcases hw with ⟨_,_,_,h⟩ | ⟨g,o,cap,rfl,hi,hg⟩
  · cases h
  have hl':(a.length:Int)≤5000:=by rw [List.length_cons] at hl; omega
  have hz':∀ z ∈ a,(z.length:Int)≤5000:=fun z h=>hz z (List.mem_cons_of_mem _ h)
  cases hk:knownB f with
  | false=>exact line_unknown f a d pf nf cf pq mq cq g o cap w (hi 0 (by simp)) hl' hk _ seen
  | true=>
   have hm:f ∈ tenK ∨ f=kFie:=by simpa [knownB] using hk
   rcases hm with hm | rfl
   · unfold tenK at hm;simp only [List.mem_cons,List.not_mem_nil,or_false] at hm;rcases hm with rfl | rfl | rfl | rfl | rfl | rfl | rfl | rfl | rfl | rfl
     · exact line_dev a d pf nf cf pq mq cq g o cap w hi hg hl' hz' ps cs seen hs hsl hf hq
     · exact line_sta a d pf nf cf pq mq cq g o cap w hi hg hl' hz' ps cs seen hs hsl hf hq
     · exact line_esc a d pf nf cf pq mq cq g o cap w hi hg hl' hz' ps cs seen hs hsl hf hq
     · exact line_siz a d pf nf cf pq mq cq g o cap w hi hg hl' hz' ps cs seen hs hsl hf hq
     · exact line_sum a d pf nf cf pq mq cq g o cap w hi hg hl' hz' ps cs seen hs hsl hf hq
     · exact line_req a d pf nf cf pq mq cq g o cap w hi hg hl' hz' ps cs seen hs hsl hf hq
     · exact line_pol a d pf nf cf pq mq cq g o cap w hi hg hl' hz' ps cs seen hs hsl hf hq
     · exact line_tim a d pf nf cf pq mq cq g o cap w hi hg hl' hz' ps cs seen hs hsl hf hq
     · exact line_ret a d pf nf cf pq mq cq g o cap w hi hg hl' hz' ps cs seen hs hsl hf hq
     · exact line_age a d pf nf cf pq mq cq g o cap w hi hg hl' hz' ps cs seen hs hsl hf hq
   · exact line_fie a d pf nf cf pq mq cq g o cap w hi hg hl' hz' ps cs seen hs hsl hf hnf h8 hq
end Go.Proofs.YthabffjgdhfbmaaGreatDoor
namespace Go.Proofs.YthabffjgdhfbmaaGreatDoor
open Go.ChangeShapes Go.WideShapes Go.ChangeAt Go.RowKit
open Go.Deep (open_slice_pairs open_strs)
theorem open_rows_cap {H:Type} {enc:TypeId × Value→H} {w:World} {b0:Nat} {v:Value} {d:DataW H} {ps:List MemPlace} (hv:Value.okWide Tryz.prog w .any b0 40 v) (h:DataW.Trod enc Tryz.prog w 0 (fun _=>true) true 40 v d ps) :
 ∀ p m c,v=.slice p m c→m≤c:=by
 obtain ⟨a,len,cap,rfl⟩:=okWide_slice Tryz.underlying40 hv;obtain ⟨fuel,hf⟩:=h;intro p m' c' hs;injection hs with s1 s2 s3
 rcases open_slice_pairs Tryz.underlying40 Tryz.underlying54 cellsRw rfl rfl cellsIn cellsSs hf with ⟨hcs,_⟩ | ⟨x,l,c,m,n,V0,V1,D0,D1,P0,P1,hcs,h0,hl,hm,hmm,h5,hx⟩
 · simp [Value.cells] at hcs;obtain ⟨rfl,rfl,rfl⟩:=hcs;omega
 · simp [Value.cells] at hcs;obtain ⟨rfl,rfl,rfl⟩:=hcs;omega
end Go.Proofs.YthabffjgdhfbmaaGreatDoor
namespace Go.Proofs.YthabffjgdhfbmaaGreatDoor
open Go.RowKit
theorem laid_space:(Rows.laid_strings_asciiSpace:DataW Unit)=Lib.tabData .u8 Lib.asciiSpaceTab:=by kernel_rfl
theorem tab7_of {W : World} (h : laidMetH Tryz.prog [("unicode.White_Space", Rows.laid_unicode_White_Space), ("strings.asciiSpace", Rows.laid_strings_asciiSpace)] W) : Tab7 W := by
 rw [MakeChecks.laidMetH_plain _ _ _ (by kernel_rfl)] at h;have h2:=h.tail;rw [laid_space] at h2;exact Tab7.of (Lib.tabIs_of_head (g:=0) (t:=170) (e:=5) (n:=256) (by kernel_rfl) (by kernel_rfl) Tryz.underlying170 Tryz.underlying5 (by kernel_rfl) (by kernel_rfl) h2)
end Go.Proofs.YthabffjgdhfbmaaGreatDoor
