/-
  Texts that belong together, one behind the other: DsLineEsc, DsLineSiz, DsLineSum, LexWordN. Conditions: as each says.
-/
import Derived.Lib.QuietBelowIn
import Derived.RangeFuncCalls
import Derived.Sort.BigQuietIn
import Derived.Test.YthabffjgdhfbmaaGreatDoorProg
import Derived.Test.YthabffjgdhfbmaaGreatDoorJl1
import Derived.Test.YthabffjgdhfbmaaGreatDoorJl2
import Derived.Test.YthabffjgdhfbmaaGreatDoorJl3
import Derived.Test.YthabffjgdhfbmaaGreatDoorJl4
import Derived.Test.YthabffjgdhfbmaaGreatDoorJl5
import Derived.Test.YthabffjgdhfbmaaGreatDoorJl6
import Derived.Test.YthabffjgdhfbmaaGreatDoorJl7
import Derived.Test.YthabffjgdhfbmaaGreatDoorJl8
import Derived.Test.YthabffjgdhfbmaaGreatDoorJl9
import Derived.Test.YthabffjgdhfbmaaGreatDoorJl10
set_option maxRecDepth 100000
set_option maxHeartbeats 32000000
set_option linter.unusedVariables false
namespace Go.Proofs.YthabffjgdhfbmaaGreatDoor
open Go.RowKit
theorem line_esc (a:List Wd) (d:Dv) (pf:Option Addr) (nf cf:Nat) (pq:Option Addr) (mq cq:Nat) (g o cap:Nat) (w:World) (hi:StrsIn w g o (kEsc :: a)) (hgw:g < w.heap.size) (hl:(a.length:Int)≤5000) (hz:∀ z ∈ a,(z.length:Int)≤5000) (ps:Option Addr) (cs:Nat) (seen:List Wd) (hs:StrsAt w (.slice ps seen.length cs) seen) (hsl:(seen.length:Int)≤5000) (hfl:FldsAt w (.slice pf nf cf) d.fs) (hrq:BytesAt w (.slice pq mq cq) d.rq) :
 Calls Tryz.prog 33 #[dvV d (.slice pf nf cf) (.slice pq mq cq),.slice (some ⟨g,o,none⟩) (a.length + 1) cap,.slice ps seen.length cs] w (LineQ w d (.slice pf nf cf) (.slice pq mq cq) seen (kEsc :: a)):=by
 have m0:=lineM_first w d (.slice pf nf cf) (.slice pq mq cq);have n0:((a.length:Int) + 1 == 0)=false:=beq_eq_false_iff_ne.2 (by omega);have FQ0:Hid (FldsAt w (.slice pf nf cf) d.fs∧BytesAt w (.slice pq mq cq) d.rq):=⟨hfl,hrq⟩;have wi:Hid (StrsIn w g o (kEsc :: a)):=hi;replace hs:Hid (StrsAt w (.slice ps seen.length cs) seen):=hs;replace hz:Hid (∀ z ∈ a,(z.length:Int)≤5000):=hz;obtain ⟨sl,hsl2⟩:∃ sl,seen.length=sl:=⟨_,rfl⟩;rw [hsl2] at hs hsl ⊢;replace hsl2:Hid (seen.length=sl):=hsl2;clear hfl hrq hi
 go_enter Tryz.func33,Tryz.ntmps33
 go_upto_region 5 with fail
 change Code.wp Tryz.prog _ _ _ (LineW w d (.slice pf nf cf) (.slice pq mq cq));have LM0:Hid (LineM w (LineW w d (.slice pf nf cf) (.slice pq mq cq)) d (.slice pf nf cf) (.slice pq mq cq)):=m0.1;have lc0:Hid (∀ (i:Nat) (h:i < 11),(LineW w d (.slice pf nf cf) (.slice pq mq cq)).cell? ⟨w.heap.size + 1 + 1,i,none⟩=some (.string (txt (allK[i]'h)))):=fun i h=>(rd_cell m0.2 i).1.trans (allC_at i h)
 have hc0:(LineW w d (.slice pf nf cf) (.slice pq mq cq)).cell? ⟨g,o,none⟩=some (.string ⟨#[101,115,99,97,112,101]⟩):=kp m0.1.b (wi.out 0 (by simp));clear m0;generalize LineW w d (.slice pf nf cf) (.slice pq mq cq)=x0 at *;go_wp2
 go_loopw [8,10] (fun vk vi wr=>∃ n k:Nat,(k:Int)≤11∧wr=x0.drewN n∧vi=.int .i64 (k:Int)∧vk=.bool (decide (kEsc ∈ allK.take k))) (fun vk vi wr=>(11 - intOf vi).toNat)
 case atStart=>exact ⟨0,0,by omega,rfl,rfl,by simp⟩
 case round=>
  obtain ⟨n,k,hk11,rfl,rfl,rfl⟩:=hrel
  by_cases hlt:k < 11
  · have hki:(k:Int) < 11:=by omega
    have st:=allK_step kEsc k hlt;have l1:=lc0.out k hlt;have wk:IntKind.i64.wrap ((k:Int) + 1)=(k:Int) + 1:=by simp only [IntKind.wrap_i64]; omega
    have cmp:(txt (allK[k]'hlt) == ⟨#[101,115,99,97,112,101]⟩)=decide (allK[k]'hlt=kEsc):=txt_beq _ kEsc;generalize allK[k]'hlt=ak at *;clear lc0 LM0
    cases hd:decide (kEsc ∈ allK.take k)
    · rw [hd,Bool.false_or] at st;have c2:((txt ak).toList == [101,115,99,97,112,101])=decide (ak=kEsc):=by
       rw [Bool.eq_iff_iff,decide_eq_true_iff,beq_iff_eq,ByteArray.toList_eq];exact ⟨fun h=>h,fun h=>by rw [h]; rfl⟩
      generalize decide (ak=kEsc)=R at *
      go_wp2_with fail
      go_quiet (fail)
      go_wp2;exact ⟨⟨n + nq,k + 1,by omega,rfl,by simp,by rw [st]⟩,by simp [intOf]; omega⟩
    · rw [hd,Bool.true_or] at st
      go_wp2_with fail
      go_quiet (fail)
      go_wp2;exact ⟨⟨n + nq,k + 1,by omega,rfl,by simp,by rw [st]⟩,by simp [intOf]; omega⟩
  · obtain rfl:k=11:=by omega
    rw [allK_mem,show knownB kEsc=true from rfl];clear lc0;go_wp2
    go_loopw [11] (fun vi wr=>∃ n k:Nat,(k:Int)≤(sl:Int)∧wr=x0.drewN n∧vi=.int .i64 (k:Int)∧Hid (∀ j (h:j < seen.length),j < k→¬ seen[j]=kEsc)) (fun vi wr=>((sl:Int) - intOf vi).toNat)
    case atStart=>exact ⟨n,0,by omega,rfl,rfl,fun j _ h=>(by cases h)⟩
    case round=>
     obtain ⟨n,k,hk,rfl,rfl,no⟩:=hrel
     by_cases hlt:k < sl
     · have hki:(k:Int) < (sl:Int):=by omega
       have hks:k < seen.length:=by have:=hsl2.out; omega
       rcases hs.out with ⟨_,hnil⟩ | ⟨gs,os,cs',e1,hin,hgs⟩
       · rw [hnil] at hks; cases hks
       injection e1 with e1 e2 e3
       subst e1;subst e3;clear e2;have l1:=kp LM0.out.b (hin k hks);have wk:IntKind.i64.wrap ((k:Int) + 1)=(k:Int) + 1:=by simp only [IntKind.wrap_i64]; omega
       obtain ⟨ak,hak⟩:∃ ak,seen[k]=ak:=⟨_,rfl⟩;rw [hak] at l1;have cmp:(txt ak == ⟨#[101,115,99,97,112,101]⟩)=decide (ak=kEsc):=txt_beq _ kEsc;have c2:((txt ak).toList == [101,115,99,97,112,101])=decide (ak=kEsc):=by
        rw [Bool.eq_iff_iff,decide_eq_true_iff,beq_iff_eq,ByteArray.toList_eq];exact ⟨fun h=>h,fun h=>by rw [h]; rfl⟩
       cases hd:decide (ak=kEsc)
       · rw [hd] at cmp c2;have no2:Hid (∀ j (h:j < seen.length),j < k + 1→¬ seen[j]=kEsc):=fun j h hj=>by
          by_cases hjk:j=k
          · subst hjk; rw [hak]; simpa using hd
          · exact no.out j h (by omega)
         clear hin hak no hd LM0
         go_wp2_with fail
         go_quiet (fail)
         go_wp2;exact ⟨⟨n + nq,k + 1,by omega,rfl,by simp,no2⟩,by simp [intOf]; omega⟩
       · rw [hd] at cmp c2;have e8:Hid (stepM d seen (kEsc :: a)=.error 8):=by
          have hm:kEsc ∈ seen:=by
           have:ak=kEsc:=by simpa using hd
           rw [← this,← hak]; exact List.getElem_mem hks
          unfold Hid stepM;simp only [show knownB kEsc=true from rfl];rw [if_neg (by decide),if_pos ⟨by decide,hm⟩]
         clear hin hak no hd
         go_wp2_with fail
         go_quiet (fail)
         go_upto_region 15 with fail
         have LM:Hid (LineM w ((x0.drewN n).drewN nq) d (.slice pf nf cf) (.slice pq mq cq)):=LM0.out.below (below_drewN (below_drewN (Below.refl _ _) _) _);generalize (x0.drewN n).drewN nq=y at *;obtain ⟨dc0,df0⟩:=LM.out.cells.1 0 _ rfl;obtain ⟨dc1,df1⟩:=LM.out.cells.1 1 _ rfl;obtain ⟨dc2,df2⟩:=LM.out.cells.1 2 _ rfl;obtain ⟨dc3,df3⟩:=LM.out.cells.1 3 _ rfl;obtain ⟨dc4,df4⟩:=LM.out.cells.1 4 _ rfl;obtain ⟨dc5,df5⟩:=LM.out.cells.1 5 _ rfl;obtain ⟨dc6,df6⟩:=LM.out.cells.1 6 _ rfl;obtain ⟨dc7,df7⟩:=LM.out.cells.1 7 _ rfl;obtain ⟨dc8,df8⟩:=LM.out.cells.1 8 _ rfl;obtain ⟨dc9,df9⟩:=LM.out.cells.1 9 _ rfl;obtain ⟨dc10,df10⟩:=LM.out.cells.1 10 _ rfl;obtain ⟨dc11,df11⟩:=LM.out.cells.1 11 _ rfl;obtain ⟨zc0,zf0⟩:=LM.out.cells.2 0 _ rfl;obtain ⟨zc1,zf1⟩:=LM.out.cells.2 1 _ rfl;obtain ⟨zc2,zf2⟩:=LM.out.cells.2 2 _ rfl;obtain ⟨zc3,zf3⟩:=LM.out.cells.2 3 _ rfl;obtain ⟨zc4,zf4⟩:=LM.out.cells.2 4 _ rfl;obtain ⟨zc5,zf5⟩:=LM.out.cells.2 5 _ rfl;obtain ⟨zc6,zf6⟩:=LM.out.cells.2 6 _ rfl;obtain ⟨zc7,zf7⟩:=LM.out.cells.2 7 _ rfl;obtain ⟨zc8,zf8⟩:=LM.out.cells.2 8 _ rfl;obtain ⟨zc9,zf9⟩:=LM.out.cells.2 9 _ rfl;obtain ⟨zc10,zf10⟩:=LM.out.cells.2 10 _ rfl;obtain ⟨zc11,zf11⟩:=LM.out.cells.2 11 _ rfl;clear LM0;go_wp2;change bodyPost _ _ _ _ _ (putD y (w.heap.size + 1) d (.slice pf nf cf) (.slice pq mq cq));have pa:=putD_at (y:=y) LM.out.rc d (.slice pf nf cf) (.slice pq mq cq);have pb:=putD_below LM.out.b (show w.heap.size≤w.heap.size + 1 by omega) d (.slice pf nf cf) (.slice pq mq cq);generalize putD y (w.heap.size + 1) d (.slice pf nf cf) (.slice pq mq cq)=yy at *;refine bodyPost_ret (res_dev2 Tryz.results33 rfl rfl pa) rfl ?_;exact ⟨d,pf,nf,cf,pq,mq,cq,by rw [e8.out]; rfl,pb,fun d' hd=>by rw [e8.out] at hd; cases hd⟩
     · obtain rfl:k=sl:=by omega
       have hns:¬ kEsc ∈ seen:=fun hm=>by
        obtain ⟨j,hj,hj2⟩:=List.mem_iff_getElem.1 hm;exact no.out j hj (by have:=hsl2.out; omega) hj2
       have st:Hid (stepM d seen (kEsc :: a)=match updM kEsc a with | none=>.error 6 | some u=>.ok (u d)):=step_nf rfl (by decide) hns;have LM:Hid (LineM w (x0.drewN n) d (.slice pf nf cf) (.slice pq mq cq)):=LM0.out.below (below_drewN (Below.refl _ _) _);have hcy:(x0.drewN n).cell? ⟨g,o,none⟩=some (.string ⟨#[101,115,99,97,112,101]⟩):=hc0;generalize x0.drewN n=y at *;clear LM0 no hns hc0
       by_cases h1:a.length=2
       · obtain ⟨z,t,rfl⟩:=len_two h1;have hc1:y.cell? ⟨g,o + 1,none⟩=some (.string (txt z)):=kp LM.out.b (wi.out 1 (by simp));have hc2:y.cell? ⟨g,o + 2,none⟩=some (.string (txt t)):=kp LM.out.b (wi.out 2 (by simp));have fo1:Hid (∀ w,Calls Tryz.prog 67 #[.string (txt z)] w fun e w'=>e=.returned (.int .i64 (octI z))∧Below w.heap.size w w'):=fun w=>roct_any (txt z) w (by rw [txt_size]; have:=hz.out z (by simp); omega)
         have fo2:Hid (∀ w,Calls Tryz.prog 67 #[.string (txt t)] w fun e w'=>e=.returned (.int .i64 (octI t))∧Below w.heap.size w w'):=fun w=>roct_any (txt t) w (by rw [txt_size]; have:=hz.out t (by simp); omega)
         have hm:updM kEsc [z,t]=(octO z).bind fun (b:Nat)=>Option.map (fun (c:Nat) (d:Dv)=>{ d with es:=(b:Int),mx:=(c:Int) }) (octO t):=rfl
         rw [hm] at st
         cases hO:octO z with
         | none=>
          have eO:octI z=-1:=by unfold octI; rw [hO]
          rw [eO] at fo1;rw [hO] at st;replace st:Hid (stepM d seen [kEsc,z,t]=.error 6):=st
          go_wp2_with fail
          refine (fo1.out _).mono ?_;clear fo1 fo2;rintro e yA ⟨rfl,hb⟩;replace LM:Hid (LineM w yA d (.slice pf nf cf) (.slice pq mq cq)):=LM.out.below hb;replace hcy:yA.cell? ⟨g,o,none⟩=some (.string ⟨#[101,115,99,97,112,101]⟩):=kp hb hcy;replace hc1:yA.cell? ⟨g,o + 1,none⟩=some (.string (txt z)):=kp hb hc1;replace hc2:yA.cell? ⟨g,o + 2,none⟩=some (.string (txt t)):=kp hb hc2;clear hb;obtain ⟨dc0,df0⟩:=LM.out.cells.1 0 _ rfl;obtain ⟨dc1,df1⟩:=LM.out.cells.1 1 _ rfl;obtain ⟨dc2,df2⟩:=LM.out.cells.1 2 _ rfl;obtain ⟨dc3,df3⟩:=LM.out.cells.1 3 _ rfl;obtain ⟨dc4,df4⟩:=LM.out.cells.1 4 _ rfl;obtain ⟨dc5,df5⟩:=LM.out.cells.1 5 _ rfl;obtain ⟨dc6,df6⟩:=LM.out.cells.1 6 _ rfl;obtain ⟨dc7,df7⟩:=LM.out.cells.1 7 _ rfl;obtain ⟨dc8,df8⟩:=LM.out.cells.1 8 _ rfl;obtain ⟨dc9,df9⟩:=LM.out.cells.1 9 _ rfl;obtain ⟨dc10,df10⟩:=LM.out.cells.1 10 _ rfl;obtain ⟨dc11,df11⟩:=LM.out.cells.1 11 _ rfl;obtain ⟨zc0,zf0⟩:=LM.out.cells.2 0 _ rfl;obtain ⟨zc1,zf1⟩:=LM.out.cells.2 1 _ rfl;obtain ⟨zc2,zf2⟩:=LM.out.cells.2 2 _ rfl;obtain ⟨zc3,zf3⟩:=LM.out.cells.2 3 _ rfl;obtain ⟨zc4,zf4⟩:=LM.out.cells.2 4 _ rfl;obtain ⟨zc5,zf5⟩:=LM.out.cells.2 5 _ rfl;obtain ⟨zc6,zf6⟩:=LM.out.cells.2 6 _ rfl;obtain ⟨zc7,zf7⟩:=LM.out.cells.2 7 _ rfl;obtain ⟨zc8,zf8⟩:=LM.out.cells.2 8 _ rfl;obtain ⟨zc9,zf9⟩:=LM.out.cells.2 9 _ rfl;obtain ⟨zc10,zf10⟩:=LM.out.cells.2 10 _ rfl;obtain ⟨zc11,zf11⟩:=LM.out.cells.2 11 _ rfl;go_wp2;change bodyPost _ _ _ _ _ (LineZ w yA d (.slice pf nf cf) (.slice pq mq cq));refine bodyPost_ret (res_dev2 Tryz.results33 rfl rfl LM.out.res) rfl ?_;exact LM.out.quit st.out _ rfl
         | some b=>
          have eO:octI z=(b:Int):=by unfold octI; rw [hO]
          have nb:decide ((b:Int) < 0)=false:=decide_eq_false (by omega);rw [eO] at fo1;rw [hO] at st
          go_wp2_with fail
          refine (fo1.out _).mono ?_;rintro e yA ⟨rfl,hb⟩;replace LM:Hid (LineM w yA d (.slice pf nf cf) (.slice pq mq cq)):=LM.out.below hb;replace hcy:yA.cell? ⟨g,o,none⟩=some (.string ⟨#[101,115,99,97,112,101]⟩):=kp hb hcy;replace hc1:yA.cell? ⟨g,o + 1,none⟩=some (.string (txt z)):=kp hb hc1;replace hc2:yA.cell? ⟨g,o + 2,none⟩=some (.string (txt t)):=kp hb hc2;clear hb
          cases hP:octO t with
          | none=>
           have eP:octI t=-1:=by unfold octI; rw [hP]
           rw [eP] at fo2;rw [hP] at st;replace st:Hid (stepM d seen [kEsc,z,t]=.error 6):=st
           go_wp2_with fail
           refine (fo2.out _).mono ?_;clear fo1 fo2;rintro e yB ⟨rfl,hb⟩;replace LM:Hid (LineM w yB d (.slice pf nf cf) (.slice pq mq cq)):=LM.out.below hb;replace hcy:yB.cell? ⟨g,o,none⟩=some (.string ⟨#[101,115,99,97,112,101]⟩):=kp hb hcy;replace hc1:yB.cell? ⟨g,o + 1,none⟩=some (.string (txt z)):=kp hb hc1;replace hc2:yB.cell? ⟨g,o + 2,none⟩=some (.string (txt t)):=kp hb hc2;clear hb;obtain ⟨dc0,df0⟩:=LM.out.cells.1 0 _ rfl;obtain ⟨dc1,df1⟩:=LM.out.cells.1 1 _ rfl;obtain ⟨dc2,df2⟩:=LM.out.cells.1 2 _ rfl;obtain ⟨dc3,df3⟩:=LM.out.cells.1 3 _ rfl;obtain ⟨dc4,df4⟩:=LM.out.cells.1 4 _ rfl;obtain ⟨dc5,df5⟩:=LM.out.cells.1 5 _ rfl;obtain ⟨dc6,df6⟩:=LM.out.cells.1 6 _ rfl;obtain ⟨dc7,df7⟩:=LM.out.cells.1 7 _ rfl;obtain ⟨dc8,df8⟩:=LM.out.cells.1 8 _ rfl;obtain ⟨dc9,df9⟩:=LM.out.cells.1 9 _ rfl;obtain ⟨dc10,df10⟩:=LM.out.cells.1 10 _ rfl;obtain ⟨dc11,df11⟩:=LM.out.cells.1 11 _ rfl;obtain ⟨zc0,zf0⟩:=LM.out.cells.2 0 _ rfl;obtain ⟨zc1,zf1⟩:=LM.out.cells.2 1 _ rfl;obtain ⟨zc2,zf2⟩:=LM.out.cells.2 2 _ rfl;obtain ⟨zc3,zf3⟩:=LM.out.cells.2 3 _ rfl;obtain ⟨zc4,zf4⟩:=LM.out.cells.2 4 _ rfl;obtain ⟨zc5,zf5⟩:=LM.out.cells.2 5 _ rfl;obtain ⟨zc6,zf6⟩:=LM.out.cells.2 6 _ rfl;obtain ⟨zc7,zf7⟩:=LM.out.cells.2 7 _ rfl;obtain ⟨zc8,zf8⟩:=LM.out.cells.2 8 _ rfl;obtain ⟨zc9,zf9⟩:=LM.out.cells.2 9 _ rfl;obtain ⟨zc10,zf10⟩:=LM.out.cells.2 10 _ rfl;obtain ⟨zc11,zf11⟩:=LM.out.cells.2 11 _ rfl;go_wp2;change bodyPost _ _ _ _ _ (LineZ w yB d (.slice pf nf cf) (.slice pq mq cq));refine bodyPost_ret (res_dev2 Tryz.results33 rfl rfl LM.out.res) rfl ?_;exact LM.out.quit st.out _ rfl
          | some c=>
           have eP:octI t=(c:Int):=by unfold octI; rw [hP]
           have nc:decide ((c:Int) < 0)=false:=decide_eq_false (by omega);rw [eP] at fo2;rw [hP] at st;replace st:Hid (stepM d seen [kEsc,z,t]=.ok { d with es:=(b:Int),mx:=(c:Int) }):=st
           go_wp2_with fail
           refine (fo2.out _).mono ?_;rintro e yB ⟨rfl,hb⟩;replace LM:Hid (LineM w yB d (.slice pf nf cf) (.slice pq mq cq)):=LM.out.below hb;replace hcy:yB.cell? ⟨g,o,none⟩=some (.string ⟨#[101,115,99,97,112,101]⟩):=kp hb hcy;replace hc1:yB.cell? ⟨g,o + 1,none⟩=some (.string (txt z)):=kp hb hc1;replace hc2:yB.cell? ⟨g,o + 2,none⟩=some (.string (txt t)):=kp hb hc2;clear hb
           go_wp2_with fail
           refine (fo1.out _).mono ?_;rintro e yC ⟨rfl,hb⟩;replace LM:Hid (LineM w yC d (.slice pf nf cf) (.slice pq mq cq)):=LM.out.below hb;replace hcy:yC.cell? ⟨g,o,none⟩=some (.string ⟨#[101,115,99,97,112,101]⟩):=kp hb hcy;replace hc1:yC.cell? ⟨g,o + 1,none⟩=some (.string (txt z)):=kp hb hc1;replace hc2:yC.cell? ⟨g,o + 2,none⟩=some (.string (txt t)):=kp hb hc2;clear hb;obtain ⟨dc0,df0⟩:=LM.out.cells.1 0 _ rfl;obtain ⟨dc1,df1⟩:=LM.out.cells.1 1 _ rfl;obtain ⟨dc2,df2⟩:=LM.out.cells.1 2 _ rfl;obtain ⟨dc3,df3⟩:=LM.out.cells.1 3 _ rfl;obtain ⟨dc4,df4⟩:=LM.out.cells.1 4 _ rfl;obtain ⟨dc5,df5⟩:=LM.out.cells.1 5 _ rfl;obtain ⟨dc6,df6⟩:=LM.out.cells.1 6 _ rfl;obtain ⟨dc7,df7⟩:=LM.out.cells.1 7 _ rfl;obtain ⟨dc8,df8⟩:=LM.out.cells.1 8 _ rfl;obtain ⟨dc9,df9⟩:=LM.out.cells.1 9 _ rfl;obtain ⟨dc10,df10⟩:=LM.out.cells.1 10 _ rfl;obtain ⟨dc11,df11⟩:=LM.out.cells.1 11 _ rfl;obtain ⟨zc0,zf0⟩:=LM.out.cells.2 0 _ rfl;obtain ⟨zc1,zf1⟩:=LM.out.cells.2 1 _ rfl;obtain ⟨zc2,zf2⟩:=LM.out.cells.2 2 _ rfl;obtain ⟨zc3,zf3⟩:=LM.out.cells.2 3 _ rfl;obtain ⟨zc4,zf4⟩:=LM.out.cells.2 4 _ rfl;obtain ⟨zc5,zf5⟩:=LM.out.cells.2 5 _ rfl;obtain ⟨zc6,zf6⟩:=LM.out.cells.2 6 _ rfl;obtain ⟨zc7,zf7⟩:=LM.out.cells.2 7 _ rfl;obtain ⟨zc8,zf8⟩:=LM.out.cells.2 8 _ rfl;obtain ⟨zc9,zf9⟩:=LM.out.cells.2 9 _ rfl;obtain ⟨zc10,zf10⟩:=LM.out.cells.2 10 _ rfl;obtain ⟨zc11,zf11⟩:=LM.out.cells.2 11 _ rfl
           go_wp2_with fail
           replace LM:Hid (LineM w (yC.setCell ⟨w.heap.size,2,none⟩ (.int .i64 (b:Int))) { d with es:=(b:Int) } (.slice pf nf cf) (.slice pq mq cq)):=LM.out.set 2 (.int .i64 (b:Int)) rfl;have hne:g ≠ w.heap.size:=by omega
           replace hcy:(yC.setCell ⟨w.heap.size,2,none⟩ (.int .i64 (b:Int))).cell? ⟨g,o,none⟩=some (.string ⟨#[101,115,99,97,112,101]⟩):=(World.cell?_of_block (a:=⟨g,o,none⟩) (Below.heap_setCell _ _ _ _ hne)).trans hcy;replace hc1:(yC.setCell ⟨w.heap.size,2,none⟩ (.int .i64 (b:Int))).cell? ⟨g,o + 1,none⟩=some (.string (txt z)):=(World.cell?_of_block (a:=⟨g,o + 1,none⟩) (Below.heap_setCell _ _ _ _ hne)).trans hc1;replace hc2:(yC.setCell ⟨w.heap.size,2,none⟩ (.int .i64 (b:Int))).cell? ⟨g,o + 2,none⟩=some (.string (txt t)):=(World.cell?_of_block (a:=⟨g,o + 2,none⟩) (Below.heap_setCell _ _ _ _ hne)).trans hc2;clear dc0 dc1 dc2 dc3 dc4 dc5 dc6 dc7 dc8 dc9 dc10 dc11 df0 df1 df2 df3 df4 df5 df6 df7 df8 df9 df10 df11 zc0 zc1 zc2 zc3 zc4 zc5 zc6 zc7 zc8 zc9 zc10 zc11 zf0 zf1 zf2 zf3 zf4 zf5 zf6 zf7 zf8 zf9 zf10 zf11;generalize yC.setCell ⟨w.heap.size,2,none⟩ (.int .i64 (b:Int))=yD at *;refine (fo2.out _).mono ?_;rintro e yE ⟨rfl,hb⟩;replace LM:Hid (LineM w yE { d with es:=(b:Int) } (.slice pf nf cf) (.slice pq mq cq)):=LM.out.below hb;replace hcy:yE.cell? ⟨g,o,none⟩=some (.string ⟨#[101,115,99,97,112,101]⟩):=kp hb hcy;replace hc1:yE.cell? ⟨g,o + 1,none⟩=some (.string (txt z)):=kp hb hc1;replace hc2:yE.cell? ⟨g,o + 2,none⟩=some (.string (txt t)):=kp hb hc2;clear hb;obtain ⟨dc0,df0⟩:=LM.out.cells.1 0 _ rfl;obtain ⟨dc1,df1⟩:=LM.out.cells.1 1 _ rfl;obtain ⟨dc2,df2⟩:=LM.out.cells.1 2 _ rfl;obtain ⟨dc3,df3⟩:=LM.out.cells.1 3 _ rfl;obtain ⟨dc4,df4⟩:=LM.out.cells.1 4 _ rfl;obtain ⟨dc5,df5⟩:=LM.out.cells.1 5 _ rfl;obtain ⟨dc6,df6⟩:=LM.out.cells.1 6 _ rfl;obtain ⟨dc7,df7⟩:=LM.out.cells.1 7 _ rfl;obtain ⟨dc8,df8⟩:=LM.out.cells.1 8 _ rfl;obtain ⟨dc9,df9⟩:=LM.out.cells.1 9 _ rfl;obtain ⟨dc10,df10⟩:=LM.out.cells.1 10 _ rfl;obtain ⟨dc11,df11⟩:=LM.out.cells.1 11 _ rfl;obtain ⟨zc0,zf0⟩:=LM.out.cells.2 0 _ rfl;obtain ⟨zc1,zf1⟩:=LM.out.cells.2 1 _ rfl;obtain ⟨zc2,zf2⟩:=LM.out.cells.2 2 _ rfl;obtain ⟨zc3,zf3⟩:=LM.out.cells.2 3 _ rfl;obtain ⟨zc4,zf4⟩:=LM.out.cells.2 4 _ rfl;obtain ⟨zc5,zf5⟩:=LM.out.cells.2 5 _ rfl;obtain ⟨zc6,zf6⟩:=LM.out.cells.2 6 _ rfl;obtain ⟨zc7,zf7⟩:=LM.out.cells.2 7 _ rfl;obtain ⟨zc8,zf8⟩:=LM.out.cells.2 8 _ rfl;obtain ⟨zc9,zf9⟩:=LM.out.cells.2 9 _ rfl;obtain ⟨zc10,zf10⟩:=LM.out.cells.2 10 _ rfl;obtain ⟨zc11,zf11⟩:=LM.out.cells.2 11 _ rfl;replace LM:Hid (LineM w (yE.setCell ⟨w.heap.size,3,none⟩ (.int .i64 (c:Int))) { d with es:=(b:Int),mx:=(c:Int) } (.slice pf nf cf) (.slice pq mq cq)):=LM.out.set 3 (.int .i64 (c:Int)) rfl;go_wp2;change bodyPost _ _ _ _ _ (LineZ w (yE.setCell ⟨w.heap.size,3,none⟩ (.int .i64 (c:Int))) { d with es:=(b:Int),mx:=(c:Int) } (.slice pf nf cf) (.slice pq mq cq));refine bodyPost_ret (res_dev2 Tryz.results33 rfl rfl LM.out.res) rfl ?_;exact LM.out.done st.out (LM.out.old FQ0.out).1 (LM.out.old FQ0.out).2 (.inl rfl) (.inl rfl)
       · have n2:((a.length:Int) + 1 != 3)=true:=bne_iff_ne.2 (by omega);have hm:updM kEsc a=none:=mEsc_len h1;rw [hm] at st;replace st:Hid (stepM d seen (kEsc :: a)=.error 6):=st;obtain ⟨dc0,df0⟩:=LM.out.cells.1 0 _ rfl;obtain ⟨dc1,df1⟩:=LM.out.cells.1 1 _ rfl;obtain ⟨dc2,df2⟩:=LM.out.cells.1 2 _ rfl;obtain ⟨dc3,df3⟩:=LM.out.cells.1 3 _ rfl;obtain ⟨dc4,df4⟩:=LM.out.cells.1 4 _ rfl;obtain ⟨dc5,df5⟩:=LM.out.cells.1 5 _ rfl;obtain ⟨dc6,df6⟩:=LM.out.cells.1 6 _ rfl;obtain ⟨dc7,df7⟩:=LM.out.cells.1 7 _ rfl;obtain ⟨dc8,df8⟩:=LM.out.cells.1 8 _ rfl;obtain ⟨dc9,df9⟩:=LM.out.cells.1 9 _ rfl;obtain ⟨dc10,df10⟩:=LM.out.cells.1 10 _ rfl;obtain ⟨dc11,df11⟩:=LM.out.cells.1 11 _ rfl;obtain ⟨zc0,zf0⟩:=LM.out.cells.2 0 _ rfl;obtain ⟨zc1,zf1⟩:=LM.out.cells.2 1 _ rfl;obtain ⟨zc2,zf2⟩:=LM.out.cells.2 2 _ rfl;obtain ⟨zc3,zf3⟩:=LM.out.cells.2 3 _ rfl;obtain ⟨zc4,zf4⟩:=LM.out.cells.2 4 _ rfl;obtain ⟨zc5,zf5⟩:=LM.out.cells.2 5 _ rfl;obtain ⟨zc6,zf6⟩:=LM.out.cells.2 6 _ rfl;obtain ⟨zc7,zf7⟩:=LM.out.cells.2 7 _ rfl;obtain ⟨zc8,zf8⟩:=LM.out.cells.2 8 _ rfl;obtain ⟨zc9,zf9⟩:=LM.out.cells.2 9 _ rfl;obtain ⟨zc10,zf10⟩:=LM.out.cells.2 10 _ rfl;obtain ⟨zc11,zf11⟩:=LM.out.cells.2 11 _ rfl;go_wp2;change bodyPost _ _ _ _ _ (LineZ w y d (.slice pf nf cf) (.slice pq mq cq));refine bodyPost_ret (res_dev2 Tryz.results33 rfl rfl LM.out.res) rfl ?_;exact LM.out.quit st.out _ rfl
theorem line_siz (a:List Wd) (d:Dv) (pf:Option Addr) (nf cf:Nat) (pq:Option Addr) (mq cq:Nat) (g o cap:Nat) (w:World) (hi:StrsIn w g o (kSiz :: a)) (hgw:g < w.heap.size) (hl:(a.length:Int)≤5000) (hz:∀ z ∈ a,(z.length:Int)≤5000) (ps:Option Addr) (cs:Nat) (seen:List Wd) (hs:StrsAt w (.slice ps seen.length cs) seen) (hsl:(seen.length:Int)≤5000) (hfl:FldsAt w (.slice pf nf cf) d.fs) (hrq:BytesAt w (.slice pq mq cq) d.rq) :
 Calls Tryz.prog 33 #[dvV d (.slice pf nf cf) (.slice pq mq cq),.slice (some ⟨g,o,none⟩) (a.length + 1) cap,.slice ps seen.length cs] w (LineQ w d (.slice pf nf cf) (.slice pq mq cq) seen (kSiz :: a)):=by
 have m0:=lineM_first w d (.slice pf nf cf) (.slice pq mq cq);have n0:((a.length:Int) + 1 == 0)=false:=beq_eq_false_iff_ne.2 (by omega);have FQ0:Hid (FldsAt w (.slice pf nf cf) d.fs∧BytesAt w (.slice pq mq cq) d.rq):=⟨hfl,hrq⟩;have wi:Hid (StrsIn w g o (kSiz :: a)):=hi;replace hs:Hid (StrsAt w (.slice ps seen.length cs) seen):=hs;replace hz:Hid (∀ z ∈ a,(z.length:Int)≤5000):=hz;obtain ⟨sl,hsl2⟩:∃ sl,seen.length=sl:=⟨_,rfl⟩;rw [hsl2] at hs hsl ⊢;replace hsl2:Hid (seen.length=sl):=hsl2;clear hfl hrq hi
 go_enter Tryz.func33,Tryz.ntmps33
 go_upto_region 5 with fail
 change Code.wp Tryz.prog _ _ _ (LineW w d (.slice pf nf cf) (.slice pq mq cq));have LM0:Hid (LineM w (LineW w d (.slice pf nf cf) (.slice pq mq cq)) d (.slice pf nf cf) (.slice pq mq cq)):=m0.1;have lc0:Hid (∀ (i:Nat) (h:i < 11),(LineW w d (.slice pf nf cf) (.slice pq mq cq)).cell? ⟨w.heap.size + 1 + 1,i,none⟩=some (.string (txt (allK[i]'h)))):=fun i h=>(rd_cell m0.2 i).1.trans (allC_at i h)
 have hc0:(LineW w d (.slice pf nf cf) (.slice pq mq cq)).cell? ⟨g,o,none⟩=some (.string ⟨#[115,105,122,101]⟩):=kp m0.1.b (wi.out 0 (by simp));clear m0;generalize LineW w d (.slice pf nf cf) (.slice pq mq cq)=x0 at *;go_wp2
 go_loopw [8,10] (fun vk vi wr=>∃ n k:Nat,(k:Int)≤11∧wr=x0.drewN n∧vi=.int .i64 (k:Int)∧vk=.bool (decide (kSiz ∈ allK.take k))) (fun vk vi wr=>(11 - intOf vi).toNat)
 case atStart=>exact ⟨0,0,by omega,rfl,rfl,by simp⟩
 case round=>
  obtain ⟨n,k,hk11,rfl,rfl,rfl⟩:=hrel
  by_cases hlt:k < 11
  · have hki:(k:Int) < 11:=by omega
    have st:=allK_step kSiz k hlt;have l1:=lc0.out k hlt;have wk:IntKind.i64.wrap ((k:Int) + 1)=(k:Int) + 1:=by simp only [IntKind.wrap_i64]; omega
    have cmp:(txt (allK[k]'hlt) == ⟨#[115,105,122,101]⟩)=decide (allK[k]'hlt=kSiz):=txt_beq _ kSiz;generalize allK[k]'hlt=ak at *;clear lc0 LM0
    cases hd:decide (kSiz ∈ allK.take k)
    · rw [hd,Bool.false_or] at st;have c2:((txt ak).toList == [115,105,122,101])=decide (ak=kSiz):=by
       rw [Bool.eq_iff_iff,decide_eq_true_iff,beq_iff_eq,ByteArray.toList_eq];exact ⟨fun h=>h,fun h=>by rw [h]; rfl⟩
      generalize decide (ak=kSiz)=R at *
      go_wp2_with fail
      go_quiet (fail)
      go_wp2;exact ⟨⟨n + nq,k + 1,by omega,rfl,by simp,by rw [st]⟩,by simp [intOf]; omega⟩
    · rw [hd,Bool.true_or] at st
      go_wp2_with fail
      go_quiet (fail)
      go_wp2;exact ⟨⟨n + nq,k + 1,by omega,rfl,by simp,by rw [st]⟩,by simp [intOf]; omega⟩
  · obtain rfl:k=11:=by omega
    rw [allK_mem,show knownB kSiz=true from rfl];clear lc0;go_wp2
    go_loopw [11] (fun vi wr=>∃ n k:Nat,(k:Int)≤(sl:Int)∧wr=x0.drewN n∧vi=.int .i64 (k:Int)∧Hid (∀ j (h:j < seen.length),j < k→¬ seen[j]=kSiz)) (fun vi wr=>((sl:Int) - intOf vi).toNat)
    case atStart=>exact ⟨n,0,by omega,rfl,rfl,fun j _ h=>(by cases h)⟩
    case round=>
     obtain ⟨n,k,hk,rfl,rfl,no⟩:=hrel
     by_cases hlt:k < sl
     · have hki:(k:Int) < (sl:Int):=by omega
       have hks:k < seen.length:=by have:=hsl2.out; omega
       rcases hs.out with ⟨_,hnil⟩ | ⟨gs,os,cs',e1,hin,hgs⟩
       · rw [hnil] at hks; cases hks
       injection e1 with e1 e2 e3
       subst e1;subst e3;clear e2;have l1:=kp LM0.out.b (hin k hks);have wk:IntKind.i64.wrap ((k:Int) + 1)=(k:Int) + 1:=by simp only [IntKind.wrap_i64]; omega
       obtain ⟨ak,hak⟩:∃ ak,seen[k]=ak:=⟨_,rfl⟩;rw [hak] at l1;have cmp:(txt ak == ⟨#[115,105,122,101]⟩)=decide (ak=kSiz):=txt_beq _ kSiz;have c2:((txt ak).toList == [115,105,122,101])=decide (ak=kSiz):=by
        rw [Bool.eq_iff_iff,decide_eq_true_iff,beq_iff_eq,ByteArray.toList_eq];exact ⟨fun h=>h,fun h=>by rw [h]; rfl⟩
       cases hd:decide (ak=kSiz)
       · rw [hd] at cmp c2;have no2:Hid (∀ j (h:j < seen.length),j < k + 1→¬ seen[j]=kSiz):=fun j h hj=>by
          by_cases hjk:j=k
          · subst hjk; rw [hak]; simpa using hd
          · exact no.out j h (by omega)
         clear hin hak no hd LM0
         go_wp2_with fail
         go_quiet (fail)
         go_wp2;exact ⟨⟨n + nq,k + 1,by omega,rfl,by simp,no2⟩,by simp [intOf]; omega⟩
       · rw [hd] at cmp c2;have e8:Hid (stepM d seen (kSiz :: a)=.error 8):=by
          have hm:kSiz ∈ seen:=by
           have:ak=kSiz:=by simpa using hd
           rw [← this,← hak]; exact List.getElem_mem hks
          unfold Hid stepM;simp only [show knownB kSiz=true from rfl];rw [if_neg (by decide),if_pos ⟨by decide,hm⟩]
         clear hin hak no hd
         go_wp2_with fail
         go_quiet (fail)
         go_upto_region 15 with fail
         have LM:Hid (LineM w ((x0.drewN n).drewN nq) d (.slice pf nf cf) (.slice pq mq cq)):=LM0.out.below (below_drewN (below_drewN (Below.refl _ _) _) _);generalize (x0.drewN n).drewN nq=y at *;obtain ⟨dc0,df0⟩:=LM.out.cells.1 0 _ rfl;obtain ⟨dc1,df1⟩:=LM.out.cells.1 1 _ rfl;obtain ⟨dc2,df2⟩:=LM.out.cells.1 2 _ rfl;obtain ⟨dc3,df3⟩:=LM.out.cells.1 3 _ rfl;obtain ⟨dc4,df4⟩:=LM.out.cells.1 4 _ rfl;obtain ⟨dc5,df5⟩:=LM.out.cells.1 5 _ rfl;obtain ⟨dc6,df6⟩:=LM.out.cells.1 6 _ rfl;obtain ⟨dc7,df7⟩:=LM.out.cells.1 7 _ rfl;obtain ⟨dc8,df8⟩:=LM.out.cells.1 8 _ rfl;obtain ⟨dc9,df9⟩:=LM.out.cells.1 9 _ rfl;obtain ⟨dc10,df10⟩:=LM.out.cells.1 10 _ rfl;obtain ⟨dc11,df11⟩:=LM.out.cells.1 11 _ rfl;obtain ⟨zc0,zf0⟩:=LM.out.cells.2 0 _ rfl;obtain ⟨zc1,zf1⟩:=LM.out.cells.2 1 _ rfl;obtain ⟨zc2,zf2⟩:=LM.out.cells.2 2 _ rfl;obtain ⟨zc3,zf3⟩:=LM.out.cells.2 3 _ rfl;obtain ⟨zc4,zf4⟩:=LM.out.cells.2 4 _ rfl;obtain ⟨zc5,zf5⟩:=LM.out.cells.2 5 _ rfl;obtain ⟨zc6,zf6⟩:=LM.out.cells.2 6 _ rfl;obtain ⟨zc7,zf7⟩:=LM.out.cells.2 7 _ rfl;obtain ⟨zc8,zf8⟩:=LM.out.cells.2 8 _ rfl;obtain ⟨zc9,zf9⟩:=LM.out.cells.2 9 _ rfl;obtain ⟨zc10,zf10⟩:=LM.out.cells.2 10 _ rfl;obtain ⟨zc11,zf11⟩:=LM.out.cells.2 11 _ rfl;clear LM0;go_wp2;change bodyPost _ _ _ _ _ (putD y (w.heap.size + 1) d (.slice pf nf cf) (.slice pq mq cq));have pa:=putD_at (y:=y) LM.out.rc d (.slice pf nf cf) (.slice pq mq cq);have pb:=putD_below LM.out.b (show w.heap.size≤w.heap.size + 1 by omega) d (.slice pf nf cf) (.slice pq mq cq);generalize putD y (w.heap.size + 1) d (.slice pf nf cf) (.slice pq mq cq)=yy at *;refine bodyPost_ret (res_dev2 Tryz.results33 rfl rfl pa) rfl ?_;exact ⟨d,pf,nf,cf,pq,mq,cq,by rw [e8.out]; rfl,pb,fun d' hd=>by rw [e8.out] at hd; cases hd⟩
     · obtain rfl:k=sl:=by omega
       have hns:¬ kSiz ∈ seen:=fun hm=>by
        obtain ⟨j,hj,hj2⟩:=List.mem_iff_getElem.1 hm;exact no.out j hj (by have:=hsl2.out; omega) hj2
       have st:Hid (stepM d seen (kSiz :: a)=match updM kSiz a with | none=>.error 6 | some u=>.ok (u d)):=step_nf rfl (by decide) hns;have LM:Hid (LineM w (x0.drewN n) d (.slice pf nf cf) (.slice pq mq cq)):=LM0.out.below (below_drewN (Below.refl _ _) _);have hcy:(x0.drewN n).cell? ⟨g,o,none⟩=some (.string ⟨#[115,105,122,101]⟩):=hc0;generalize x0.drewN n=y at *;obtain ⟨dc0,df0⟩:=LM.out.cells.1 0 _ rfl;obtain ⟨dc1,df1⟩:=LM.out.cells.1 1 _ rfl;obtain ⟨dc2,df2⟩:=LM.out.cells.1 2 _ rfl;obtain ⟨dc3,df3⟩:=LM.out.cells.1 3 _ rfl;obtain ⟨dc4,df4⟩:=LM.out.cells.1 4 _ rfl;obtain ⟨dc5,df5⟩:=LM.out.cells.1 5 _ rfl;obtain ⟨dc6,df6⟩:=LM.out.cells.1 6 _ rfl;obtain ⟨dc7,df7⟩:=LM.out.cells.1 7 _ rfl;obtain ⟨dc8,df8⟩:=LM.out.cells.1 8 _ rfl;obtain ⟨dc9,df9⟩:=LM.out.cells.1 9 _ rfl;obtain ⟨dc10,df10⟩:=LM.out.cells.1 10 _ rfl;obtain ⟨dc11,df11⟩:=LM.out.cells.1 11 _ rfl;obtain ⟨zc0,zf0⟩:=LM.out.cells.2 0 _ rfl;obtain ⟨zc1,zf1⟩:=LM.out.cells.2 1 _ rfl;obtain ⟨zc2,zf2⟩:=LM.out.cells.2 2 _ rfl;obtain ⟨zc3,zf3⟩:=LM.out.cells.2 3 _ rfl;obtain ⟨zc4,zf4⟩:=LM.out.cells.2 4 _ rfl;obtain ⟨zc5,zf5⟩:=LM.out.cells.2 5 _ rfl;obtain ⟨zc6,zf6⟩:=LM.out.cells.2 6 _ rfl;obtain ⟨zc7,zf7⟩:=LM.out.cells.2 7 _ rfl;obtain ⟨zc8,zf8⟩:=LM.out.cells.2 8 _ rfl;obtain ⟨zc9,zf9⟩:=LM.out.cells.2 9 _ rfl;obtain ⟨zc10,zf10⟩:=LM.out.cells.2 10 _ rfl;obtain ⟨zc11,zf11⟩:=LM.out.cells.2 11 _ rfl;clear LM0 no hns hc0
       by_cases h1:a.length=1
       · obtain ⟨z,rfl⟩:=len_one h1;have hc1:y.cell? ⟨g,o + 1,none⟩=some (.string (txt z)):=kp LM.out.b (wi.out 1 (by simp));have hz5:=hz.out z (by simp);have fn:Hid (∀ w,Calls Tryz.prog 65 #[.string (txt z),.int .i64 1,.int .i64 32] w fun e w'=>e=.returned (.tuple #[.int .i64 (numV z 1 32),.bool (numB z 1 32)])∧w'=w):=fun w=>rnum_any (txt z) w (by rw [txt_size]; unfold maxLen; omega) _ _
         have hm:updM kSiz [z]=if numB z 1 32=true then some (fun d=>{ d with sz:=readV z }) else none:=rfl;rw [hm] at st
         cases hN:numB z 1 32
         · rw [hN] at fn st;replace st:Hid (stepM d seen [kSiz,z]=.error 6):=st;generalize numV z 1 32=V at *
           go_wp2_with fail
           refine (fn.out _).mono ?_;rintro e yA ⟨rfl,rfl⟩;clear fn;go_wp2;change bodyPost _ _ _ _ _ (putD yA (w.heap.size + 1) d (.slice pf nf cf) (.slice pq mq cq));have pa:=putD_at (y:=yA) LM.out.rc d (.slice pf nf cf) (.slice pq mq cq);have pb:=putD_below LM.out.b (show w.heap.size≤w.heap.size + 1 by omega) d (.slice pf nf cf) (.slice pq mq cq);generalize putD yA (w.heap.size + 1) d (.slice pf nf cf) (.slice pq mq cq)=yy at *;refine bodyPost_ret (res_dev2 Tryz.results33 rfl rfl pa) rfl ?_;exact ⟨d,pf,nf,cf,pq,mq,cq,by rw [st.out]; rfl,pb,fun d' hd=>by rw [st.out] at hd; cases hd⟩
         · have nv:numV z 1 32=readV z:=by unfold numV; rw [if_pos hN]
           rw [hN,nv] at fn;rw [hN] at st;replace st:Hid (stepM d seen [kSiz,z]=.ok { d with sz:=readV z }):=st
           go_wp2_with fail
           refine (fn.out _).mono ?_;rintro e yA ⟨rfl,rfl⟩;clear fn;go_wp2;have LR:(yA.setCell ⟨w.heap.size,4,none⟩ (.int .i64 (readV z))).heap[w.heap.size + 1]?=some (.cells dz 25 (0,0)):=(Below.heap_setCell _ _ _ _ (show w.heap.size + 1 ≠ w.heap.size by omega)).trans LM.out.rc;have LB:Below w.heap.size w (yA.setCell ⟨w.heap.size,4,none⟩ (.int .i64 (readV z))):=LM.out.b.setCell (p:=⟨w.heap.size,4,none⟩) (Nat.le_refl _) _;generalize (yA.setCell ⟨w.heap.size,4,none⟩ (.int .i64 (readV z)))=y2 at *;change bodyPost _ _ _ _ _ (put12 y2 (w.heap.size + 1) (.string (txt d.nm)) (.int .i64 d.st) (.int .i64 d.es) (.int .i64 d.mx) (.int .i64 (readV z)) (.string (txt d.sm)) (.slice pf nf cf) (.slice pq mq cq) (.int .i64 d.po) (.int .i64 d.ti) (.int .i64 d.re) (.int .i64 d.ag));have pa:=put12_at (y:=y2) LR (.string (txt d.nm)) (.int .i64 d.st) (.int .i64 d.es) (.int .i64 d.mx) (.int .i64 (readV z)) (.string (txt d.sm)) (.slice pf nf cf) (.slice pq mq cq) (.int .i64 d.po) (.int .i64 d.ti) (.int .i64 d.re) (.int .i64 d.ag);have pb:=put12_below LB (show w.heap.size≤w.heap.size + 1 by omega) (.string (txt d.nm)) (.int .i64 d.st) (.int .i64 d.es) (.int .i64 d.mx) (.int .i64 (readV z)) (.string (txt d.sm)) (.slice pf nf cf) (.slice pq mq cq) (.int .i64 d.po) (.int .i64 d.ti) (.int .i64 d.re) (.int .i64 d.ag);have FQ2:=fq_put FQ0.out LB (show w.heap.size≤w.heap.size + 1 by omega) (.string (txt d.nm)) (.int .i64 d.st) (.int .i64 d.es) (.int .i64 d.mx) (.int .i64 (readV z)) (.string (txt d.sm)) (.slice pf nf cf) (.slice pq mq cq) (.int .i64 d.po) (.int .i64 d.ti) (.int .i64 d.re) (.int .i64 d.ag);generalize put12 y2 (w.heap.size + 1) (.string (txt d.nm)) (.int .i64 d.st) (.int .i64 d.es) (.int .i64 d.mx) (.int .i64 (readV z)) (.string (txt d.sm)) (.slice pf nf cf) (.slice pq mq cq) (.int .i64 d.po) (.int .i64 d.ti) (.int .i64 d.re) (.int .i64 d.ag)=yy at *;refine bodyPost_ret (res_dev2 Tryz.results33 rfl rfl pa) rfl ?_;refine ⟨{ d with sz:=readV z },pf,nf,cf,pq,mq,cq,by rw [st.out]; rfl,pb,fun d' hd=>?_⟩;rw [st.out] at hd
           cases hd
           exact ⟨rfl,FQ2.1,FQ2.2,.inl rfl,.inl rfl⟩
       · have n2:((a.length:Int) + 1 != 2)=true:=bne_iff_ne.2 (by omega);have hm:updM kSiz a=none:=(upd_siz a).trans (mNum_len h1 _ _ _);rw [hm] at st;replace st:Hid (stepM d seen (kSiz :: a)=.error 6):=st;go_wp2;change bodyPost _ _ _ _ _ (putD y (w.heap.size + 1) d (.slice pf nf cf) (.slice pq mq cq));have pa:=putD_at (y:=y) LM.out.rc d (.slice pf nf cf) (.slice pq mq cq);have pb:=putD_below LM.out.b (show w.heap.size≤w.heap.size + 1 by omega) d (.slice pf nf cf) (.slice pq mq cq);generalize putD y (w.heap.size + 1) d (.slice pf nf cf) (.slice pq mq cq)=yy at *;refine bodyPost_ret (res_dev2 Tryz.results33 rfl rfl pa) rfl ?_;exact ⟨d,pf,nf,cf,pq,mq,cq,by rw [st.out]; rfl,pb,fun d' hd=>by rw [st.out] at hd; cases hd⟩
theorem line_sum (a:List Wd) (d:Dv) (pf:Option Addr) (nf cf:Nat) (pq:Option Addr) (mq cq:Nat) (g o cap:Nat) (w:World) (hi:StrsIn w g o (kSum :: a)) (hgw:g < w.heap.size) (hl:(a.length:Int)≤5000) (hz:∀ z ∈ a,(z.length:Int)≤5000) (ps:Option Addr) (cs:Nat) (seen:List Wd) (hs:StrsAt w (.slice ps seen.length cs) seen) (hsl:(seen.length:Int)≤5000) (hfl:FldsAt w (.slice pf nf cf) d.fs) (hrq:BytesAt w (.slice pq mq cq) d.rq) :
 Calls Tryz.prog 33 #[dvV d (.slice pf nf cf) (.slice pq mq cq),.slice (some ⟨g,o,none⟩) (a.length + 1) cap,.slice ps seen.length cs] w (LineQ w d (.slice pf nf cf) (.slice pq mq cq) seen (kSum :: a)):=by
 have m0:=lineM_first w d (.slice pf nf cf) (.slice pq mq cq);have n0:((a.length:Int) + 1 == 0)=false:=beq_eq_false_iff_ne.2 (by omega);have FQ0:Hid (FldsAt w (.slice pf nf cf) d.fs∧BytesAt w (.slice pq mq cq) d.rq):=⟨hfl,hrq⟩;have wi:Hid (StrsIn w g o (kSum :: a)):=hi;replace hs:Hid (StrsAt w (.slice ps seen.length cs) seen):=hs;replace hz:Hid (∀ z ∈ a,(z.length:Int)≤5000):=hz;obtain ⟨sl,hsl2⟩:∃ sl,seen.length=sl:=⟨_,rfl⟩;rw [hsl2] at hs hsl ⊢;replace hsl2:Hid (seen.length=sl):=hsl2;clear hfl hrq hi
 go_enter Tryz.func33,Tryz.ntmps33
 go_upto_region 5 with fail
 change Code.wp Tryz.prog _ _ _ (LineW w d (.slice pf nf cf) (.slice pq mq cq));have LM0:Hid (LineM w (LineW w d (.slice pf nf cf) (.slice pq mq cq)) d (.slice pf nf cf) (.slice pq mq cq)):=m0.1;have lc0:Hid (∀ (i:Nat) (h:i < 11),(LineW w d (.slice pf nf cf) (.slice pq mq cq)).cell? ⟨w.heap.size + 1 + 1,i,none⟩=some (.string (txt (allK[i]'h)))):=fun i h=>(rd_cell m0.2 i).1.trans (allC_at i h)
 have hc0:(LineW w d (.slice pf nf cf) (.slice pq mq cq)).cell? ⟨g,o,none⟩=some (.string ⟨#[115,117,109]⟩):=kp m0.1.b (wi.out 0 (by simp));clear m0;generalize LineW w d (.slice pf nf cf) (.slice pq mq cq)=x0 at *;go_wp2
 go_loopw [8,10] (fun vk vi wr=>∃ n k:Nat,(k:Int)≤11∧wr=x0.drewN n∧vi=.int .i64 (k:Int)∧vk=.bool (decide (kSum ∈ allK.take k))) (fun vk vi wr=>(11 - intOf vi).toNat)
 case atStart=>exact ⟨0,0,by omega,rfl,rfl,by simp⟩
 case round=>
  obtain ⟨n,k,hk11,rfl,rfl,rfl⟩:=hrel
  by_cases hlt:k < 11
  · have hki:(k:Int) < 11:=by omega
    have st:=allK_step kSum k hlt;have l1:=lc0.out k hlt;have wk:IntKind.i64.wrap ((k:Int) + 1)=(k:Int) + 1:=by simp only [IntKind.wrap_i64]; omega
    have cmp:(txt (allK[k]'hlt) == ⟨#[115,117,109]⟩)=decide (allK[k]'hlt=kSum):=txt_beq _ kSum;generalize allK[k]'hlt=ak at *;clear lc0 LM0
    cases hd:decide (kSum ∈ allK.take k)
    · rw [hd,Bool.false_or] at st;have c2:((txt ak).toList == [115,117,109])=decide (ak=kSum):=by
       rw [Bool.eq_iff_iff,decide_eq_true_iff,beq_iff_eq,ByteArray.toList_eq];exact ⟨fun h=>h,fun h=>by rw [h]; rfl⟩
      generalize decide (ak=kSum)=R at *
      go_wp2_with fail
      go_quiet (fail)
      go_wp2;exact ⟨⟨n + nq,k + 1,by omega,rfl,by simp,by rw [st]⟩,by simp [intOf]; omega⟩
    · rw [hd,Bool.true_or] at st
      go_wp2_with fail
      go_quiet (fail)
      go_wp2;exact ⟨⟨n + nq,k + 1,by omega,rfl,by simp,by rw [st]⟩,by simp [intOf]; omega⟩
  · obtain rfl:k=11:=by omega
    rw [allK_mem,show knownB kSum=true from rfl];clear lc0;go_wp2
    go_loopw [11] (fun vi wr=>∃ n k:Nat,(k:Int)≤(sl:Int)∧wr=x0.drewN n∧vi=.int .i64 (k:Int)∧Hid (∀ j (h:j < seen.length),j < k→¬ seen[j]=kSum)) (fun vi wr=>((sl:Int) - intOf vi).toNat)
    case atStart=>exact ⟨n,0,by omega,rfl,rfl,fun j _ h=>(by cases h)⟩
    case round=>
     obtain ⟨n,k,hk,rfl,rfl,no⟩:=hrel
     by_cases hlt:k < sl
     · have hki:(k:Int) < (sl:Int):=by omega
       have hks:k < seen.length:=by have:=hsl2.out; omega
       rcases hs.out with ⟨_,hnil⟩ | ⟨gs,os,cs',e1,hin,hgs⟩
       · rw [hnil] at hks; cases hks
       injection e1 with e1 e2 e3
       subst e1;subst e3;clear e2;have l1:=kp LM0.out.b (hin k hks);have wk:IntKind.i64.wrap ((k:Int) + 1)=(k:Int) + 1:=by simp only [IntKind.wrap_i64]; omega
       obtain ⟨ak,hak⟩:∃ ak,seen[k]=ak:=⟨_,rfl⟩;rw [hak] at l1;have cmp:(txt ak == ⟨#[115,117,109]⟩)=decide (ak=kSum):=txt_beq _ kSum;have c2:((txt ak).toList == [115,117,109])=decide (ak=kSum):=by
        rw [Bool.eq_iff_iff,decide_eq_true_iff,beq_iff_eq,ByteArray.toList_eq];exact ⟨fun h=>h,fun h=>by rw [h]; rfl⟩
       cases hd:decide (ak=kSum)
       · rw [hd] at cmp c2;have no2:Hid (∀ j (h:j < seen.length),j < k + 1→¬ seen[j]=kSum):=fun j h hj=>by
          by_cases hjk:j=k
          · subst hjk; rw [hak]; simpa using hd
          · exact no.out j h (by omega)
         clear hin hak no hd LM0
         go_wp2_with fail
         go_quiet (fail)
         go_wp2;exact ⟨⟨n + nq,k + 1,by omega,rfl,by simp,no2⟩,by simp [intOf]; omega⟩
       · rw [hd] at cmp c2;have e8:Hid (stepM d seen (kSum :: a)=.error 8):=by
          have hm:kSum ∈ seen:=by
           have:ak=kSum:=by simpa using hd
           rw [← this,← hak]; exact List.getElem_mem hks
          unfold Hid stepM;simp only [show knownB kSum=true from rfl];rw [if_neg (by decide),if_pos ⟨by decide,hm⟩]
         clear hin hak no hd
         go_wp2_with fail
         go_quiet (fail)
         go_upto_region 15 with fail
         have LM:Hid (LineM w ((x0.drewN n).drewN nq) d (.slice pf nf cf) (.slice pq mq cq)):=LM0.out.below (below_drewN (below_drewN (Below.refl _ _) _) _);generalize (x0.drewN n).drewN nq=y at *;obtain ⟨dc0,df0⟩:=LM.out.cells.1 0 _ rfl;obtain ⟨dc1,df1⟩:=LM.out.cells.1 1 _ rfl;obtain ⟨dc2,df2⟩:=LM.out.cells.1 2 _ rfl;obtain ⟨dc3,df3⟩:=LM.out.cells.1 3 _ rfl;obtain ⟨dc4,df4⟩:=LM.out.cells.1 4 _ rfl;obtain ⟨dc5,df5⟩:=LM.out.cells.1 5 _ rfl;obtain ⟨dc6,df6⟩:=LM.out.cells.1 6 _ rfl;obtain ⟨dc7,df7⟩:=LM.out.cells.1 7 _ rfl;obtain ⟨dc8,df8⟩:=LM.out.cells.1 8 _ rfl;obtain ⟨dc9,df9⟩:=LM.out.cells.1 9 _ rfl;obtain ⟨dc10,df10⟩:=LM.out.cells.1 10 _ rfl;obtain ⟨dc11,df11⟩:=LM.out.cells.1 11 _ rfl;obtain ⟨zc0,zf0⟩:=LM.out.cells.2 0 _ rfl;obtain ⟨zc1,zf1⟩:=LM.out.cells.2 1 _ rfl;obtain ⟨zc2,zf2⟩:=LM.out.cells.2 2 _ rfl;obtain ⟨zc3,zf3⟩:=LM.out.cells.2 3 _ rfl;obtain ⟨zc4,zf4⟩:=LM.out.cells.2 4 _ rfl;obtain ⟨zc5,zf5⟩:=LM.out.cells.2 5 _ rfl;obtain ⟨zc6,zf6⟩:=LM.out.cells.2 6 _ rfl;obtain ⟨zc7,zf7⟩:=LM.out.cells.2 7 _ rfl;obtain ⟨zc8,zf8⟩:=LM.out.cells.2 8 _ rfl;obtain ⟨zc9,zf9⟩:=LM.out.cells.2 9 _ rfl;obtain ⟨zc10,zf10⟩:=LM.out.cells.2 10 _ rfl;obtain ⟨zc11,zf11⟩:=LM.out.cells.2 11 _ rfl;clear LM0;go_wp2;change bodyPost _ _ _ _ _ (putD y (w.heap.size + 1) d (.slice pf nf cf) (.slice pq mq cq));have pa:=putD_at (y:=y) LM.out.rc d (.slice pf nf cf) (.slice pq mq cq);have pb:=putD_below LM.out.b (show w.heap.size≤w.heap.size + 1 by omega) d (.slice pf nf cf) (.slice pq mq cq);generalize putD y (w.heap.size + 1) d (.slice pf nf cf) (.slice pq mq cq)=yy at *;refine bodyPost_ret (res_dev2 Tryz.results33 rfl rfl pa) rfl ?_;exact ⟨d,pf,nf,cf,pq,mq,cq,by rw [e8.out]; rfl,pb,fun d' hd=>by rw [e8.out] at hd; cases hd⟩
     · obtain rfl:k=sl:=by omega
       have hns:¬ kSum ∈ seen:=fun hm=>by
        obtain ⟨j,hj,hj2⟩:=List.mem_iff_getElem.1 hm;exact no.out j hj (by have:=hsl2.out; omega) hj2
       have st:Hid (stepM d seen (kSum :: a)=match updM kSum a with | none=>.error 6 | some u=>.ok (u d)):=step_nf rfl (by decide) hns;have LM:Hid (LineM w (x0.drewN n) d (.slice pf nf cf) (.slice pq mq cq)):=LM0.out.below (below_drewN (Below.refl _ _) _);have hcy:(x0.drewN n).cell? ⟨g,o,none⟩=some (.string ⟨#[115,117,109]⟩):=hc0;generalize x0.drewN n=y at *;obtain ⟨dc0,df0⟩:=LM.out.cells.1 0 _ rfl;obtain ⟨dc1,df1⟩:=LM.out.cells.1 1 _ rfl;obtain ⟨dc2,df2⟩:=LM.out.cells.1 2 _ rfl;obtain ⟨dc3,df3⟩:=LM.out.cells.1 3 _ rfl;obtain ⟨dc4,df4⟩:=LM.out.cells.1 4 _ rfl;obtain ⟨dc5,df5⟩:=LM.out.cells.1 5 _ rfl;obtain ⟨dc6,df6⟩:=LM.out.cells.1 6 _ rfl;obtain ⟨dc7,df7⟩:=LM.out.cells.1 7 _ rfl;obtain ⟨dc8,df8⟩:=LM.out.cells.1 8 _ rfl;obtain ⟨dc9,df9⟩:=LM.out.cells.1 9 _ rfl;obtain ⟨dc10,df10⟩:=LM.out.cells.1 10 _ rfl;obtain ⟨dc11,df11⟩:=LM.out.cells.1 11 _ rfl;obtain ⟨zc0,zf0⟩:=LM.out.cells.2 0 _ rfl;obtain ⟨zc1,zf1⟩:=LM.out.cells.2 1 _ rfl;obtain ⟨zc2,zf2⟩:=LM.out.cells.2 2 _ rfl;obtain ⟨zc3,zf3⟩:=LM.out.cells.2 3 _ rfl;obtain ⟨zc4,zf4⟩:=LM.out.cells.2 4 _ rfl;obtain ⟨zc5,zf5⟩:=LM.out.cells.2 5 _ rfl;obtain ⟨zc6,zf6⟩:=LM.out.cells.2 6 _ rfl;obtain ⟨zc7,zf7⟩:=LM.out.cells.2 7 _ rfl;obtain ⟨zc8,zf8⟩:=LM.out.cells.2 8 _ rfl;obtain ⟨zc9,zf9⟩:=LM.out.cells.2 9 _ rfl;obtain ⟨zc10,zf10⟩:=LM.out.cells.2 10 _ rfl;obtain ⟨zc11,zf11⟩:=LM.out.cells.2 11 _ rfl;clear LM0 no hns hc0
       by_cases h1:a.length=1
       · obtain ⟨z,rfl⟩:=len_one h1;have hc1:y.cell? ⟨g,o + 1,none⟩=some (.string (txt z)):=kp LM.out.b (wi.out 1 (by simp));have fn:Hid (∀ w,Calls Tryz.prog 25 #[.string (txt z)] w fun e w'=>e=.returned (.bool (nameB z))∧w'=w):=fun w=>rname_any (txt z) w
         have hm:updM kSum [z]=if nameB z=true then some (fun d=>{ d with sm:=z }) else none:=rfl;rw [hm] at st
         cases hN:nameB z
         · rw [hN] at fn st;replace st:Hid (stepM d seen [kSum,z]=.error 6):=st
           go_wp2_with fail
           refine (fn.out _).mono ?_;rintro e yA ⟨rfl,rfl⟩;clear fn;go_wp2;change bodyPost _ _ _ _ _ (putD yA (w.heap.size + 1) d (.slice pf nf cf) (.slice pq mq cq));have pa:=putD_at (y:=yA) LM.out.rc d (.slice pf nf cf) (.slice pq mq cq);have pb:=putD_below LM.out.b (show w.heap.size≤w.heap.size + 1 by omega) d (.slice pf nf cf) (.slice pq mq cq);generalize putD yA (w.heap.size + 1) d (.slice pf nf cf) (.slice pq mq cq)=yy at *;refine bodyPost_ret (res_dev2 Tryz.results33 rfl rfl pa) rfl ?_;exact ⟨d,pf,nf,cf,pq,mq,cq,by rw [st.out]; rfl,pb,fun d' hd=>by rw [st.out] at hd; cases hd⟩
         · rw [hN] at fn st;replace st:Hid (stepM d seen [kSum,z]=.ok { d with sm:=z }):=st
           go_wp2_with fail
           refine (fn.out _).mono ?_;rintro e yA ⟨rfl,rfl⟩;clear fn;go_wp2;have LR:(yA.setCell ⟨w.heap.size,5,none⟩ (.string (txt z))).heap[w.heap.size + 1]?=some (.cells dz 25 (0,0)):=(Below.heap_setCell _ _ _ _ (show w.heap.size + 1 ≠ w.heap.size by omega)).trans LM.out.rc;have LB:Below w.heap.size w (yA.setCell ⟨w.heap.size,5,none⟩ (.string (txt z))):=LM.out.b.setCell (p:=⟨w.heap.size,5,none⟩) (Nat.le_refl _) _;generalize (yA.setCell ⟨w.heap.size,5,none⟩ (.string (txt z)))=y2 at *;change bodyPost _ _ _ _ _ (put12 y2 (w.heap.size + 1) (.string (txt d.nm)) (.int .i64 d.st) (.int .i64 d.es) (.int .i64 d.mx) (.int .i64 d.sz) (.string (txt z)) (.slice pf nf cf) (.slice pq mq cq) (.int .i64 d.po) (.int .i64 d.ti) (.int .i64 d.re) (.int .i64 d.ag));have pa:=put12_at (y:=y2) LR (.string (txt d.nm)) (.int .i64 d.st) (.int .i64 d.es) (.int .i64 d.mx) (.int .i64 d.sz) (.string (txt z)) (.slice pf nf cf) (.slice pq mq cq) (.int .i64 d.po) (.int .i64 d.ti) (.int .i64 d.re) (.int .i64 d.ag);have pb:=put12_below LB (show w.heap.size≤w.heap.size + 1 by omega) (.string (txt d.nm)) (.int .i64 d.st) (.int .i64 d.es) (.int .i64 d.mx) (.int .i64 d.sz) (.string (txt z)) (.slice pf nf cf) (.slice pq mq cq) (.int .i64 d.po) (.int .i64 d.ti) (.int .i64 d.re) (.int .i64 d.ag);have FQ2:=fq_put FQ0.out LB (show w.heap.size≤w.heap.size + 1 by omega) (.string (txt d.nm)) (.int .i64 d.st) (.int .i64 d.es) (.int .i64 d.mx) (.int .i64 d.sz) (.string (txt z)) (.slice pf nf cf) (.slice pq mq cq) (.int .i64 d.po) (.int .i64 d.ti) (.int .i64 d.re) (.int .i64 d.ag);generalize put12 y2 (w.heap.size + 1) (.string (txt d.nm)) (.int .i64 d.st) (.int .i64 d.es) (.int .i64 d.mx) (.int .i64 d.sz) (.string (txt z)) (.slice pf nf cf) (.slice pq mq cq) (.int .i64 d.po) (.int .i64 d.ti) (.int .i64 d.re) (.int .i64 d.ag)=yy at *;refine bodyPost_ret (res_dev2 Tryz.results33 rfl rfl pa) rfl ?_;refine ⟨{ d with sm:=z },pf,nf,cf,pq,mq,cq,by rw [st.out]; rfl,pb,fun d' hd=>?_⟩;rw [st.out] at hd
           cases hd
           exact ⟨rfl,FQ2.1,FQ2.2,.inl rfl,.inl rfl⟩
       · have n2:((a.length:Int) + 1 != 2)=true:=bne_iff_ne.2 (by omega);have hm:updM kSum a=none:=mName_len h1 _;rw [hm] at st;replace st:Hid (stepM d seen (kSum :: a)=.error 6):=st;go_wp2;change bodyPost _ _ _ _ _ (putD y (w.heap.size + 1) d (.slice pf nf cf) (.slice pq mq cq));have pa:=putD_at (y:=y) LM.out.rc d (.slice pf nf cf) (.slice pq mq cq);have pb:=putD_below LM.out.b (show w.heap.size≤w.heap.size + 1 by omega) d (.slice pf nf cf) (.slice pq mq cq);generalize putD y (w.heap.size + 1) d (.slice pf nf cf) (.slice pq mq cq)=yy at *;refine bodyPost_ret (res_dev2 Tryz.results33 rfl rfl pa) rfl ?_;exact ⟨d,pf,nf,cf,pq,mq,cq,by rw [st.out]; rfl,pb,fun d' hd=>by rw [st.out] at hd; cases hd⟩
theorem rhexn_main (s:ByteArray) (w:World) (hs:(s.size:Int)≤5000) (h0:0 < (s.size:Int)) (hev:(s.size:Int) % 2=0) (T:Option (List Nat)) (hT:hexO s.data.toList=T) :
 Calls Tryz.prog 68 #[.string s] w fun e w'=>∃ v,e=.returned (.tuple #[v,.bool T.isSome])∧BytesAt w' v (T.getD [])∧Below w.heap.size w w'∧∀ q,v.ownBlock=some q→w.heap.size≤q:=by
 obtain ⟨i0,hi,hz0,hz1,hz2⟩:=info_parts info_u8;have L0:Hid (LeftH [] s.data.toList T):=by unfold Hid; rw [← hT]; exact LeftH.first _
 have hz:((s.size:Int) == 0)=false:=beq_eq_false_iff_ne.2 (by omega);have hq1:((s.size:Int) % 2 == 1)=false:=beq_eq_false_iff_ne.2 (by omega);replace hev:Hid ((s.size:Int) % 2=0):=hev;clear hT
 go_enter Tryz.func68,Tryz.ntmps68
 go_wp2
 go_loopw [4,5] (fun vo vi wr=>∃ (k:Nat) (out:List Nat),(k:Int)≤(s.size:Int)∧vi=.int .i64 (k:Int)∧((k:Int) % 2=0∧(out.length:Int)≤(k:Int))∧Hid (HxSt w wr vo out)∧Hid (LeftH out (s.data.toList.drop k) T)) (fun _ vi _=>s.size - (intOf vi).toNat)
 case atStart=>exact ⟨0,[],by omega,rfl,⟨by omega,by simp⟩,⟨World.ownsRow_nil _ _ _ _,Below.refl _ _⟩,L0⟩
 case round=>
  obtain ⟨k,out,hk,rfl,⟨hk2,hol⟩,st,left⟩:=hrel;clear L0
  by_cases hlt:k < s.size
  · have hki:(k:Int) < (s.size:Int):=by omega
    have hk1:k + 1 < s.size:=by have:=hev.out; omega
    have hk1i:(k:Int) + 1 < (s.size:Int):=by omega
    have lf:=left.out;rw [sdrop_at hlt,sdrop_at hk1] at lf;have x1:s[k].toNat < 256:=s[k].toNat_lt;have x2:s[k + 1].toNat < 256:=s[k + 1].toNat_lt;have b1:=half_bd s[k].toNat;have b2:=half_bd s[k + 1].toNat;have f1:Hid (∀ w,Calls Tryz.prog 95 #[.int .u8 (s[k].toNat:Int)] w fun e w'=>e=.returned (.int .i64 (halfC s[k].toNat))∧w'=w):=fun w=>rhalf_any _ x1 w
    have f2:Hid (∀ w,Calls Tryz.prog 95 #[.int .u8 (s[k + 1].toNat:Int)] w fun e w'=>e=.returned (.int .i64 (halfC s[k + 1].toNat))∧w'=w):=fun w=>rhalf_any _ x2 w
    have nx:Hid ((0≤halfC s[k].toNat∧0≤halfC s[k + 1].toNat)→LeftH (out ++ [(16 * halfC s[k].toNat + halfC s[k + 1].toNat).toNat]) (s.data.toList.drop (k + 2)) T):=fun h=>lf.two h.1 h.2
    have bd:Hid (¬ (0≤halfC s[k].toNat∧0≤halfC s[k + 1].toNat)→T=none):=fun h=>lf.bad h
    clear lf left x1 x2;generalize halfC s[k].toNat=p at *;generalize halfC s[k + 1].toNat=q at *;have wk:IntKind.i64.wrap ((k:Int) + 1)=(k:Int) + 1:=by simp only [IntKind.wrap_i64]; omega
    have ix:∀ x:World,(Instr.index 9 (.string s) (.int .i64 ((k:Int) + 1))).run Tryz.prog x=.ok (.int .u8 (s[k + 1].toNat:Int)) x:=fun x=>by
     rw [run_index_string x 9 s .i64 _ Tryz.underlying9,dif_pos ⟨by omega,hk1i⟩];rfl
    go_wp2_with fail
    go_quiet (first
     | (go_at_call 95; with_reducible refine Calls.quiet_of_same (f1.out _))
     | (go_at_call 95; with_reducible refine Calls.quiet_of_same (f2.out _)))
    clear f1 f2 ix wk;replace st:Hid (HxSt w (wr.drewN nq) u4 out):=st.out.drewN nq;generalize wr.drewN nq=wd at *
    by_cases h1:0≤p
    · by_cases h2:0≤q
      · obtain ⟨c,hc⟩:∃ c:Nat,(16 * p + q).toNat=c:=⟨_,rfl⟩;have nl:=nx.out ⟨h1,h2⟩;rw [hc] at nl;replace nl:Hid (LeftH (out ++ [c]) (s.data.toList.drop (k + 2)) T):=nl;have wc:IntKind.u8.wrap (16 * p + q)=(c:Int):=by simp only [IntKind.wrap_u8']; omega
        have h63:out.length + 1≤maxLen:=by unfold maxLen; omega
        have hby:(out.length + 1) * 1≤140737488355328:=by omega
        have hsz:=st.out.b.size;clear nx bd hc
        go_wp2_with (at_builtin; refine wpList_append_own _ rfl _ _ 23 rfl w.heap.size 5 i0 (.int .u8 0) 1 1 Tryz.underlying23 hi hz0 hz1 hz2 rfl (by decide) _ _ _ rfl (World.ownsRow.alloc st.out.r _) ⟨wd.heap.size,0,none⟩ 1 1 [.int .u8 (c:Int)] rfl rfl (cell_oneH _ _) (by simp [Value.oneCell']) h63 hby (by simp; omega) ?_; intro v' y hown' hgrow _; have st2:Hid (HxSt w y v' (out ++ [c])):=⟨by unfold RowB; rw [List.length_append]; unfold u8v; rw [List.map_append]; exact hown',(st.out.b.alloc hsz _).grown hgrow (by simp; omega) (fun q eq=>(World.ownsRow.lt st.out.r q eq).1)⟩; clear hown' hgrow)
        exact ⟨⟨k + 2,out ++ [c],by omega,by simp,⟨by omega,by simp; omega⟩,st2,nl⟩,by simp [intOf]; omega⟩
      · have h2':q < 0:=by omega
        have fin:Hid (T=none):=bd.out (fun h=>h2 h.2);have B:Hid (Below w.heap.size w wd):=st.out.b;clear nx bd st;go_wp2
        go_ret2
        exact ⟨_,by rw [fin.out]; rfl,by rw [fin.out]; exact .inl ⟨rfl,rfl⟩,B.out,fun q hq=>(by cases hq)⟩
    · have h1':p < 0:=by omega
      have fin:Hid (T=none):=bd.out (fun h=>h1 h.1);have B:Hid (Below w.heap.size w wd):=st.out.b;clear nx bd st;go_wp2
      go_ret2
      exact ⟨_,by rw [fin.out]; rfl,by rw [fin.out]; exact .inl ⟨rfl,rfl⟩,B.out,fun q hq=>(by cases hq)⟩
  · obtain rfl:k=s.size:=by omega
    have fin:Hid (T=some out):=by
     have h:=left.out;rw [List.drop_eq_nil_of_le (by simp)] at h;exact h.fin
    have X:Hid (BytesAt wr u4 out):=st.out.r.at;have Y:Hid (∀ q,u4.ownBlock=some q→w.heap.size≤q):=fun q hq=>(World.ownsRow.lt st.out.r q hq).1
    have B:Hid (Below w.heap.size w wr):=st.out.b;clear left st hlt;go_wp2
    go_ret2
    exact ⟨_,by rw [fin.out]; rfl,by rw [fin.out]; exact X.out,B.out,Y.out⟩
theorem rhex_new (s:ByteArray) (w:World) (hs:(s.size:Int)≤5000) :
 Calls Tryz.prog 68 #[.string s] w fun e w'=>∃ v,e=.returned (.tuple #[v,.bool (hexR s.data.toList).isSome])∧BytesAt w' v ((hexR s.data.toList).getD [])∧Below w.heap.size w w'∧∀ q,v.ownBlock=some q→w.heap.size≤q:=by
 have hl:s.data.toList.length=s.size:=by simp
 by_cases h0:s.size=0
 · have e:hexR s.data.toList=none:=by unfold hexR; rw [if_pos (List.length_eq_zero_iff.1 (hl.trans h0))]
   rw [e];refine (rhex_none s w (by omega)).mono ?_;rintro e w' ⟨rfl,rfl⟩;exact ⟨_,rfl,.inl ⟨rfl,rfl⟩,Below.refl _ _,fun q hq=>(by cases hq)⟩
 · have e:hexR s.data.toList=hexO s.data.toList:=by unfold hexR; rw [if_neg (fun q=>h0 (by rw [← hl,q]; rfl))]
   rw [e]
   by_cases h1:s.size % 2=1
   · rw [hex_odd _ (by rw [hl]; exact h1)];refine (rhex_odd s w hs (by omega) (by omega)).mono ?_;rintro e w' ⟨rfl,rfl⟩;exact ⟨_,rfl,.inl ⟨rfl,rfl⟩,Below.refl _ _,fun q hq=>(by cases hq)⟩
   · exact rhexn_main s w hs (by omega) (by omega) _ rfl
end Go.Proofs.YthabffjgdhfbmaaGreatDoor
