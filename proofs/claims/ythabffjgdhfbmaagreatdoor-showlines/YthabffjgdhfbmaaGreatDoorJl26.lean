/-
  Texts that belong together, one behind the other: DsLineReq, DsLinePol, DsLineTim, DsLineRet. Conditions: as each says.
-/
import Derived.Lib.QuietBelowIn
import Derived.RangeFuncCalls
import Derived.Sort.BigQuietIn
import Derived.Test.YthabffjgdhfbmaaGreatDoorProg
import Derived.Test.YthabffjgdhfbmaaGreatDoorJl1
import Derived.Test.YthabffjgdhfbmaaGreatDoorJl2
import Derived.Test.YthabffjgdhfbmaaGreatDoorJl3
import Derived.Test.YthabffjgdhfbmaaGreatDoorJl4
import Derived.Test.YthabffjgdhfbmaaGreatDoorJl5
import Derived.Test.YthabffjgdhfbmaaGreatDoorJl6
import Derived.Test.YthabffjgdhfbmaaGreatDoorJl7
import Derived.Test.YthabffjgdhfbmaaGreatDoorJl8
import Derived.Test.YthabffjgdhfbmaaGreatDoorJl9
import Derived.Test.YthabffjgdhfbmaaGreatDoorJl10
import Derived.Test.YthabffjgdhfbmaaGreatDoorJl25
set_option maxRecDepth 100000
set_option maxHeartbeats 32000000
set_option linter.unusedVariables false
namespace Go.Proofs.YthabffjgdhfbmaaGreatDoor
open Go.RowKit
def RHx (z:Wd) (R:Option (List Nat)):Prop:=∀ w,Calls Tryz.prog 68 #[.string (txt z)] w fun e w'=>∃ v,e=.returned (.tuple #[v,.bool R.isSome])∧BytesAt w' v (R.getD [])∧Below w.heap.size w w'∧∀ q,v.ownBlock=some q→w.heap.size≤q
def ReqE (d:Dv) (seen:List Wd) (z:Wd) (bs:List Nat):Prop:=stepM d seen [kReq,z]=match (if bs.length≤16 then some fun (d:Dv)=>{ d with rq:=bs } else none) with | none=>.error 6 | some u=>.ok (u d)
theorem line_req (a:List Wd) (d:Dv) (pf:Option Addr) (nf cf:Nat) (pq:Option Addr) (mq cq:Nat) (g o cap:Nat) (w:World) (hi:StrsIn w g o (kReq :: a)) (hgw:g < w.heap.size) (hl:(a.length:Int)≤5000) (hz:∀ z ∈ a,(z.length:Int)≤5000) (ps:Option Addr) (cs:Nat) (seen:List Wd) (hs:StrsAt w (.slice ps seen.length cs) seen) (hsl:(seen.length:Int)≤5000) (hfl:FldsAt w (.slice pf nf cf) d.fs) (hrq:BytesAt w (.slice pq mq cq) d.rq) :
 Calls Tryz.prog 33 #[dvV d (.slice pf nf cf) (.slice pq mq cq),.slice (some ⟨g,o,none⟩) (a.length + 1) cap,.slice ps seen.length cs] w (LineQ w d (.slice pf nf cf) (.slice pq mq cq) seen (kReq :: a)):=by
 have m0:=lineM_first w d (.slice pf nf cf) (.slice pq mq cq);have n0:((a.length:Int) + 1 == 0)=false:=beq_eq_false_iff_ne.2 (by omega);have FQ0:Hid (FldsAt w (.slice pf nf cf) d.fs∧BytesAt w (.slice pq mq cq) d.rq):=⟨hfl,hrq⟩;have wi:Hid (StrsIn w g o (kReq :: a)):=hi;replace hs:Hid (StrsAt w (.slice ps seen.length cs) seen):=hs;replace hz:Hid (∀ z ∈ a,(z.length:Int)≤5000):=hz;obtain ⟨sl,hsl2⟩:∃ sl,seen.length=sl:=⟨_,rfl⟩;rw [hsl2] at hs hsl ⊢;replace hsl2:Hid (seen.length=sl):=hsl2;clear hfl hrq hi
 go_enter Tryz.func33,Tryz.ntmps33
 go_upto_region 5 with fail
 change Code.wp Tryz.prog _ _ _ (LineW w d (.slice pf nf cf) (.slice pq mq cq));have LM0:Hid (LineM w (LineW w d (.slice pf nf cf) (.slice pq mq cq)) d (.slice pf nf cf) (.slice pq mq cq)):=m0.1;have lc0:Hid (∀ (i:Nat) (h:i < 11),(LineW w d (.slice pf nf cf) (.slice pq mq cq)).cell? ⟨w.heap.size + 1 + 1,i,none⟩=some (.string (txt (allK[i]'h)))):=fun i h=>(rd_cell m0.2 i).1.trans (allC_at i h)
 have hc0:(LineW w d (.slice pf nf cf) (.slice pq mq cq)).cell? ⟨g,o,none⟩=some (.string ⟨#[114,101,113,117,101,115,116]⟩):=kp m0.1.b (wi.out 0 (by simp));clear m0;generalize LineW w d (.slice pf nf cf) (.slice pq mq cq)=x0 at *;go_wp2
 go_loopw [8,10] (fun vk vi wr=>∃ n k:Nat,(k:Int)≤11∧wr=x0.drewN n∧vi=.int .i64 (k:Int)∧vk=.bool (decide (kReq ∈ allK.take k))) (fun vk vi wr=>(11 - intOf vi).toNat)
 case atStart=>exact ⟨0,0,by omega,rfl,rfl,by simp⟩
 case round=>
  obtain ⟨n,k,hk11,rfl,rfl,rfl⟩:=hrel
  by_cases hlt:k < 11
  · have hki:(k:Int) < 11:=by omega
    have st:=allK_step kReq k hlt;have l1:=lc0.out k hlt;have wk:IntKind.i64.wrap ((k:Int) + 1)=(k:Int) + 1:=by simp only [IntKind.wrap_i64]; omega
    have cmp:(txt (allK[k]'hlt) == ⟨#[114,101,113,117,101,115,116]⟩)=decide (allK[k]'hlt=kReq):=txt_beq _ kReq;generalize allK[k]'hlt=ak at *;clear lc0 LM0
    cases hd:decide (kReq ∈ allK.take k)
    · rw [hd,Bool.false_or] at st;have c2:((txt ak).toList == [114,101,113,117,101,115,116])=decide (ak=kReq):=by
       rw [Bool.eq_iff_iff,decide_eq_true_iff,beq_iff_eq,ByteArray.toList_eq];exact ⟨fun h=>h,fun h=>by rw [h]; rfl⟩
      generalize decide (ak=kReq)=R at *
      go_wp2_with fail
      go_quiet (fail)
      go_wp2;exact ⟨⟨n + nq,k + 1,by omega,rfl,by simp,by rw [st]⟩,by simp [intOf]; omega⟩
    · rw [hd,Bool.true_or] at st
      go_wp2_with fail
      go_quiet (fail)
      go_wp2;exact ⟨⟨n + nq,k + 1,by omega,rfl,by simp,by rw [st]⟩,by simp [intOf]; omega⟩
  · obtain rfl:k=11:=by omega
    rw [allK_mem,show knownB kReq=true from rfl];clear lc0;go_wp2
    go_loopw [11] (fun vi wr=>∃ n k:Nat,(k:Int)≤(sl:Int)∧wr=x0.drewN n∧vi=.int .i64 (k:Int)∧Hid (∀ j (h:j < seen.length),j < k→¬ seen[j]=kReq)) (fun vi wr=>((sl:Int) - intOf vi).toNat)
    case atStart=>exact ⟨n,0,by omega,rfl,rfl,fun j _ h=>(by cases h)⟩
    case round=>
     obtain ⟨n,k,hk,rfl,rfl,no⟩:=hrel
     by_cases hlt:k < sl
     · have hki:(k:Int) < (sl:Int):=by omega
       have hks:k < seen.length:=by have:=hsl2.out; omega
       rcases hs.out with ⟨_,hnil⟩ | ⟨gs,os,cs',e1,hin,hgs⟩
       · rw [hnil] at hks; cases hks
       injection e1 with e1 e2 e3
       subst e1;subst e3;clear e2;have l1:=kp LM0.out.b (hin k hks);have wk:IntKind.i64.wrap ((k:Int) + 1)=(k:Int) + 1:=by simp only [IntKind.wrap_i64]; omega
       obtain ⟨ak,hak⟩:∃ ak,seen[k]=ak:=⟨_,rfl⟩;rw [hak] at l1;have cmp:(txt ak == ⟨#[114,101,113,117,101,115,116]⟩)=decide (ak=kReq):=txt_beq _ kReq;have c2:((txt ak).toList == [114,101,113,117,101,115,116])=decide (ak=kReq):=by
        rw [Bool.eq_iff_iff,decide_eq_true_iff,beq_iff_eq,ByteArray.toList_eq];exact ⟨fun h=>h,fun h=>by rw [h]; rfl⟩
       cases hd:decide (ak=kReq)
       · rw [hd] at cmp c2;have no2:Hid (∀ j (h:j < seen.length),j < k + 1→¬ seen[j]=kReq):=fun j h hj=>by
          by_cases hjk:j=k
          · subst hjk; rw [hak]; simpa using hd
          · exact no.out j h (by omega)
         clear hin hak no hd LM0
         go_wp2_with fail
         go_quiet (fail)
         go_wp2;exact ⟨⟨n + nq,k + 1,by omega,rfl,by simp,no2⟩,by simp [intOf]; omega⟩
       · rw [hd] at cmp c2;have e8:Hid (stepM d seen (kReq :: a)=.error 8):=by
          have hm:kReq ∈ seen:=by
           have:ak=kReq:=by simpa using hd
           rw [← this,← hak]; exact List.getElem_mem hks
          unfold Hid stepM;simp only [show knownB kReq=true from rfl];rw [if_neg (by decide),if_pos ⟨by decide,hm⟩]
         clear hin hak no hd
         go_wp2_with fail
         go_quiet (fail)
         go_upto_region 15 with fail
         have LM:Hid (LineM w ((x0.drewN n).drewN nq) d (.slice pf nf cf) (.slice pq mq cq)):=LM0.out.below (below_drewN (below_drewN (Below.refl _ _) _) _);generalize (x0.drewN n).drewN nq=y at *;obtain ⟨dc0,df0⟩:=LM.out.cells.1 0 _ rfl;obtain ⟨dc1,df1⟩:=LM.out.cells.1 1 _ rfl;obtain ⟨dc2,df2⟩:=LM.out.cells.1 2 _ rfl;obtain ⟨dc3,df3⟩:=LM.out.cells.1 3 _ rfl;obtain ⟨dc4,df4⟩:=LM.out.cells.1 4 _ rfl;obtain ⟨dc5,df5⟩:=LM.out.cells.1 5 _ rfl;obtain ⟨dc6,df6⟩:=LM.out.cells.1 6 _ rfl;obtain ⟨dc7,df7⟩:=LM.out.cells.1 7 _ rfl;obtain ⟨dc8,df8⟩:=LM.out.cells.1 8 _ rfl;obtain ⟨dc9,df9⟩:=LM.out.cells.1 9 _ rfl;obtain ⟨dc10,df10⟩:=LM.out.cells.1 10 _ rfl;obtain ⟨dc11,df11⟩:=LM.out.cells.1 11 _ rfl;obtain ⟨zc0,zf0⟩:=LM.out.cells.2 0 _ rfl;obtain ⟨zc1,zf1⟩:=LM.out.cells.2 1 _ rfl;obtain ⟨zc2,zf2⟩:=LM.out.cells.2 2 _ rfl;obtain ⟨zc3,zf3⟩:=LM.out.cells.2 3 _ rfl;obtain ⟨zc4,zf4⟩:=LM.out.cells.2 4 _ rfl;obtain ⟨zc5,zf5⟩:=LM.out.cells.2 5 _ rfl;obtain ⟨zc6,zf6⟩:=LM.out.cells.2 6 _ rfl;obtain ⟨zc7,zf7⟩:=LM.out.cells.2 7 _ rfl;obtain ⟨zc8,zf8⟩:=LM.out.cells.2 8 _ rfl;obtain ⟨zc9,zf9⟩:=LM.out.cells.2 9 _ rfl;obtain ⟨zc10,zf10⟩:=LM.out.cells.2 10 _ rfl;obtain ⟨zc11,zf11⟩:=LM.out.cells.2 11 _ rfl;clear LM0;go_wp2;change bodyPost _ _ _ _ _ (putD y (w.heap.size + 1) d (.slice pf nf cf) (.slice pq mq cq));have pa:=putD_at (y:=y) LM.out.rc d (.slice pf nf cf) (.slice pq mq cq);have pb:=putD_below LM.out.b (show w.heap.size≤w.heap.size + 1 by omega) d (.slice pf nf cf) (.slice pq mq cq);generalize putD y (w.heap.size + 1) d (.slice pf nf cf) (.slice pq mq cq)=yy at *;refine bodyPost_ret (res_dev2 Tryz.results33 rfl rfl pa) rfl ?_;exact ⟨d,pf,nf,cf,pq,mq,cq,by rw [e8.out]; rfl,pb,fun d' hd=>by rw [e8.out] at hd; cases hd⟩
     · obtain rfl:k=sl:=by omega
       have hns:¬ kReq ∈ seen:=fun hm=>by
        obtain ⟨j,hj,hj2⟩:=List.mem_iff_getElem.1 hm;exact no.out j hj (by have:=hsl2.out; omega) hj2
       have st:Hid (stepM d seen (kReq :: a)=match updM kReq a with | none=>.error 6 | some u=>.ok (u d)):=step_nf rfl (by decide) hns;have LM:Hid (LineM w (x0.drewN n) d (.slice pf nf cf) (.slice pq mq cq)):=LM0.out.below (below_drewN (Below.refl _ _) _);have hcy:(x0.drewN n).cell? ⟨g,o,none⟩=some (.string ⟨#[114,101,113,117,101,115,116]⟩):=hc0;generalize x0.drewN n=y at *;clear LM0 no hns hc0
       by_cases h1:a.length=1
       · obtain ⟨z,rfl⟩:=len_one h1;have hc1:y.cell? ⟨g,o + 1,none⟩=some (.string (txt z)):=kp LM.out.b (wi.out 1 (by simp));have fo:Hid (RHx z (hexR z)):=fun w=>rhex_new (txt z) w (by rw [txt_size]; have:=hz.out z (by simp); omega)
         have hm:updM kReq [z]=(hexR z).bind fun b=>if b.length≤16 then some fun d=>{ d with rq:=b } else none:=rfl
         rw [hm] at st
         cases hO:hexR z with
         | none=>
          rw [hO] at fo st;replace st:Hid (stepM d seen [kReq,z]=.error 6):=st
          go_wp2_with fail
          refine (fo.out _).mono ?_;clear fo;rintro e yA ⟨v,rfl,hv,hb,hnew⟩;obtain ⟨p2,n2,c2,rfl⟩:=hv.form;have hyl:=LM.out.b.size;have hrl:w.heap.size + 1 < y.heap.size:=(Array.getElem?_eq_some_iff.1 LM.out.rc).1;replace hv:Hid (BytesAt yA (.slice p2 n2 c2) []):=hv;replace hnew:Hid (NewP p2 y.heap.size):=fun a ha=>hnew a.block (by rw [ha]; rfl)
          replace LM:Hid (LineM w yA d (.slice pf nf cf) (.slice pq mq cq)):=LM.out.below hb;replace hcy:yA.cell? ⟨g,o,none⟩=some (.string ⟨#[114,101,113,117,101,115,116]⟩):=kp hb hcy;replace hc1:yA.cell? ⟨g,o + 1,none⟩=some (.string (txt z)):=kp hb hc1;clear hb;obtain ⟨dc0,df0⟩:=LM.out.cells.1 0 _ rfl;obtain ⟨dc1,df1⟩:=LM.out.cells.1 1 _ rfl;obtain ⟨dc2,df2⟩:=LM.out.cells.1 2 _ rfl;obtain ⟨dc3,df3⟩:=LM.out.cells.1 3 _ rfl;obtain ⟨dc4,df4⟩:=LM.out.cells.1 4 _ rfl;obtain ⟨dc5,df5⟩:=LM.out.cells.1 5 _ rfl;obtain ⟨dc6,df6⟩:=LM.out.cells.1 6 _ rfl;obtain ⟨dc7,df7⟩:=LM.out.cells.1 7 _ rfl;obtain ⟨dc8,df8⟩:=LM.out.cells.1 8 _ rfl;obtain ⟨dc9,df9⟩:=LM.out.cells.1 9 _ rfl;obtain ⟨dc10,df10⟩:=LM.out.cells.1 10 _ rfl;obtain ⟨dc11,df11⟩:=LM.out.cells.1 11 _ rfl;obtain ⟨zc0,zf0⟩:=LM.out.cells.2 0 _ rfl;obtain ⟨zc1,zf1⟩:=LM.out.cells.2 1 _ rfl;obtain ⟨zc2,zf2⟩:=LM.out.cells.2 2 _ rfl;obtain ⟨zc3,zf3⟩:=LM.out.cells.2 3 _ rfl;obtain ⟨zc4,zf4⟩:=LM.out.cells.2 4 _ rfl;obtain ⟨zc5,zf5⟩:=LM.out.cells.2 5 _ rfl;obtain ⟨zc6,zf6⟩:=LM.out.cells.2 6 _ rfl;obtain ⟨zc7,zf7⟩:=LM.out.cells.2 7 _ rfl;obtain ⟨zc8,zf8⟩:=LM.out.cells.2 8 _ rfl;obtain ⟨zc9,zf9⟩:=LM.out.cells.2 9 _ rfl;obtain ⟨zc10,zf10⟩:=LM.out.cells.2 10 _ rfl;obtain ⟨zc11,zf11⟩:=LM.out.cells.2 11 _ rfl;replace LM:Hid (LineM w (yA.setCell ⟨w.heap.size,7,none⟩ (.slice p2 n2 c2)) { d with rq:=[] } (.slice pf nf cf) (.slice p2 n2 c2)):=LM.out.set 7 (.slice p2 n2 c2) rfl;go_wp2;change bodyPost _ _ _ _ _ (LineZ w (yA.setCell ⟨w.heap.size,7,none⟩ (.slice p2 n2 c2)) { d with rq:=[] } (.slice pf nf cf) (.slice p2 n2 c2));refine bodyPost_ret (res_dev2 Tryz.results33 rfl rfl LM.out.res) rfl ?_;exact LM.out.quit st.out _ rfl
         | some bs=>
          rw [hO] at fo st;replace st:Hid (ReqE d seen z bs):=st;have hbl:(bs.length:Int)≤5000:=by
           have h5:=hz.out z (by simp);have:=(hexR_b hO).2;omega
          go_wp2_with fail
          refine (fo.out _).mono ?_;clear fo;rintro e yA ⟨v,rfl,hv,hb,hnew⟩;obtain ⟨p2,n2,c2,rfl⟩:=hv.form;have hyl:=LM.out.b.size;have hrl:w.heap.size + 1 < y.heap.size:=(Array.getElem?_eq_some_iff.1 LM.out.rc).1;replace hv:Hid (BytesAt yA (.slice p2 n2 c2) bs):=hv;replace hnew:Hid (NewP p2 y.heap.size):=fun a ha=>hnew a.block (by rw [ha]; rfl)
          replace LM:Hid (LineM w yA d (.slice pf nf cf) (.slice pq mq cq)):=LM.out.below hb;replace hcy:yA.cell? ⟨g,o,none⟩=some (.string ⟨#[114,101,113,117,101,115,116]⟩):=kp hb hcy;replace hc1:yA.cell? ⟨g,o + 1,none⟩=some (.string (txt z)):=kp hb hc1;clear hb;obtain ⟨dc0,df0⟩:=LM.out.cells.1 0 _ rfl;obtain ⟨dc1,df1⟩:=LM.out.cells.1 1 _ rfl;obtain ⟨dc2,df2⟩:=LM.out.cells.1 2 _ rfl;obtain ⟨dc3,df3⟩:=LM.out.cells.1 3 _ rfl;obtain ⟨dc4,df4⟩:=LM.out.cells.1 4 _ rfl;obtain ⟨dc5,df5⟩:=LM.out.cells.1 5 _ rfl;obtain ⟨dc6,df6⟩:=LM.out.cells.1 6 _ rfl;obtain ⟨dc7,df7⟩:=LM.out.cells.1 7 _ rfl;obtain ⟨dc8,df8⟩:=LM.out.cells.1 8 _ rfl;obtain ⟨dc9,df9⟩:=LM.out.cells.1 9 _ rfl;obtain ⟨dc10,df10⟩:=LM.out.cells.1 10 _ rfl;obtain ⟨dc11,df11⟩:=LM.out.cells.1 11 _ rfl;obtain ⟨zc0,zf0⟩:=LM.out.cells.2 0 _ rfl;obtain ⟨zc1,zf1⟩:=LM.out.cells.2 1 _ rfl;obtain ⟨zc2,zf2⟩:=LM.out.cells.2 2 _ rfl;obtain ⟨zc3,zf3⟩:=LM.out.cells.2 3 _ rfl;obtain ⟨zc4,zf4⟩:=LM.out.cells.2 4 _ rfl;obtain ⟨zc5,zf5⟩:=LM.out.cells.2 5 _ rfl;obtain ⟨zc6,zf6⟩:=LM.out.cells.2 6 _ rfl;obtain ⟨zc7,zf7⟩:=LM.out.cells.2 7 _ rfl;obtain ⟨zc8,zf8⟩:=LM.out.cells.2 8 _ rfl;obtain ⟨zc9,zf9⟩:=LM.out.cells.2 9 _ rfl;obtain ⟨zc10,zf10⟩:=LM.out.cells.2 10 _ rfl;obtain ⟨zc11,zf11⟩:=LM.out.cells.2 11 _ rfl;replace LM:Hid (LineM w (yA.setCell ⟨w.heap.size,7,none⟩ (.slice p2 n2 c2)) { d with rq:=bs } (.slice pf nf cf) (.slice p2 n2 c2)):=LM.out.set 7 (.slice p2 n2 c2) rfl;have hn:n2=bs.length:=hv.out.len;have hn5:(n2:Int)≤5000:=by omega
          by_cases h16:bs.length≤16
          · replace st:Hid (stepM d seen [kReq,z]=.ok { d with rq:=bs }):=by have h:=st.out; unfold ReqE at h; rw [if_pos h16] at h; exact h
            have n16:(n2:Int)≤16:=by omega
            clear hn h16 hbl hO;have BZ:Hid (BytesAt (LineZ w (yA.setCell ⟨w.heap.size,7,none⟩ (.slice p2 n2 c2)) { d with rq:=bs } (.slice pf nf cf) (.slice p2 n2 c2)) (.slice p2 n2 c2) bs):=by
             refine BytesAt.z ?_ (fun a ha=>by have:=hnew.out a ha; omega) LineZ.size;exact hv.out.set (fun a ha=>by have:=hnew.out a ha; omega)
            go_wp2;change bodyPost _ _ _ _ _ (LineZ w (yA.setCell ⟨w.heap.size,7,none⟩ (.slice p2 n2 c2)) { d with rq:=bs } (.slice pf nf cf) (.slice p2 n2 c2));refine bodyPost_ret (res_dev2 Tryz.results33 rfl rfl LM.out.res) rfl ?_;exact LM.out.done st.out (LM.out.old FQ0.out).1 BZ.out (.inl rfl) (hnew.out.b hyl)
          · replace st:Hid (stepM d seen [kReq,z]=.error 6):=by have h:=st.out; unfold ReqE at h; rw [if_neg h16] at h; exact h
            have n16:(16:Int) < (n2:Int):=by omega
            clear hn h16 hbl hO;go_wp2;change bodyPost _ _ _ _ _ (LineZ w (yA.setCell ⟨w.heap.size,7,none⟩ (.slice p2 n2 c2)) { d with rq:=bs } (.slice pf nf cf) (.slice p2 n2 c2));refine bodyPost_ret (res_dev2 Tryz.results33 rfl rfl LM.out.res) rfl ?_;exact LM.out.quit st.out _ rfl
       · have n2:((a.length:Int) + 1 != 2)=true:=bne_iff_ne.2 (by omega);have hm:updM kReq a=none:=mReq_len h1;rw [hm] at st;replace st:Hid (stepM d seen (kReq :: a)=.error 6):=st;obtain ⟨dc0,df0⟩:=LM.out.cells.1 0 _ rfl;obtain ⟨dc1,df1⟩:=LM.out.cells.1 1 _ rfl;obtain ⟨dc2,df2⟩:=LM.out.cells.1 2 _ rfl;obtain ⟨dc3,df3⟩:=LM.out.cells.1 3 _ rfl;obtain ⟨dc4,df4⟩:=LM.out.cells.1 4 _ rfl;obtain ⟨dc5,df5⟩:=LM.out.cells.1 5 _ rfl;obtain ⟨dc6,df6⟩:=LM.out.cells.1 6 _ rfl;obtain ⟨dc7,df7⟩:=LM.out.cells.1 7 _ rfl;obtain ⟨dc8,df8⟩:=LM.out.cells.1 8 _ rfl;obtain ⟨dc9,df9⟩:=LM.out.cells.1 9 _ rfl;obtain ⟨dc10,df10⟩:=LM.out.cells.1 10 _ rfl;obtain ⟨dc11,df11⟩:=LM.out.cells.1 11 _ rfl;obtain ⟨zc0,zf0⟩:=LM.out.cells.2 0 _ rfl;obtain ⟨zc1,zf1⟩:=LM.out.cells.2 1 _ rfl;obtain ⟨zc2,zf2⟩:=LM.out.cells.2 2 _ rfl;obtain ⟨zc3,zf3⟩:=LM.out.cells.2 3 _ rfl;obtain ⟨zc4,zf4⟩:=LM.out.cells.2 4 _ rfl;obtain ⟨zc5,zf5⟩:=LM.out.cells.2 5 _ rfl;obtain ⟨zc6,zf6⟩:=LM.out.cells.2 6 _ rfl;obtain ⟨zc7,zf7⟩:=LM.out.cells.2 7 _ rfl;obtain ⟨zc8,zf8⟩:=LM.out.cells.2 8 _ rfl;obtain ⟨zc9,zf9⟩:=LM.out.cells.2 9 _ rfl;obtain ⟨zc10,zf10⟩:=LM.out.cells.2 10 _ rfl;obtain ⟨zc11,zf11⟩:=LM.out.cells.2 11 _ rfl;go_wp2;change bodyPost _ _ _ _ _ (LineZ w y d (.slice pf nf cf) (.slice pq mq cq));refine bodyPost_ret (res_dev2 Tryz.results33 rfl rfl LM.out.res) rfl ?_;exact LM.out.quit st.out _ rfl
theorem line_pol (a:List Wd) (d:Dv) (pf:Option Addr) (nf cf:Nat) (pq:Option Addr) (mq cq:Nat) (g o cap:Nat) (w:World) (hi:StrsIn w g o (kPol :: a)) (hgw:g < w.heap.size) (hl:(a.length:Int)≤5000) (hz:∀ z ∈ a,(z.length:Int)≤5000) (ps:Option Addr) (cs:Nat) (seen:List Wd) (hs:StrsAt w (.slice ps seen.length cs) seen) (hsl:(seen.length:Int)≤5000) (hfl:FldsAt w (.slice pf nf cf) d.fs) (hrq:BytesAt w (.slice pq mq cq) d.rq) :
 Calls Tryz.prog 33 #[dvV d (.slice pf nf cf) (.slice pq mq cq),.slice (some ⟨g,o,none⟩) (a.length + 1) cap,.slice ps seen.length cs] w (LineQ w d (.slice pf nf cf) (.slice pq mq cq) seen (kPol :: a)):=by
 have m0:=lineM_first w d (.slice pf nf cf) (.slice pq mq cq);have n0:((a.length:Int) + 1 == 0)=false:=beq_eq_false_iff_ne.2 (by omega);have FQ0:Hid (FldsAt w (.slice pf nf cf) d.fs∧BytesAt w (.slice pq mq cq) d.rq):=⟨hfl,hrq⟩;have wi:Hid (StrsIn w g o (kPol :: a)):=hi;replace hs:Hid (StrsAt w (.slice ps seen.length cs) seen):=hs;replace hz:Hid (∀ z ∈ a,(z.length:Int)≤5000):=hz;obtain ⟨sl,hsl2⟩:∃ sl,seen.length=sl:=⟨_,rfl⟩;rw [hsl2] at hs hsl ⊢;replace hsl2:Hid (seen.length=sl):=hsl2;clear hfl hrq hi
 go_enter Tryz.func33,Tryz.ntmps33
 go_upto_region 5 with fail
 change Code.wp Tryz.prog _ _ _ (LineW w d (.slice pf nf cf) (.slice pq mq cq));have LM0:Hid (LineM w (LineW w d (.slice pf nf cf) (.slice pq mq cq)) d (.slice pf nf cf) (.slice pq mq cq)):=m0.1;have lc0:Hid (∀ (i:Nat) (h:i < 11),(LineW w d (.slice pf nf cf) (.slice pq mq cq)).cell? ⟨w.heap.size + 1 + 1,i,none⟩=some (.string (txt (allK[i]'h)))):=fun i h=>(rd_cell m0.2 i).1.trans (allC_at i h)
 have hc0:(LineW w d (.slice pf nf cf) (.slice pq mq cq)).cell? ⟨g,o,none⟩=some (.string ⟨#[112,111,108,108]⟩):=kp m0.1.b (wi.out 0 (by simp));clear m0;generalize LineW w d (.slice pf nf cf) (.slice pq mq cq)=x0 at *;go_wp2
 go_loopw [8,10] (fun vk vi wr=>∃ n k:Nat,(k:Int)≤11∧wr=x0.drewN n∧vi=.int .i64 (k:Int)∧vk=.bool (decide (kPol ∈ allK.take k))) (fun vk vi wr=>(11 - intOf vi).toNat)
 case atStart=>exact ⟨0,0,by omega,rfl,rfl,by simp⟩
 case round=>
  obtain ⟨n,k,hk11,rfl,rfl,rfl⟩:=hrel
  by_cases hlt:k < 11
  · have hki:(k:Int) < 11:=by omega
    have st:=allK_step kPol k hlt;have l1:=lc0.out k hlt;have wk:IntKind.i64.wrap ((k:Int) + 1)=(k:Int) + 1:=by simp only [IntKind.wrap_i64]; omega
    have cmp:(txt (allK[k]'hlt) == ⟨#[112,111,108,108]⟩)=decide (allK[k]'hlt=kPol):=txt_beq _ kPol;generalize allK[k]'hlt=ak at *;clear lc0 LM0
    cases hd:decide (kPol ∈ allK.take k)
    · rw [hd,Bool.false_or] at st;have c2:((txt ak).toList == [112,111,108,108])=decide (ak=kPol):=by
       rw [Bool.eq_iff_iff,decide_eq_true_iff,beq_iff_eq,ByteArray.toList_eq];exact ⟨fun h=>h,fun h=>by rw [h]; rfl⟩
      generalize decide (ak=kPol)=R at *
      go_wp2_with fail
      go_quiet (fail)
      go_wp2;exact ⟨⟨n + nq,k + 1,by omega,rfl,by simp,by rw [st]⟩,by simp [intOf]; omega⟩
    · rw [hd,Bool.true_or] at st
      go_wp2_with fail
      go_quiet (fail)
      go_wp2;exact ⟨⟨n + nq,k + 1,by omega,rfl,by simp,by rw [st]⟩,by simp [intOf]; omega⟩
  · obtain rfl:k=11:=by omega
    rw [allK_mem,show knownB kPol=true from rfl];clear lc0;go_wp2
    go_loopw [11] (fun vi wr=>∃ n k:Nat,(k:Int)≤(sl:Int)∧wr=x0.drewN n∧vi=.int .i64 (k:Int)∧Hid (∀ j (h:j < seen.length),j < k→¬ seen[j]=kPol)) (fun vi wr=>((sl:Int) - intOf vi).toNat)
    case atStart=>exact ⟨n,0,by omega,rfl,rfl,fun j _ h=>(by cases h)⟩
    case round=>
     obtain ⟨n,k,hk,rfl,rfl,no⟩:=hrel
     by_cases hlt:k < sl
     · have hki:(k:Int) < (sl:Int):=by omega
       have hks:k < seen.length:=by have:=hsl2.out; omega
       rcases hs.out with ⟨_,hnil⟩ | ⟨gs,os,cs',e1,hin,hgs⟩
       · rw [hnil] at hks; cases hks
       injection e1 with e1 e2 e3
       subst e1;subst e3;clear e2;have l1:=kp LM0.out.b (hin k hks);have wk:IntKind.i64.wrap ((k:Int) + 1)=(k:Int) + 1:=by simp only [IntKind.wrap_i64]; omega
       obtain ⟨ak,hak⟩:∃ ak,seen[k]=ak:=⟨_,rfl⟩;rw [hak] at l1;have cmp:(txt ak == ⟨#[112,111,108,108]⟩)=decide (ak=kPol):=txt_beq _ kPol;have c2:((txt ak).toList == [112,111,108,108])=decide (ak=kPol):=by
        rw [Bool.eq_iff_iff,decide_eq_true_iff,beq_iff_eq,ByteArray.toList_eq];exact ⟨fun h=>h,fun h=>by rw [h]; rfl⟩
       cases hd:decide (ak=kPol)
       · rw [hd] at cmp c2;have no2:Hid (∀ j (h:j < seen.length),j < k + 1→¬ seen[j]=kPol):=fun j h hj=>by
          by_cases hjk:j=k
          · subst hjk; rw [hak]; simpa using hd
          · exact no.out j h (by omega)
         clear hin hak no hd LM0
         go_wp2_with fail
         go_quiet (fail)
         go_wp2;exact ⟨⟨n + nq,k + 1,by omega,rfl,by simp,no2⟩,by simp [intOf]; omega⟩
       · rw [hd] at cmp c2;have e8:Hid (stepM d seen (kPol :: a)=.error 8):=by
          have hm:kPol ∈ seen:=by
           have:ak=kPol:=by simpa using hd
           rw [← this,← hak]; exact List.getElem_mem hks
          unfold Hid stepM;simp only [show knownB kPol=true from rfl];rw [if_neg (by decide),if_pos ⟨by decide,hm⟩]
         clear hin hak no hd
         go_wp2_with fail
         go_quiet (fail)
         go_upto_region 15 with fail
         have LM:Hid (LineM w ((x0.drewN n).drewN nq) d (.slice pf nf cf) (.slice pq mq cq)):=LM0.out.below (below_drewN (below_drewN (Below.refl _ _) _) _);generalize (x0.drewN n).drewN nq=y at *;obtain ⟨dc0,df0⟩:=LM.out.cells.1 0 _ rfl;obtain ⟨dc1,df1⟩:=LM.out.cells.1 1 _ rfl;obtain ⟨dc2,df2⟩:=LM.out.cells.1 2 _ rfl;obtain ⟨dc3,df3⟩:=LM.out.cells.1 3 _ rfl;obtain ⟨dc4,df4⟩:=LM.out.cells.1 4 _ rfl;obtain ⟨dc5,df5⟩:=LM.out.cells.1 5 _ rfl;obtain ⟨dc6,df6⟩:=LM.out.cells.1 6 _ rfl;obtain ⟨dc7,df7⟩:=LM.out.cells.1 7 _ rfl;obtain ⟨dc8,df8⟩:=LM.out.cells.1 8 _ rfl;obtain ⟨dc9,df9⟩:=LM.out.cells.1 9 _ rfl;obtain ⟨dc10,df10⟩:=LM.out.cells.1 10 _ rfl;obtain ⟨dc11,df11⟩:=LM.out.cells.1 11 _ rfl;obtain ⟨zc0,zf0⟩:=LM.out.cells.2 0 _ rfl;obtain ⟨zc1,zf1⟩:=LM.out.cells.2 1 _ rfl;obtain ⟨zc2,zf2⟩:=LM.out.cells.2 2 _ rfl;obtain ⟨zc3,zf3⟩:=LM.out.cells.2 3 _ rfl;obtain ⟨zc4,zf4⟩:=LM.out.cells.2 4 _ rfl;obtain ⟨zc5,zf5⟩:=LM.out.cells.2 5 _ rfl;obtain ⟨zc6,zf6⟩:=LM.out.cells.2 6 _ rfl;obtain ⟨zc7,zf7⟩:=LM.out.cells.2 7 _ rfl;obtain ⟨zc8,zf8⟩:=LM.out.cells.2 8 _ rfl;obtain ⟨zc9,zf9⟩:=LM.out.cells.2 9 _ rfl;obtain ⟨zc10,zf10⟩:=LM.out.cells.2 10 _ rfl;obtain ⟨zc11,zf11⟩:=LM.out.cells.2 11 _ rfl;clear LM0;go_wp2;change bodyPost _ _ _ _ _ (putD y (w.heap.size + 1) d (.slice pf nf cf) (.slice pq mq cq));have pa:=putD_at (y:=y) LM.out.rc d (.slice pf nf cf) (.slice pq mq cq);have pb:=putD_below LM.out.b (show w.heap.size≤w.heap.size + 1 by omega) d (.slice pf nf cf) (.slice pq mq cq);generalize putD y (w.heap.size + 1) d (.slice pf nf cf) (.slice pq mq cq)=yy at *;refine bodyPost_ret (res_dev2 Tryz.results33 rfl rfl pa) rfl ?_;exact ⟨d,pf,nf,cf,pq,mq,cq,by rw [e8.out]; rfl,pb,fun d' hd=>by rw [e8.out] at hd; cases hd⟩
     · obtain rfl:k=sl:=by omega
       have hns:¬ kPol ∈ seen:=fun hm=>by
        obtain ⟨j,hj,hj2⟩:=List.mem_iff_getElem.1 hm;exact no.out j hj (by have:=hsl2.out; omega) hj2
       have st:Hid (stepM d seen (kPol :: a)=match updM kPol a with | none=>.error 6 | some u=>.ok (u d)):=step_nf rfl (by decide) hns;have LM:Hid (LineM w (x0.drewN n) d (.slice pf nf cf) (.slice pq mq cq)):=LM0.out.below (below_drewN (Below.refl _ _) _);have hcy:(x0.drewN n).cell? ⟨g,o,none⟩=some (.string ⟨#[112,111,108,108]⟩):=hc0;generalize x0.drewN n=y at *;obtain ⟨dc0,df0⟩:=LM.out.cells.1 0 _ rfl;obtain ⟨dc1,df1⟩:=LM.out.cells.1 1 _ rfl;obtain ⟨dc2,df2⟩:=LM.out.cells.1 2 _ rfl;obtain ⟨dc3,df3⟩:=LM.out.cells.1 3 _ rfl;obtain ⟨dc4,df4⟩:=LM.out.cells.1 4 _ rfl;obtain ⟨dc5,df5⟩:=LM.out.cells.1 5 _ rfl;obtain ⟨dc6,df6⟩:=LM.out.cells.1 6 _ rfl;obtain ⟨dc7,df7⟩:=LM.out.cells.1 7 _ rfl;obtain ⟨dc8,df8⟩:=LM.out.cells.1 8 _ rfl;obtain ⟨dc9,df9⟩:=LM.out.cells.1 9 _ rfl;obtain ⟨dc10,df10⟩:=LM.out.cells.1 10 _ rfl;obtain ⟨dc11,df11⟩:=LM.out.cells.1 11 _ rfl;obtain ⟨zc0,zf0⟩:=LM.out.cells.2 0 _ rfl;obtain ⟨zc1,zf1⟩:=LM.out.cells.2 1 _ rfl;obtain ⟨zc2,zf2⟩:=LM.out.cells.2 2 _ rfl;obtain ⟨zc3,zf3⟩:=LM.out.cells.2 3 _ rfl;obtain ⟨zc4,zf4⟩:=LM.out.cells.2 4 _ rfl;obtain ⟨zc5,zf5⟩:=LM.out.cells.2 5 _ rfl;obtain ⟨zc6,zf6⟩:=LM.out.cells.2 6 _ rfl;obtain ⟨zc7,zf7⟩:=LM.out.cells.2 7 _ rfl;obtain ⟨zc8,zf8⟩:=LM.out.cells.2 8 _ rfl;obtain ⟨zc9,zf9⟩:=LM.out.cells.2 9 _ rfl;obtain ⟨zc10,zf10⟩:=LM.out.cells.2 10 _ rfl;obtain ⟨zc11,zf11⟩:=LM.out.cells.2 11 _ rfl;clear LM0 no hns hc0
       by_cases h1:a.length=1
       · obtain ⟨z,rfl⟩:=len_one h1;have hc1:y.cell? ⟨g,o + 1,none⟩=some (.string (txt z)):=kp LM.out.b (wi.out 1 (by simp));have hz5:=hz.out z (by simp);have fn:Hid (∀ w,Calls Tryz.prog 65 #[.string (txt z),.int .i64 1,.int .i64 1000] w fun e w'=>e=.returned (.tuple #[.int .i64 (numV z 1 1000),.bool (numB z 1 1000)])∧w'=w):=fun w=>rnum_any (txt z) w (by rw [txt_size]; unfold maxLen; omega) _ _
         have hm:updM kPol [z]=if numB z 1 1000=true then some (fun d=>{ d with po:=readV z }) else none:=rfl;rw [hm] at st
         cases hN:numB z 1 1000
         · rw [hN] at fn st;replace st:Hid (stepM d seen [kPol,z]=.error 6):=st;generalize numV z 1 1000=V at *
           go_wp2_with fail
           refine (fn.out _).mono ?_;rintro e yA ⟨rfl,rfl⟩;clear fn;go_wp2;change bodyPost _ _ _ _ _ (putD yA (w.heap.size + 1) d (.slice pf nf cf) (.slice pq mq cq));have pa:=putD_at (y:=yA) LM.out.rc d (.slice pf nf cf) (.slice pq mq cq);have pb:=putD_below LM.out.b (show w.heap.size≤w.heap.size + 1 by omega) d (.slice pf nf cf) (.slice pq mq cq);generalize putD yA (w.heap.size + 1) d (.slice pf nf cf) (.slice pq mq cq)=yy at *;refine bodyPost_ret (res_dev2 Tryz.results33 rfl rfl pa) rfl ?_;exact ⟨d,pf,nf,cf,pq,mq,cq,by rw [st.out]; rfl,pb,fun d' hd=>by rw [st.out] at hd; cases hd⟩
         · have nv:numV z 1 1000=readV z:=by unfold numV; rw [if_pos hN]
           rw [hN,nv] at fn;rw [hN] at st;replace st:Hid (stepM d seen [kPol,z]=.ok { d with po:=readV z }):=st
           go_wp2_with fail
           refine (fn.out _).mono ?_;rintro e yA ⟨rfl,rfl⟩;clear fn;go_wp2;have LR:(yA.setCell ⟨w.heap.size,8,none⟩ (.int .i64 (readV z))).heap[w.heap.size + 1]?=some (.cells dz 25 (0,0)):=(Below.heap_setCell _ _ _ _ (show w.heap.size + 1 ≠ w.heap.size by omega)).trans LM.out.rc;have LB:Below w.heap.size w (yA.setCell ⟨w.heap.size,8,none⟩ (.int .i64 (readV z))):=LM.out.b.setCell (p:=⟨w.heap.size,8,none⟩) (Nat.le_refl _) _;generalize (yA.setCell ⟨w.heap.size,8,none⟩ (.int .i64 (readV z)))=y2 at *;change bodyPost _ _ _ _ _ (put12 y2 (w.heap.size + 1) (.string (txt d.nm)) (.int .i64 d.st) (.int .i64 d.es) (.int .i64 d.mx) (.int .i64 d.sz) (.string (txt d.sm)) (.slice pf nf cf) (.slice pq mq cq) (.int .i64 (readV z)) (.int .i64 d.ti) (.int .i64 d.re) (.int .i64 d.ag));have pa:=put12_at (y:=y2) LR (.string (txt d.nm)) (.int .i64 d.st) (.int .i64 d.es) (.int .i64 d.mx) (.int .i64 d.sz) (.string (txt d.sm)) (.slice pf nf cf) (.slice pq mq cq) (.int .i64 (readV z)) (.int .i64 d.ti) (.int .i64 d.re) (.int .i64 d.ag);have pb:=put12_below LB (show w.heap.size≤w.heap.size + 1 by omega) (.string (txt d.nm)) (.int .i64 d.st) (.int .i64 d.es) (.int .i64 d.mx) (.int .i64 d.sz) (.string (txt d.sm)) (.slice pf nf cf) (.slice pq mq cq) (.int .i64 (readV z)) (.int .i64 d.ti) (.int .i64 d.re) (.int .i64 d.ag);have FQ2:=fq_put FQ0.out LB (show w.heap.size≤w.heap.size + 1 by omega) (.string (txt d.nm)) (.int .i64 d.st) (.int .i64 d.es) (.int .i64 d.mx) (.int .i64 d.sz) (.string (txt d.sm)) (.slice pf nf cf) (.slice pq mq cq) (.int .i64 (readV z)) (.int .i64 d.ti) (.int .i64 d.re) (.int .i64 d.ag);generalize put12 y2 (w.heap.size + 1) (.string (txt d.nm)) (.int .i64 d.st) (.int .i64 d.es) (.int .i64 d.mx) (.int .i64 d.sz) (.string (txt d.sm)) (.slice pf nf cf) (.slice pq mq cq) (.int .i64 (readV z)) (.int .i64 d.ti) (.int .i64 d.re) (.int .i64 d.ag)=yy at *;refine bodyPost_ret (res_dev2 Tryz.results33 rfl rfl pa) rfl ?_;refine ⟨{ d with po:=readV z },pf,nf,cf,pq,mq,cq,by rw [st.out]; rfl,pb,fun d' hd=>?_⟩;rw [st.out] at hd
           cases hd
           exact ⟨rfl,FQ2.1,FQ2.2,.inl rfl,.inl rfl⟩
       · have n2:((a.length:Int) + 1 != 2)=true:=bne_iff_ne.2 (by omega);have hm:updM kPol a=none:=(upd_pol a).trans (mNum_len h1 _ _ _);rw [hm] at st;replace st:Hid (stepM d seen (kPol :: a)=.error 6):=st;go_wp2;change bodyPost _ _ _ _ _ (putD y (w.heap.size + 1) d (.slice pf nf cf) (.slice pq mq cq));have pa:=putD_at (y:=y) LM.out.rc d (.slice pf nf cf) (.slice pq mq cq);have pb:=putD_below LM.out.b (show w.heap.size≤w.heap.size + 1 by omega) d (.slice pf nf cf) (.slice pq mq cq);generalize putD y (w.heap.size + 1) d (.slice pf nf cf) (.slice pq mq cq)=yy at *;refine bodyPost_ret (res_dev2 Tryz.results33 rfl rfl pa) rfl ?_;exact ⟨d,pf,nf,cf,pq,mq,cq,by rw [st.out]; rfl,pb,fun d' hd=>by rw [st.out] at hd; cases hd⟩
theorem line_tim (a:List Wd) (d:Dv) (pf:Option Addr) (nf cf:Nat) (pq:Option Addr) (mq cq:Nat) (g o cap:Nat) (w:World) (hi:StrsIn w g o (kTim :: a)) (hgw:g < w.heap.size) (hl:(a.length:Int)≤5000) (hz:∀ z ∈ a,(z.length:Int)≤5000) (ps:Option Addr) (cs:Nat) (seen:List Wd) (hs:StrsAt w (.slice ps seen.length cs) seen) (hsl:(seen.length:Int)≤5000) (hfl:FldsAt w (.slice pf nf cf) d.fs) (hrq:BytesAt w (.slice pq mq cq) d.rq) :
 Calls Tryz.prog 33 #[dvV d (.slice pf nf cf) (.slice pq mq cq),.slice (some ⟨g,o,none⟩) (a.length + 1) cap,.slice ps seen.length cs] w (LineQ w d (.slice pf nf cf) (.slice pq mq cq) seen (kTim :: a)):=by
 have m0:=lineM_first w d (.slice pf nf cf) (.slice pq mq cq);have n0:((a.length:Int) + 1 == 0)=false:=beq_eq_false_iff_ne.2 (by omega);have FQ0:Hid (FldsAt w (.slice pf nf cf) d.fs∧BytesAt w (.slice pq mq cq) d.rq):=⟨hfl,hrq⟩;have wi:Hid (StrsIn w g o (kTim :: a)):=hi;replace hs:Hid (StrsAt w (.slice ps seen.length cs) seen):=hs;replace hz:Hid (∀ z ∈ a,(z.length:Int)≤5000):=hz;obtain ⟨sl,hsl2⟩:∃ sl,seen.length=sl:=⟨_,rfl⟩;rw [hsl2] at hs hsl ⊢;replace hsl2:Hid (seen.length=sl):=hsl2;clear hfl hrq hi
 go_enter Tryz.func33,Tryz.ntmps33
 go_upto_region 5 with fail
 change Code.wp Tryz.prog _ _ _ (LineW w d (.slice pf nf cf) (.slice pq mq cq));have LM0:Hid (LineM w (LineW w d (.slice pf nf cf) (.slice pq mq cq)) d (.slice pf nf cf) (.slice pq mq cq)):=m0.1;have lc0:Hid (∀ (i:Nat) (h:i < 11),(LineW w d (.slice pf nf cf) (.slice pq mq cq)).cell? ⟨w.heap.size + 1 + 1,i,none⟩=some (.string (txt (allK[i]'h)))):=fun i h=>(rd_cell m0.2 i).1.trans (allC_at i h)
 have hc0:(LineW w d (.slice pf nf cf) (.slice pq mq cq)).cell? ⟨g,o,none⟩=some (.string ⟨#[116,105,109,101,111,117,116]⟩):=kp m0.1.b (wi.out 0 (by simp));clear m0;generalize LineW w d (.slice pf nf cf) (.slice pq mq cq)=x0 at *;go_wp2
 go_loopw [8,10] (fun vk vi wr=>∃ n k:Nat,(k:Int)≤11∧wr=x0.drewN n∧vi=.int .i64 (k:Int)∧vk=.bool (decide (kTim ∈ allK.take k))) (fun vk vi wr=>(11 - intOf vi).toNat)
 case atStart=>exact ⟨0,0,by omega,rfl,rfl,by simp⟩
 case round=>
  obtain ⟨n,k,hk11,rfl,rfl,rfl⟩:=hrel
  by_cases hlt:k < 11
  · have hki:(k:Int) < 11:=by omega
    have st:=allK_step kTim k hlt;have l1:=lc0.out k hlt;have wk:IntKind.i64.wrap ((k:Int) + 1)=(k:Int) + 1:=by simp only [IntKind.wrap_i64]; omega
    have cmp:(txt (allK[k]'hlt) == ⟨#[116,105,109,101,111,117,116]⟩)=decide (allK[k]'hlt=kTim):=txt_beq _ kTim;generalize allK[k]'hlt=ak at *;clear lc0 LM0
    cases hd:decide (kTim ∈ allK.take k)
    · rw [hd,Bool.false_or] at st;have c2:((txt ak).toList == [116,105,109,101,111,117,116])=decide (ak=kTim):=by
       rw [Bool.eq_iff_iff,decide_eq_true_iff,beq_iff_eq,ByteArray.toList_eq];exact ⟨fun h=>h,fun h=>by rw [h]; rfl⟩
      generalize decide (ak=kTim)=R at *
      go_wp2_with fail
      go_quiet (fail)
      go_wp2;exact ⟨⟨n + nq,k + 1,by omega,rfl,by simp,by rw [st]⟩,by simp [intOf]; omega⟩
    · rw [hd,Bool.true_or] at st
      go_wp2_with fail
      go_quiet (fail)
      go_wp2;exact ⟨⟨n + nq,k + 1,by omega,rfl,by simp,by rw [st]⟩,by simp [intOf]; omega⟩
  · obtain rfl:k=11:=by omega
    rw [allK_mem,show knownB kTim=true from rfl];clear lc0;go_wp2
    go_loopw [11] (fun vi wr=>∃ n k:Nat,(k:Int)≤(sl:Int)∧wr=x0.drewN n∧vi=.int .i64 (k:Int)∧Hid (∀ j (h:j < seen.length),j < k→¬ seen[j]=kTim)) (fun vi wr=>((sl:Int) - intOf vi).toNat)
    case atStart=>exact ⟨n,0,by omega,rfl,rfl,fun j _ h=>(by cases h)⟩
    case round=>
     obtain ⟨n,k,hk,rfl,rfl,no⟩:=hrel
     by_cases hlt:k < sl
     · have hki:(k:Int) < (sl:Int):=by omega
       have hks:k < seen.length:=by have:=hsl2.out; omega
       rcases hs.out with ⟨_,hnil⟩ | ⟨gs,os,cs',e1,hin,hgs⟩
       · rw [hnil] at hks; cases hks
       injection e1 with e1 e2 e3
       subst e1;subst e3;clear e2;have l1:=kp LM0.out.b (hin k hks);have wk:IntKind.i64.wrap ((k:Int) + 1)=(k:Int) + 1:=by simp only [IntKind.wrap_i64]; omega
       obtain ⟨ak,hak⟩:∃ ak,seen[k]=ak:=⟨_,rfl⟩;rw [hak] at l1;have cmp:(txt ak == ⟨#[116,105,109,101,111,117,116]⟩)=decide (ak=kTim):=txt_beq _ kTim;have c2:((txt ak).toList == [116,105,109,101,111,117,116])=decide (ak=kTim):=by
        rw [Bool.eq_iff_iff,decide_eq_true_iff,beq_iff_eq,ByteArray.toList_eq];exact ⟨fun h=>h,fun h=>by rw [h]; rfl⟩
       cases hd:decide (ak=kTim)
       · rw [hd] at cmp c2;have no2:Hid (∀ j (h:j < seen.length),j < k + 1→¬ seen[j]=kTim):=fun j h hj=>by
          by_cases hjk:j=k
          · subst hjk; rw [hak]; simpa using hd
          · exact no.out j h (by omega)
         clear hin hak no hd LM0
         go_wp2_with fail
         go_quiet (fail)
         go_wp2;exact ⟨⟨n + nq,k + 1,by omega,rfl,by simp,no2⟩,by simp [intOf]; omega⟩
       · rw [hd] at cmp c2;have e8:Hid (stepM d seen (kTim :: a)=.error 8):=by
          have hm:kTim ∈ seen:=by
           have:ak=kTim:=by simpa using hd
           rw [← this,← hak]; exact List.getElem_mem hks
          unfold Hid stepM;simp only [show knownB kTim=true from rfl];rw [if_neg (by decide),if_pos ⟨by decide,hm⟩]
         clear hin hak no hd
         go_wp2_with fail
         go_quiet (fail)
         go_upto_region 15 with fail
         have LM:Hid (LineM w ((x0.drewN n).drewN nq) d (.slice pf nf cf) (.slice pq mq cq)):=LM0.out.below (below_drewN (below_drewN (Below.refl _ _) _) _);generalize (x0.drewN n).drewN nq=y at *;obtain ⟨dc0,df0⟩:=LM.out.cells.1 0 _ rfl;obtain ⟨dc1,df1⟩:=LM.out.cells.1 1 _ rfl;obtain ⟨dc2,df2⟩:=LM.out.cells.1 2 _ rfl;obtain ⟨dc3,df3⟩:=LM.out.cells.1 3 _ rfl;obtain ⟨dc4,df4⟩:=LM.out.cells.1 4 _ rfl;obtain ⟨dc5,df5⟩:=LM.out.cells.1 5 _ rfl;obtain ⟨dc6,df6⟩:=LM.out.cells.1 6 _ rfl;obtain ⟨dc7,df7⟩:=LM.out.cells.1 7 _ rfl;obtain ⟨dc8,df8⟩:=LM.out.cells.1 8 _ rfl;obtain ⟨dc9,df9⟩:=LM.out.cells.1 9 _ rfl;obtain ⟨dc10,df10⟩:=LM.out.cells.1 10 _ rfl;obtain ⟨dc11,df11⟩:=LM.out.cells.1 11 _ rfl;obtain ⟨zc0,zf0⟩:=LM.out.cells.2 0 _ rfl;obtain ⟨zc1,zf1⟩:=LM.out.cells.2 1 _ rfl;obtain ⟨zc2,zf2⟩:=LM.out.cells.2 2 _ rfl;obtain ⟨zc3,zf3⟩:=LM.out.cells.2 3 _ rfl;obtain ⟨zc4,zf4⟩:=LM.out.cells.2 4 _ rfl;obtain ⟨zc5,zf5⟩:=LM.out.cells.2 5 _ rfl;obtain ⟨zc6,zf6⟩:=LM.out.cells.2 6 _ rfl;obtain ⟨zc7,zf7⟩:=LM.out.cells.2 7 _ rfl;obtain ⟨zc8,zf8⟩:=LM.out.cells.2 8 _ rfl;obtain ⟨zc9,zf9⟩:=LM.out.cells.2 9 _ rfl;obtain ⟨zc10,zf10⟩:=LM.out.cells.2 10 _ rfl;obtain ⟨zc11,zf11⟩:=LM.out.cells.2 11 _ rfl;clear LM0;go_wp2;change bodyPost _ _ _ _ _ (putD y (w.heap.size + 1) d (.slice pf nf cf) (.slice pq mq cq));have pa:=putD_at (y:=y) LM.out.rc d (.slice pf nf cf) (.slice pq mq cq);have pb:=putD_below LM.out.b (show w.heap.size≤w.heap.size + 1 by omega) d (.slice pf nf cf) (.slice pq mq cq);generalize putD y (w.heap.size + 1) d (.slice pf nf cf) (.slice pq mq cq)=yy at *;refine bodyPost_ret (res_dev2 Tryz.results33 rfl rfl pa) rfl ?_;exact ⟨d,pf,nf,cf,pq,mq,cq,by rw [e8.out]; rfl,pb,fun d' hd=>by rw [e8.out] at hd; cases hd⟩
     · obtain rfl:k=sl:=by omega
       have hns:¬ kTim ∈ seen:=fun hm=>by
        obtain ⟨j,hj,hj2⟩:=List.mem_iff_getElem.1 hm;exact no.out j hj (by have:=hsl2.out; omega) hj2
       have st:Hid (stepM d seen (kTim :: a)=match updM kTim a with | none=>.error 6 | some u=>.ok (u d)):=step_nf rfl (by decide) hns;have LM:Hid (LineM w (x0.drewN n) d (.slice pf nf cf) (.slice pq mq cq)):=LM0.out.below (below_drewN (Below.refl _ _) _);have hcy:(x0.drewN n).cell? ⟨g,o,none⟩=some (.string ⟨#[116,105,109,101,111,117,116]⟩):=hc0;generalize x0.drewN n=y at *;obtain ⟨dc0,df0⟩:=LM.out.cells.1 0 _ rfl;obtain ⟨dc1,df1⟩:=LM.out.cells.1 1 _ rfl;obtain ⟨dc2,df2⟩:=LM.out.cells.1 2 _ rfl;obtain ⟨dc3,df3⟩:=LM.out.cells.1 3 _ rfl;obtain ⟨dc4,df4⟩:=LM.out.cells.1 4 _ rfl;obtain ⟨dc5,df5⟩:=LM.out.cells.1 5 _ rfl;obtain ⟨dc6,df6⟩:=LM.out.cells.1 6 _ rfl;obtain ⟨dc7,df7⟩:=LM.out.cells.1 7 _ rfl;obtain ⟨dc8,df8⟩:=LM.out.cells.1 8 _ rfl;obtain ⟨dc9,df9⟩:=LM.out.cells.1 9 _ rfl;obtain ⟨dc10,df10⟩:=LM.out.cells.1 10 _ rfl;obtain ⟨dc11,df11⟩:=LM.out.cells.1 11 _ rfl;obtain ⟨zc0,zf0⟩:=LM.out.cells.2 0 _ rfl;obtain ⟨zc1,zf1⟩:=LM.out.cells.2 1 _ rfl;obtain ⟨zc2,zf2⟩:=LM.out.cells.2 2 _ rfl;obtain ⟨zc3,zf3⟩:=LM.out.cells.2 3 _ rfl;obtain ⟨zc4,zf4⟩:=LM.out.cells.2 4 _ rfl;obtain ⟨zc5,zf5⟩:=LM.out.cells.2 5 _ rfl;obtain ⟨zc6,zf6⟩:=LM.out.cells.2 6 _ rfl;obtain ⟨zc7,zf7⟩:=LM.out.cells.2 7 _ rfl;obtain ⟨zc8,zf8⟩:=LM.out.cells.2 8 _ rfl;obtain ⟨zc9,zf9⟩:=LM.out.cells.2 9 _ rfl;obtain ⟨zc10,zf10⟩:=LM.out.cells.2 10 _ rfl;obtain ⟨zc11,zf11⟩:=LM.out.cells.2 11 _ rfl;clear LM0 no hns hc0
       by_cases h1:a.length=1
       · obtain ⟨z,rfl⟩:=len_one h1;have hc1:y.cell? ⟨g,o + 1,none⟩=some (.string (txt z)):=kp LM.out.b (wi.out 1 (by simp));have hz5:=hz.out z (by simp);have fn:Hid (∀ w,Calls Tryz.prog 65 #[.string (txt z),.int .i64 1,.int .i64 1000] w fun e w'=>e=.returned (.tuple #[.int .i64 (numV z 1 1000),.bool (numB z 1 1000)])∧w'=w):=fun w=>rnum_any (txt z) w (by rw [txt_size]; unfold maxLen; omega) _ _
         have hm:updM kTim [z]=if numB z 1 1000=true then some (fun d=>{ d with ti:=readV z }) else none:=rfl;rw [hm] at st
         cases hN:numB z 1 1000
         · rw [hN] at fn st;replace st:Hid (stepM d seen [kTim,z]=.error 6):=st;generalize numV z 1 1000=V at *
           go_wp2_with fail
           refine (fn.out _).mono ?_;rintro e yA ⟨rfl,rfl⟩;clear fn;go_wp2;change bodyPost _ _ _ _ _ (putD yA (w.heap.size + 1) d (.slice pf nf cf) (.slice pq mq cq));have pa:=putD_at (y:=yA) LM.out.rc d (.slice pf nf cf) (.slice pq mq cq);have pb:=putD_below LM.out.b (show w.heap.size≤w.heap.size + 1 by omega) d (.slice pf nf cf) (.slice pq mq cq);generalize putD yA (w.heap.size + 1) d (.slice pf nf cf) (.slice pq mq cq)=yy at *;refine bodyPost_ret (res_dev2 Tryz.results33 rfl rfl pa) rfl ?_;exact ⟨d,pf,nf,cf,pq,mq,cq,by rw [st.out]; rfl,pb,fun d' hd=>by rw [st.out] at hd; cases hd⟩
         · have nv:numV z 1 1000=readV z:=by unfold numV; rw [if_pos hN]
           rw [hN,nv] at fn;rw [hN] at st;replace st:Hid (stepM d seen [kTim,z]=.ok { d with ti:=readV z }):=st
           go_wp2_with fail
           refine (fn.out _).mono ?_;rintro e yA ⟨rfl,rfl⟩;clear fn;go_wp2;have LR:(yA.setCell ⟨w.heap.size,9,none⟩ (.int .i64 (readV z))).heap[w.heap.size + 1]?=some (.cells dz 25 (0,0)):=(Below.heap_setCell _ _ _ _ (show w.heap.size + 1 ≠ w.heap.size by omega)).trans LM.out.rc;have LB:Below w.heap.size w (yA.setCell ⟨w.heap.size,9,none⟩ (.int .i64 (readV z))):=LM.out.b.setCell (p:=⟨w.heap.size,9,none⟩) (Nat.le_refl _) _;generalize (yA.setCell ⟨w.heap.size,9,none⟩ (.int .i64 (readV z)))=y2 at *;change bodyPost _ _ _ _ _ (put12 y2 (w.heap.size + 1) (.string (txt d.nm)) (.int .i64 d.st) (.int .i64 d.es) (.int .i64 d.mx) (.int .i64 d.sz) (.string (txt d.sm)) (.slice pf nf cf) (.slice pq mq cq) (.int .i64 d.po) (.int .i64 (readV z)) (.int .i64 d.re) (.int .i64 d.ag));have pa:=put12_at (y:=y2) LR (.string (txt d.nm)) (.int .i64 d.st) (.int .i64 d.es) (.int .i64 d.mx) (.int .i64 d.sz) (.string (txt d.sm)) (.slice pf nf cf) (.slice pq mq cq) (.int .i64 d.po) (.int .i64 (readV z)) (.int .i64 d.re) (.int .i64 d.ag);have pb:=put12_below LB (show w.heap.size≤w.heap.size + 1 by omega) (.string (txt d.nm)) (.int .i64 d.st) (.int .i64 d.es) (.int .i64 d.mx) (.int .i64 d.sz) (.string (txt d.sm)) (.slice pf nf cf) (.slice pq mq cq) (.int .i64 d.po) (.int .i64 (readV z)) (.int .i64 d.re) (.int .i64 d.ag);have FQ2:=fq_put FQ0.out LB (show w.heap.size≤w.heap.size + 1 by omega) (.string (txt d.nm)) (.int .i64 d.st) (.int .i64 d.es) (.int .i64 d.mx) (.int .i64 d.sz) (.string (txt d.sm)) (.slice pf nf cf) (.slice pq mq cq) (.int .i64 d.po) (.int .i64 (readV z)) (.int .i64 d.re) (.int .i64 d.ag);generalize put12 y2 (w.heap.size + 1) (.string (txt d.nm)) (.int .i64 d.st) (.int .i64 d.es) (.int .i64 d.mx) (.int .i64 d.sz) (.string (txt d.sm)) (.slice pf nf cf) (.slice pq mq cq) (.int .i64 d.po) (.int .i64 (readV z)) (.int .i64 d.re) (.int .i64 d.ag)=yy at *;refine bodyPost_ret (res_dev2 Tryz.results33 rfl rfl pa) rfl ?_;refine ⟨{ d with ti:=readV z },pf,nf,cf,pq,mq,cq,by rw [st.out]; rfl,pb,fun d' hd=>?_⟩;rw [st.out] at hd
           cases hd
           exact ⟨rfl,FQ2.1,FQ2.2,.inl rfl,.inl rfl⟩
       · have n2:((a.length:Int) + 1 != 2)=true:=bne_iff_ne.2 (by omega);have hm:updM kTim a=none:=(upd_tim a).trans (mNum_len h1 _ _ _);rw [hm] at st;replace st:Hid (stepM d seen (kTim :: a)=.error 6):=st;go_wp2;change bodyPost _ _ _ _ _ (putD y (w.heap.size + 1) d (.slice pf nf cf) (.slice pq mq cq));have pa:=putD_at (y:=y) LM.out.rc d (.slice pf nf cf) (.slice pq mq cq);have pb:=putD_below LM.out.b (show w.heap.size≤w.heap.size + 1 by omega) d (.slice pf nf cf) (.slice pq mq cq);generalize putD y (w.heap.size + 1) d (.slice pf nf cf) (.slice pq mq cq)=yy at *;refine bodyPost_ret (res_dev2 Tryz.results33 rfl rfl pa) rfl ?_;exact ⟨d,pf,nf,cf,pq,mq,cq,by rw [st.out]; rfl,pb,fun d' hd=>by rw [st.out] at hd; cases hd⟩
theorem line_ret (a:List Wd) (d:Dv) (pf:Option Addr) (nf cf:Nat) (pq:Option Addr) (mq cq:Nat) (g o cap:Nat) (w:World) (hi:StrsIn w g o (kRet :: a)) (hgw:g < w.heap.size) (hl:(a.length:Int)≤5000) (hz:∀ z ∈ a,(z.length:Int)≤5000) (ps:Option Addr) (cs:Nat) (seen:List Wd) (hs:StrsAt w (.slice ps seen.length cs) seen) (hsl:(seen.length:Int)≤5000) (hfl:FldsAt w (.slice pf nf cf) d.fs) (hrq:BytesAt w (.slice pq mq cq) d.rq) :
 Calls Tryz.prog 33 #[dvV d (.slice pf nf cf) (.slice pq mq cq),.slice (some ⟨g,o,none⟩) (a.length + 1) cap,.slice ps seen.length cs] w (LineQ w d (.slice pf nf cf) (.slice pq mq cq) seen (kRet :: a)):=by
 have m0:=lineM_first w d (.slice pf nf cf) (.slice pq mq cq);have n0:((a.length:Int) + 1 == 0)=false:=beq_eq_false_iff_ne.2 (by omega);have FQ0:Hid (FldsAt w (.slice pf nf cf) d.fs∧BytesAt w (.slice pq mq cq) d.rq):=⟨hfl,hrq⟩;have wi:Hid (StrsIn w g o (kRet :: a)):=hi;replace hs:Hid (StrsAt w (.slice ps seen.length cs) seen):=hs;replace hz:Hid (∀ z ∈ a,(z.length:Int)≤5000):=hz;obtain ⟨sl,hsl2⟩:∃ sl,seen.length=sl:=⟨_,rfl⟩;rw [hsl2] at hs hsl ⊢;replace hsl2:Hid (seen.length=sl):=hsl2;clear hfl hrq hi
 go_enter Tryz.func33,Tryz.ntmps33
 go_upto_region 5 with fail
 change Code.wp Tryz.prog _ _ _ (LineW w d (.slice pf nf cf) (.slice pq mq cq));have LM0:Hid (LineM w (LineW w d (.slice pf nf cf) (.slice pq mq cq)) d (.slice pf nf cf) (.slice pq mq cq)):=m0.1;have lc0:Hid (∀ (i:Nat) (h:i < 11),(LineW w d (.slice pf nf cf) (.slice pq mq cq)).cell? ⟨w.heap.size + 1 + 1,i,none⟩=some (.string (txt (allK[i]'h)))):=fun i h=>(rd_cell m0.2 i).1.trans (allC_at i h)
 have hc0:(LineW w d (.slice pf nf cf) (.slice pq mq cq)).cell? ⟨g,o,none⟩=some (.string ⟨#[114,101,116,114,105,101,115]⟩):=kp m0.1.b (wi.out 0 (by simp));clear m0;generalize LineW w d (.slice pf nf cf) (.slice pq mq cq)=x0 at *;go_wp2
 go_loopw [8,10] (fun vk vi wr=>∃ n k:Nat,(k:Int)≤11∧wr=x0.drewN n∧vi=.int .i64 (k:Int)∧vk=.bool (decide (kRet ∈ allK.take k))) (fun vk vi wr=>(11 - intOf vi).toNat)
 case atStart=>exact ⟨0,0,by omega,rfl,rfl,by simp⟩
 case round=>
  obtain ⟨n,k,hk11,rfl,rfl,rfl⟩:=hrel
  by_cases hlt:k < 11
  · have hki:(k:Int) < 11:=by omega
    have st:=allK_step kRet k hlt;have l1:=lc0.out k hlt;have wk:IntKind.i64.wrap ((k:Int) + 1)=(k:Int) + 1:=by simp only [IntKind.wrap_i64]; omega
    have cmp:(txt (allK[k]'hlt) == ⟨#[114,101,116,114,105,101,115]⟩)=decide (allK[k]'hlt=kRet):=txt_beq _ kRet;generalize allK[k]'hlt=ak at *;clear lc0 LM0
    cases hd:decide (kRet ∈ allK.take k)
    · rw [hd,Bool.false_or] at st;have c2:((txt ak).toList == [114,101,116,114,105,101,115])=decide (ak=kRet):=by
       rw [Bool.eq_iff_iff,decide_eq_true_iff,beq_iff_eq,ByteArray.toList_eq];exact ⟨fun h=>h,fun h=>by rw [h]; rfl⟩
      generalize decide (ak=kRet)=R at *
      go_wp2_with fail
      go_quiet (fail)
      go_wp2;exact ⟨⟨n + nq,k + 1,by omega,rfl,by simp,by rw [st]⟩,by simp [intOf]; omega⟩
    · rw [hd,Bool.true_or] at st
      go_wp2_with fail
      go_quiet (fail)
      go_wp2;exact ⟨⟨n + nq,k + 1,by omega,rfl,by simp,by rw [st]⟩,by simp [intOf]; omega⟩
  · obtain rfl:k=11:=by omega
    rw [allK_mem,show knownB kRet=true from rfl];clear lc0;go_wp2
    go_loopw [11] (fun vi wr=>∃ n k:Nat,(k:Int)≤(sl:Int)∧wr=x0.drewN n∧vi=.int .i64 (k:Int)∧Hid (∀ j (h:j < seen.length),j < k→¬ seen[j]=kRet)) (fun vi wr=>((sl:Int) - intOf vi).toNat)
    case atStart=>exact ⟨n,0,by omega,rfl,rfl,fun j _ h=>(by cases h)⟩
    case round=>
     obtain ⟨n,k,hk,rfl,rfl,no⟩:=hrel
     by_cases hlt:k < sl
     · have hki:(k:Int) < (sl:Int):=by omega
       have hks:k < seen.length:=by have:=hsl2.out; omega
       rcases hs.out with ⟨_,hnil⟩ | ⟨gs,os,cs',e1,hin,hgs⟩
       · rw [hnil] at hks; cases hks
       injection e1 with e1 e2 e3
       subst e1;subst e3;clear e2;have l1:=kp LM0.out.b (hin k hks);have wk:IntKind.i64.wrap ((k:Int) + 1)=(k:Int) + 1:=by simp only [IntKind.wrap_i64]; omega
       obtain ⟨ak,hak⟩:∃ ak,seen[k]=ak:=⟨_,rfl⟩;rw [hak] at l1;have cmp:(txt ak == ⟨#[114,101,116,114,105,101,115]⟩)=decide (ak=kRet):=txt_beq _ kRet;have c2:((txt ak).toList == [114,101,116,114,105,101,115])=decide (ak=kRet):=by
        rw [Bool.eq_iff_iff,decide_eq_true_iff,beq_iff_eq,ByteArray.toList_eq];exact ⟨fun h=>h,fun h=>by rw [h]; rfl⟩
       cases hd:decide (ak=kRet)
       · rw [hd] at cmp c2;have no2:Hid (∀ j (h:j < seen.length),j < k + 1→¬ seen[j]=kRet):=fun j h hj=>by
          by_cases hjk:j=k
          · subst hjk; rw [hak]; simpa using hd
          · exact no.out j h (by omega)
         clear hin hak no hd LM0
         go_wp2_with fail
         go_quiet (fail)
         go_wp2;exact ⟨⟨n + nq,k + 1,by omega,rfl,by simp,no2⟩,by simp [intOf]; omega⟩
       · rw [hd] at cmp c2;have e8:Hid (stepM d seen (kRet :: a)=.error 8):=by
          have hm:kRet ∈ seen:=by
           have:ak=kRet:=by simpa using hd
           rw [← this,← hak]; exact List.getElem_mem hks
          unfold Hid stepM;simp only [show knownB kRet=true from rfl];rw [if_neg (by decide),if_pos ⟨by decide,hm⟩]
         clear hin hak no hd
         go_wp2_with fail
         go_quiet (fail)
         go_upto_region 15 with fail
         have LM:Hid (LineM w ((x0.drewN n).drewN nq) d (.slice pf nf cf) (.slice pq mq cq)):=LM0.out.below (below_drewN (below_drewN (Below.refl _ _) _) _);generalize (x0.drewN n).drewN nq=y at *;obtain ⟨dc0,df0⟩:=LM.out.cells.1 0 _ rfl;obtain ⟨dc1,df1⟩:=LM.out.cells.1 1 _ rfl;obtain ⟨dc2,df2⟩:=LM.out.cells.1 2 _ rfl;obtain ⟨dc3,df3⟩:=LM.out.cells.1 3 _ rfl;obtain ⟨dc4,df4⟩:=LM.out.cells.1 4 _ rfl;obtain ⟨dc5,df5⟩:=LM.out.cells.1 5 _ rfl;obtain ⟨dc6,df6⟩:=LM.out.cells.1 6 _ rfl;obtain ⟨dc7,df7⟩:=LM.out.cells.1 7 _ rfl;obtain ⟨dc8,df8⟩:=LM.out.cells.1 8 _ rfl;obtain ⟨dc9,df9⟩:=LM.out.cells.1 9 _ rfl;obtain ⟨dc10,df10⟩:=LM.out.cells.1 10 _ rfl;obtain ⟨dc11,df11⟩:=LM.out.cells.1 11 _ rfl;obtain ⟨zc0,zf0⟩:=LM.out.cells.2 0 _ rfl;obtain ⟨zc1,zf1⟩:=LM.out.cells.2 1 _ rfl;obtain ⟨zc2,zf2⟩:=LM.out.cells.2 2 _ rfl;obtain ⟨zc3,zf3⟩:=LM.out.cells.2 3 _ rfl;obtain ⟨zc4,zf4⟩:=LM.out.cells.2 4 _ rfl;obtain ⟨zc5,zf5⟩:=LM.out.cells.2 5 _ rfl;obtain ⟨zc6,zf6⟩:=LM.out.cells.2 6 _ rfl;obtain ⟨zc7,zf7⟩:=LM.out.cells.2 7 _ rfl;obtain ⟨zc8,zf8⟩:=LM.out.cells.2 8 _ rfl;obtain ⟨zc9,zf9⟩:=LM.out.cells.2 9 _ rfl;obtain ⟨zc10,zf10⟩:=LM.out.cells.2 10 _ rfl;obtain ⟨zc11,zf11⟩:=LM.out.cells.2 11 _ rfl;clear LM0;go_wp2;change bodyPost _ _ _ _ _ (putD y (w.heap.size + 1) d (.slice pf nf cf) (.slice pq mq cq));have pa:=putD_at (y:=y) LM.out.rc d (.slice pf nf cf) (.slice pq mq cq);have pb:=putD_below LM.out.b (show w.heap.size≤w.heap.size + 1 by omega) d (.slice pf nf cf) (.slice pq mq cq);generalize putD y (w.heap.size + 1) d (.slice pf nf cf) (.slice pq mq cq)=yy at *;refine bodyPost_ret (res_dev2 Tryz.results33 rfl rfl pa) rfl ?_;exact ⟨d,pf,nf,cf,pq,mq,cq,by rw [e8.out]; rfl,pb,fun d' hd=>by rw [e8.out] at hd; cases hd⟩
     · obtain rfl:k=sl:=by omega
       have hns:¬ kRet ∈ seen:=fun hm=>by
        obtain ⟨j,hj,hj2⟩:=List.mem_iff_getElem.1 hm;exact no.out j hj (by have:=hsl2.out; omega) hj2
       have st:Hid (stepM d seen (kRet :: a)=match updM kRet a with | none=>.error 6 | some u=>.ok (u d)):=step_nf rfl (by decide) hns;have LM:Hid (LineM w (x0.drewN n) d (.slice pf nf cf) (.slice pq mq cq)):=LM0.out.below (below_drewN (Below.refl _ _) _);have hcy:(x0.drewN n).cell? ⟨g,o,none⟩=some (.string ⟨#[114,101,116,114,105,101,115]⟩):=hc0;generalize x0.drewN n=y at *;obtain ⟨dc0,df0⟩:=LM.out.cells.1 0 _ rfl;obtain ⟨dc1,df1⟩:=LM.out.cells.1 1 _ rfl;obtain ⟨dc2,df2⟩:=LM.out.cells.1 2 _ rfl;obtain ⟨dc3,df3⟩:=LM.out.cells.1 3 _ rfl;obtain ⟨dc4,df4⟩:=LM.out.cells.1 4 _ rfl;obtain ⟨dc5,df5⟩:=LM.out.cells.1 5 _ rfl;obtain ⟨dc6,df6⟩:=LM.out.cells.1 6 _ rfl;obtain ⟨dc7,df7⟩:=LM.out.cells.1 7 _ rfl;obtain ⟨dc8,df8⟩:=LM.out.cells.1 8 _ rfl;obtain ⟨dc9,df9⟩:=LM.out.cells.1 9 _ rfl;obtain ⟨dc10,df10⟩:=LM.out.cells.1 10 _ rfl;obtain ⟨dc11,df11⟩:=LM.out.cells.1 11 _ rfl;obtain ⟨zc0,zf0⟩:=LM.out.cells.2 0 _ rfl;obtain ⟨zc1,zf1⟩:=LM.out.cells.2 1 _ rfl;obtain ⟨zc2,zf2⟩:=LM.out.cells.2 2 _ rfl;obtain ⟨zc3,zf3⟩:=LM.out.cells.2 3 _ rfl;obtain ⟨zc4,zf4⟩:=LM.out.cells.2 4 _ rfl;obtain ⟨zc5,zf5⟩:=LM.out.cells.2 5 _ rfl;obtain ⟨zc6,zf6⟩:=LM.out.cells.2 6 _ rfl;obtain ⟨zc7,zf7⟩:=LM.out.cells.2 7 _ rfl;obtain ⟨zc8,zf8⟩:=LM.out.cells.2 8 _ rfl;obtain ⟨zc9,zf9⟩:=LM.out.cells.2 9 _ rfl;obtain ⟨zc10,zf10⟩:=LM.out.cells.2 10 _ rfl;obtain ⟨zc11,zf11⟩:=LM.out.cells.2 11 _ rfl;clear LM0 no hns hc0
       by_cases h1:a.length=1
       · obtain ⟨z,rfl⟩:=len_one h1;have hc1:y.cell? ⟨g,o + 1,none⟩=some (.string (txt z)):=kp LM.out.b (wi.out 1 (by simp));have hz5:=hz.out z (by simp);have fn:Hid (∀ w,Calls Tryz.prog 65 #[.string (txt z),.int .i64 0,.int .i64 10] w fun e w'=>e=.returned (.tuple #[.int .i64 (numV z 0 10),.bool (numB z 0 10)])∧w'=w):=fun w=>rnum_any (txt z) w (by rw [txt_size]; unfold maxLen; omega) _ _
         have hm:updM kRet [z]=if numB z 0 10=true then some (fun d=>{ d with re:=readV z }) else none:=rfl;rw [hm] at st
         cases hN:numB z 0 10
         · rw [hN] at fn st;replace st:Hid (stepM d seen [kRet,z]=.error 6):=st;generalize numV z 0 10=V at *
           go_wp2_with fail
           refine (fn.out _).mono ?_;rintro e yA ⟨rfl,rfl⟩;clear fn;go_wp2;change bodyPost _ _ _ _ _ (putD yA (w.heap.size + 1) d (.slice pf nf cf) (.slice pq mq cq));have pa:=putD_at (y:=yA) LM.out.rc d (.slice pf nf cf) (.slice pq mq cq);have pb:=putD_below LM.out.b (show w.heap.size≤w.heap.size + 1 by omega) d (.slice pf nf cf) (.slice pq mq cq);generalize putD yA (w.heap.size + 1) d (.slice pf nf cf) (.slice pq mq cq)=yy at *;refine bodyPost_ret (res_dev2 Tryz.results33 rfl rfl pa) rfl ?_;exact ⟨d,pf,nf,cf,pq,mq,cq,by rw [st.out]; rfl,pb,fun d' hd=>by rw [st.out] at hd; cases hd⟩
         · have nv:numV z 0 10=readV z:=by unfold numV; rw [if_pos hN]
           rw [hN,nv] at fn;rw [hN] at st;replace st:Hid (stepM d seen [kRet,z]=.ok { d with re:=readV z }):=st
           go_wp2_with fail
           refine (fn.out _).mono ?_;rintro e yA ⟨rfl,rfl⟩;clear fn;go_wp2;have LR:(yA.setCell ⟨w.heap.size,10,none⟩ (.int .i64 (readV z))).heap[w.heap.size + 1]?=some (.cells dz 25 (0,0)):=(Below.heap_setCell _ _ _ _ (show w.heap.size + 1 ≠ w.heap.size by omega)).trans LM.out.rc;have LB:Below w.heap.size w (yA.setCell ⟨w.heap.size,10,none⟩ (.int .i64 (readV z))):=LM.out.b.setCell (p:=⟨w.heap.size,10,none⟩) (Nat.le_refl _) _;generalize (yA.setCell ⟨w.heap.size,10,none⟩ (.int .i64 (readV z)))=y2 at *;change bodyPost _ _ _ _ _ (put12 y2 (w.heap.size + 1) (.string (txt d.nm)) (.int .i64 d.st) (.int .i64 d.es) (.int .i64 d.mx) (.int .i64 d.sz) (.string (txt d.sm)) (.slice pf nf cf) (.slice pq mq cq) (.int .i64 d.po) (.int .i64 d.ti) (.int .i64 (readV z)) (.int .i64 d.ag));have pa:=put12_at (y:=y2) LR (.string (txt d.nm)) (.int .i64 d.st) (.int .i64 d.es) (.int .i64 d.mx) (.int .i64 d.sz) (.string (txt d.sm)) (.slice pf nf cf) (.slice pq mq cq) (.int .i64 d.po) (.int .i64 d.ti) (.int .i64 (readV z)) (.int .i64 d.ag);have pb:=put12_below LB (show w.heap.size≤w.heap.size + 1 by omega) (.string (txt d.nm)) (.int .i64 d.st) (.int .i64 d.es) (.int .i64 d.mx) (.int .i64 d.sz) (.string (txt d.sm)) (.slice pf nf cf) (.slice pq mq cq) (.int .i64 d.po) (.int .i64 d.ti) (.int .i64 (readV z)) (.int .i64 d.ag);have FQ2:=fq_put FQ0.out LB (show w.heap.size≤w.heap.size + 1 by omega) (.string (txt d.nm)) (.int .i64 d.st) (.int .i64 d.es) (.int .i64 d.mx) (.int .i64 d.sz) (.string (txt d.sm)) (.slice pf nf cf) (.slice pq mq cq) (.int .i64 d.po) (.int .i64 d.ti) (.int .i64 (readV z)) (.int .i64 d.ag);generalize put12 y2 (w.heap.size + 1) (.string (txt d.nm)) (.int .i64 d.st) (.int .i64 d.es) (.int .i64 d.mx) (.int .i64 d.sz) (.string (txt d.sm)) (.slice pf nf cf) (.slice pq mq cq) (.int .i64 d.po) (.int .i64 d.ti) (.int .i64 (readV z)) (.int .i64 d.ag)=yy at *;refine bodyPost_ret (res_dev2 Tryz.results33 rfl rfl pa) rfl ?_;refine ⟨{ d with re:=readV z },pf,nf,cf,pq,mq,cq,by rw [st.out]; rfl,pb,fun d' hd=>?_⟩;rw [st.out] at hd
           cases hd
           exact ⟨rfl,FQ2.1,FQ2.2,.inl rfl,.inl rfl⟩
       · have n2:((a.length:Int) + 1 != 2)=true:=bne_iff_ne.2 (by omega);have hm:updM kRet a=none:=(upd_ret a).trans (mNum_len h1 _ _ _);rw [hm] at st;replace st:Hid (stepM d seen (kRet :: a)=.error 6):=st;go_wp2;change bodyPost _ _ _ _ _ (putD y (w.heap.size + 1) d (.slice pf nf cf) (.slice pq mq cq));have pa:=putD_at (y:=y) LM.out.rc d (.slice pf nf cf) (.slice pq mq cq);have pb:=putD_below LM.out.b (show w.heap.size≤w.heap.size + 1 by omega) d (.slice pf nf cf) (.slice pq mq cq);generalize putD y (w.heap.size + 1) d (.slice pf nf cf) (.slice pq mq cq)=yy at *;refine bodyPost_ret (res_dev2 Tryz.results33 rfl rfl pa) rfl ?_;exact ⟨d,pf,nf,cf,pq,mq,cq,by rw [st.out]; rfl,pb,fun d' hd=>by rw [st.out] at hd; cases hd⟩
end Go.Proofs.YthabffjgdhfbmaaGreatDoor
