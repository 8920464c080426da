/-
  Texts that belong together, one behind the other: DsLineAge, RegProps2, DsLineF0, DsLineG. Conditions: as each says.
-/
import Derived.Deep.AppendLies
import Derived.Laws.OwnMore
import Derived.Lib.QuietBelowIn
import Derived.RangeFuncCalls
import Derived.Sort.BigQuietIn
import Derived.Test.YthabffjgdhfbmaaGreatDoorProg
import Derived.Test.YthabffjgdhfbmaaGreatDoorJl1
import Derived.Test.YthabffjgdhfbmaaGreatDoorJl2
import Derived.Test.YthabffjgdhfbmaaGreatDoorJl3
import Derived.Test.YthabffjgdhfbmaaGreatDoorJl4
import Derived.Test.YthabffjgdhfbmaaGreatDoorJl5
import Derived.Test.YthabffjgdhfbmaaGreatDoorJl6
import Derived.Test.YthabffjgdhfbmaaGreatDoorJl7
import Derived.Test.YthabffjgdhfbmaaGreatDoorJl8
import Derived.Test.YthabffjgdhfbmaaGreatDoorJl9
import Derived.Test.YthabffjgdhfbmaaGreatDoorJl10
set_option maxRecDepth 100000
set_option maxHeartbeats 32000000
set_option linter.unusedVariables false
namespace Go.Proofs.YthabffjgdhfbmaaGreatDoor
open Go.RowKit
theorem line_age (a:List Wd) (d:Dv) (pf:Option Addr) (nf cf:Nat) (pq:Option Addr) (mq cq:Nat) (g o cap:Nat) (w:World) (hi:StrsIn w g o (kAge :: a)) (hgw:g < w.heap.size) (hl:(a.length:Int)≤5000) (hz:∀ z ∈ a,(z.length:Int)≤5000) (ps:Option Addr) (cs:Nat) (seen:List Wd) (hs:StrsAt w (.slice ps seen.length cs) seen) (hsl:(seen.length:Int)≤5000) (hfl:FldsAt w (.slice pf nf cf) d.fs) (hrq:BytesAt w (.slice pq mq cq) d.rq) :
 Calls Tryz.prog 33 #[dvV d (.slice pf nf cf) (.slice pq mq cq),.slice (some ⟨g,o,none⟩) (a.length + 1) cap,.slice ps seen.length cs] w (LineQ w d (.slice pf nf cf) (.slice pq mq cq) seen (kAge :: a)):=by
 have m0:=lineM_first w d (.slice pf nf cf) (.slice pq mq cq);have n0:((a.length:Int) + 1 == 0)=false:=beq_eq_false_iff_ne.2 (by omega);have FQ0:Hid (FldsAt w (.slice pf nf cf) d.fs∧BytesAt w (.slice pq mq cq) d.rq):=⟨hfl,hrq⟩;have wi:Hid (StrsIn w g o (kAge :: a)):=hi;replace hs:Hid (StrsAt w (.slice ps seen.length cs) seen):=hs;replace hz:Hid (∀ z ∈ a,(z.length:Int)≤5000):=hz;obtain ⟨sl,hsl2⟩:∃ sl,seen.length=sl:=⟨_,rfl⟩;rw [hsl2] at hs hsl ⊢;replace hsl2:Hid (seen.length=sl):=hsl2;clear hfl hrq hi
 go_enter Tryz.func33,Tryz.ntmps33
 go_upto_region 5 with fail
 change Code.wp Tryz.prog _ _ _ (LineW w d (.slice pf nf cf) (.slice pq mq cq));have LM0:Hid (LineM w (LineW w d (.slice pf nf cf) (.slice pq mq cq)) d (.slice pf nf cf) (.slice pq mq cq)):=m0.1;have lc0:Hid (∀ (i:Nat) (h:i < 11),(LineW w d (.slice pf nf cf) (.slice pq mq cq)).cell? ⟨w.heap.size + 1 + 1,i,none⟩=some (.string (txt (allK[i]'h)))):=fun i h=>(rd_cell m0.2 i).1.trans (allC_at i h)
 have hc0:(LineW w d (.slice pf nf cf) (.slice pq mq cq)).cell? ⟨g,o,none⟩=some (.string ⟨#[97,103,101]⟩):=kp m0.1.b (wi.out 0 (by simp));clear m0;generalize LineW w d (.slice pf nf cf) (.slice pq mq cq)=x0 at *;go_wp2
 go_loopw [8,10] (fun vk vi wr=>∃ n k:Nat,(k:Int)≤11∧wr=x0.drewN n∧vi=.int .i64 (k:Int)∧vk=.bool (decide (kAge ∈ allK.take k))) (fun vk vi wr=>(11 - intOf vi).toNat)
 case atStart=>exact ⟨0,0,by omega,rfl,rfl,by simp⟩
 case round=>
  obtain ⟨n,k,hk11,rfl,rfl,rfl⟩:=hrel
  by_cases hlt:k < 11
  · have hki:(k:Int) < 11:=by omega
    have st:=allK_step kAge k hlt;have l1:=lc0.out k hlt;have wk:IntKind.i64.wrap ((k:Int) + 1)=(k:Int) + 1:=by simp only [IntKind.wrap_i64]; omega
    have cmp:(txt (allK[k]'hlt) == ⟨#[97,103,101]⟩)=decide (allK[k]'hlt=kAge):=txt_beq _ kAge;generalize allK[k]'hlt=ak at *;clear lc0 LM0
    cases hd:decide (kAge ∈ allK.take k)
    · rw [hd,Bool.false_or] at st;have c2:((txt ak).toList == [97,103,101])=decide (ak=kAge):=by
       rw [Bool.eq_iff_iff,decide_eq_true_iff,beq_iff_eq,ByteArray.toList_eq];exact ⟨fun h=>h,fun h=>by rw [h]; rfl⟩
      generalize decide (ak=kAge)=R at *
      go_wp2_with fail
      go_quiet (fail)
      go_wp2;exact ⟨⟨n + nq,k + 1,by omega,rfl,by simp,by rw [st]⟩,by simp [intOf]; omega⟩
    · rw [hd,Bool.true_or] at st
      go_wp2_with fail
      go_quiet (fail)
      go_wp2;exact ⟨⟨n + nq,k + 1,by omega,rfl,by simp,by rw [st]⟩,by simp [intOf]; omega⟩
  · obtain rfl:k=11:=by omega
    rw [allK_mem,show knownB kAge=true from rfl];clear lc0;go_wp2
    go_loopw [11] (fun vi wr=>∃ n k:Nat,(k:Int)≤(sl:Int)∧wr=x0.drewN n∧vi=.int .i64 (k:Int)∧Hid (∀ j (h:j < seen.length),j < k→¬ seen[j]=kAge)) (fun vi wr=>((sl:Int) - intOf vi).toNat)
    case atStart=>exact ⟨n,0,by omega,rfl,rfl,fun j _ h=>(by cases h)⟩
    case round=>
     obtain ⟨n,k,hk,rfl,rfl,no⟩:=hrel
     by_cases hlt:k < sl
     · have hki:(k:Int) < (sl:Int):=by omega
       have hks:k < seen.length:=by have:=hsl2.out; omega
       rcases hs.out with ⟨_,hnil⟩ | ⟨gs,os,cs',e1,hin,hgs⟩
       · rw [hnil] at hks; cases hks
       injection e1 with e1 e2 e3
       subst e1;subst e3;clear e2;have l1:=kp LM0.out.b (hin k hks);have wk:IntKind.i64.wrap ((k:Int) + 1)=(k:Int) + 1:=by simp only [IntKind.wrap_i64]; omega
       obtain ⟨ak,hak⟩:∃ ak,seen[k]=ak:=⟨_,rfl⟩;rw [hak] at l1;have cmp:(txt ak == ⟨#[97,103,101]⟩)=decide (ak=kAge):=txt_beq _ kAge;have c2:((txt ak).toList == [97,103,101])=decide (ak=kAge):=by
        rw [Bool.eq_iff_iff,decide_eq_true_iff,beq_iff_eq,ByteArray.toList_eq];exact ⟨fun h=>h,fun h=>by rw [h]; rfl⟩
       cases hd:decide (ak=kAge)
       · rw [hd] at cmp c2;have no2:Hid (∀ j (h:j < seen.length),j < k + 1→¬ seen[j]=kAge):=fun j h hj=>by
          by_cases hjk:j=k
          · subst hjk; rw [hak]; simpa using hd
          · exact no.out j h (by omega)
         clear hin hak no hd LM0
         go_wp2_with fail
         go_quiet (fail)
         go_wp2;exact ⟨⟨n + nq,k + 1,by omega,rfl,by simp,no2⟩,by simp [intOf]; omega⟩
       · rw [hd] at cmp c2;have e8:Hid (stepM d seen (kAge :: a)=.error 8):=by
          have hm:kAge ∈ seen:=by
           have:ak=kAge:=by simpa using hd
           rw [← this,← hak]; exact List.getElem_mem hks
          unfold Hid stepM;simp only [show knownB kAge=true from rfl];rw [if_neg (by decide),if_pos ⟨by decide,hm⟩]
         clear hin hak no hd
         go_wp2_with fail
         go_quiet (fail)
         go_upto_region 15 with fail
         have LM:Hid (LineM w ((x0.drewN n).drewN nq) d (.slice pf nf cf) (.slice pq mq cq)):=LM0.out.below (below_drewN (below_drewN (Below.refl _ _) _) _);generalize (x0.drewN n).drewN nq=y at *;obtain ⟨dc0,df0⟩:=LM.out.cells.1 0 _ rfl;obtain ⟨dc1,df1⟩:=LM.out.cells.1 1 _ rfl;obtain ⟨dc2,df2⟩:=LM.out.cells.1 2 _ rfl;obtain ⟨dc3,df3⟩:=LM.out.cells.1 3 _ rfl;obtain ⟨dc4,df4⟩:=LM.out.cells.1 4 _ rfl;obtain ⟨dc5,df5⟩:=LM.out.cells.1 5 _ rfl;obtain ⟨dc6,df6⟩:=LM.out.cells.1 6 _ rfl;obtain ⟨dc7,df7⟩:=LM.out.cells.1 7 _ rfl;obtain ⟨dc8,df8⟩:=LM.out.cells.1 8 _ rfl;obtain ⟨dc9,df9⟩:=LM.out.cells.1 9 _ rfl;obtain ⟨dc10,df10⟩:=LM.out.cells.1 10 _ rfl;obtain ⟨dc11,df11⟩:=LM.out.cells.1 11 _ rfl;obtain ⟨zc0,zf0⟩:=LM.out.cells.2 0 _ rfl;obtain ⟨zc1,zf1⟩:=LM.out.cells.2 1 _ rfl;obtain ⟨zc2,zf2⟩:=LM.out.cells.2 2 _ rfl;obtain ⟨zc3,zf3⟩:=LM.out.cells.2 3 _ rfl;obtain ⟨zc4,zf4⟩:=LM.out.cells.2 4 _ rfl;obtain ⟨zc5,zf5⟩:=LM.out.cells.2 5 _ rfl;obtain ⟨zc6,zf6⟩:=LM.out.cells.2 6 _ rfl;obtain ⟨zc7,zf7⟩:=LM.out.cells.2 7 _ rfl;obtain ⟨zc8,zf8⟩:=LM.out.cells.2 8 _ rfl;obtain ⟨zc9,zf9⟩:=LM.out.cells.2 9 _ rfl;obtain ⟨zc10,zf10⟩:=LM.out.cells.2 10 _ rfl;obtain ⟨zc11,zf11⟩:=LM.out.cells.2 11 _ rfl;clear LM0;go_wp2;change bodyPost _ _ _ _ _ (putD y (w.heap.size + 1) d (.slice pf nf cf) (.slice pq mq cq));have pa:=putD_at (y:=y) LM.out.rc d (.slice pf nf cf) (.slice pq mq cq);have pb:=putD_below LM.out.b (show w.heap.size≤w.heap.size + 1 by omega) d (.slice pf nf cf) (.slice pq mq cq);generalize putD y (w.heap.size + 1) d (.slice pf nf cf) (.slice pq mq cq)=yy at *;refine bodyPost_ret (res_dev2 Tryz.results33 rfl rfl pa) rfl ?_;exact ⟨d,pf,nf,cf,pq,mq,cq,by rw [e8.out]; rfl,pb,fun d' hd=>by rw [e8.out] at hd; cases hd⟩
     · obtain rfl:k=sl:=by omega
       have hns:¬ kAge ∈ seen:=fun hm=>by
        obtain ⟨j,hj,hj2⟩:=List.mem_iff_getElem.1 hm;exact no.out j hj (by have:=hsl2.out; omega) hj2
       have st:Hid (stepM d seen (kAge :: a)=match updM kAge a with | none=>.error 6 | some u=>.ok (u d)):=step_nf rfl (by decide) hns;have LM:Hid (LineM w (x0.drewN n) d (.slice pf nf cf) (.slice pq mq cq)):=LM0.out.below (below_drewN (Below.refl _ _) _);have hcy:(x0.drewN n).cell? ⟨g,o,none⟩=some (.string ⟨#[97,103,101]⟩):=hc0;generalize x0.drewN n=y at *;obtain ⟨dc0,df0⟩:=LM.out.cells.1 0 _ rfl;obtain ⟨dc1,df1⟩:=LM.out.cells.1 1 _ rfl;obtain ⟨dc2,df2⟩:=LM.out.cells.1 2 _ rfl;obtain ⟨dc3,df3⟩:=LM.out.cells.1 3 _ rfl;obtain ⟨dc4,df4⟩:=LM.out.cells.1 4 _ rfl;obtain ⟨dc5,df5⟩:=LM.out.cells.1 5 _ rfl;obtain ⟨dc6,df6⟩:=LM.out.cells.1 6 _ rfl;obtain ⟨dc7,df7⟩:=LM.out.cells.1 7 _ rfl;obtain ⟨dc8,df8⟩:=LM.out.cells.1 8 _ rfl;obtain ⟨dc9,df9⟩:=LM.out.cells.1 9 _ rfl;obtain ⟨dc10,df10⟩:=LM.out.cells.1 10 _ rfl;obtain ⟨dc11,df11⟩:=LM.out.cells.1 11 _ rfl;obtain ⟨zc0,zf0⟩:=LM.out.cells.2 0 _ rfl;obtain ⟨zc1,zf1⟩:=LM.out.cells.2 1 _ rfl;obtain ⟨zc2,zf2⟩:=LM.out.cells.2 2 _ rfl;obtain ⟨zc3,zf3⟩:=LM.out.cells.2 3 _ rfl;obtain ⟨zc4,zf4⟩:=LM.out.cells.2 4 _ rfl;obtain ⟨zc5,zf5⟩:=LM.out.cells.2 5 _ rfl;obtain ⟨zc6,zf6⟩:=LM.out.cells.2 6 _ rfl;obtain ⟨zc7,zf7⟩:=LM.out.cells.2 7 _ rfl;obtain ⟨zc8,zf8⟩:=LM.out.cells.2 8 _ rfl;obtain ⟨zc9,zf9⟩:=LM.out.cells.2 9 _ rfl;obtain ⟨zc10,zf10⟩:=LM.out.cells.2 10 _ rfl;obtain ⟨zc11,zf11⟩:=LM.out.cells.2 11 _ rfl;clear LM0 no hns hc0
       by_cases h1:a.length=1
       · obtain ⟨z,rfl⟩:=len_one h1;have hc1:y.cell? ⟨g,o + 1,none⟩=some (.string (txt z)):=kp LM.out.b (wi.out 1 (by simp));have hz5:=hz.out z (by simp);have fn:Hid (∀ w,Calls Tryz.prog 65 #[.string (txt z),.int .i64 1,.int .i64 1000] w fun e w'=>e=.returned (.tuple #[.int .i64 (numV z 1 1000),.bool (numB z 1 1000)])∧w'=w):=fun w=>rnum_any (txt z) w (by rw [txt_size]; unfold maxLen; omega) _ _
         have hm:updM kAge [z]=if numB z 1 1000=true then some (fun d=>{ d with ag:=readV z }) else none:=rfl;rw [hm] at st
         cases hN:numB z 1 1000
         · rw [hN] at fn st;replace st:Hid (stepM d seen [kAge,z]=.error 6):=st;generalize numV z 1 1000=V at *
           go_wp2_with fail
           refine (fn.out _).mono ?_;rintro e yA ⟨rfl,rfl⟩;clear fn;go_wp2;change bodyPost _ _ _ _ _ (putD yA (w.heap.size + 1) d (.slice pf nf cf) (.slice pq mq cq));have pa:=putD_at (y:=yA) LM.out.rc d (.slice pf nf cf) (.slice pq mq cq);have pb:=putD_below LM.out.b (show w.heap.size≤w.heap.size + 1 by omega) d (.slice pf nf cf) (.slice pq mq cq);generalize putD yA (w.heap.size + 1) d (.slice pf nf cf) (.slice pq mq cq)=yy at *;refine bodyPost_ret (res_dev2 Tryz.results33 rfl rfl pa) rfl ?_;exact ⟨d,pf,nf,cf,pq,mq,cq,by rw [st.out]; rfl,pb,fun d' hd=>by rw [st.out] at hd; cases hd⟩
         · have nv:numV z 1 1000=readV z:=by unfold numV; rw [if_pos hN]
           rw [hN,nv] at fn;rw [hN] at st;replace st:Hid (stepM d seen [kAge,z]=.ok { d with ag:=readV z }):=st
           go_wp2_with fail
           refine (fn.out _).mono ?_;rintro e yA ⟨rfl,rfl⟩;clear fn;go_wp2;have LR:(yA.setCell ⟨w.heap.size,11,none⟩ (.int .i64 (readV z))).heap[w.heap.size + 1]?=some (.cells dz 25 (0,0)):=(Below.heap_setCell _ _ _ _ (show w.heap.size + 1 ≠ w.heap.size by omega)).trans LM.out.rc;have LB:Below w.heap.size w (yA.setCell ⟨w.heap.size,11,none⟩ (.int .i64 (readV z))):=LM.out.b.setCell (p:=⟨w.heap.size,11,none⟩) (Nat.le_refl _) _;generalize (yA.setCell ⟨w.heap.size,11,none⟩ (.int .i64 (readV z)))=y2 at *;change bodyPost _ _ _ _ _ (put12 y2 (w.heap.size + 1) (.string (txt d.nm)) (.int .i64 d.st) (.int .i64 d.es) (.int .i64 d.mx) (.int .i64 d.sz) (.string (txt d.sm)) (.slice pf nf cf) (.slice pq mq cq) (.int .i64 d.po) (.int .i64 d.ti) (.int .i64 d.re) (.int .i64 (readV z)));have pa:=put12_at (y:=y2) LR (.string (txt d.nm)) (.int .i64 d.st) (.int .i64 d.es) (.int .i64 d.mx) (.int .i64 d.sz) (.string (txt d.sm)) (.slice pf nf cf) (.slice pq mq cq) (.int .i64 d.po) (.int .i64 d.ti) (.int .i64 d.re) (.int .i64 (readV z));have pb:=put12_below LB (show w.heap.size≤w.heap.size + 1 by omega) (.string (txt d.nm)) (.int .i64 d.st) (.int .i64 d.es) (.int .i64 d.mx) (.int .i64 d.sz) (.string (txt d.sm)) (.slice pf nf cf) (.slice pq mq cq) (.int .i64 d.po) (.int .i64 d.ti) (.int .i64 d.re) (.int .i64 (readV z));have FQ2:=fq_put FQ0.out LB (show w.heap.size≤w.heap.size + 1 by omega) (.string (txt d.nm)) (.int .i64 d.st) (.int .i64 d.es) (.int .i64 d.mx) (.int .i64 d.sz) (.string (txt d.sm)) (.slice pf nf cf) (.slice pq mq cq) (.int .i64 d.po) (.int .i64 d.ti) (.int .i64 d.re) (.int .i64 (readV z));generalize put12 y2 (w.heap.size + 1) (.string (txt d.nm)) (.int .i64 d.st) (.int .i64 d.es) (.int .i64 d.mx) (.int .i64 d.sz) (.string (txt d.sm)) (.slice pf nf cf) (.slice pq mq cq) (.int .i64 d.po) (.int .i64 d.ti) (.int .i64 d.re) (.int .i64 (readV z))=yy at *;refine bodyPost_ret (res_dev2 Tryz.results33 rfl rfl pa) rfl ?_;refine ⟨{ d with ag:=readV z },pf,nf,cf,pq,mq,cq,by rw [st.out]; rfl,pb,fun d' hd=>?_⟩;rw [st.out] at hd
           cases hd
           exact ⟨rfl,FQ2.1,FQ2.2,.inl rfl,.inl rfl⟩
       · have n2:((a.length:Int) + 1 != 2)=true:=bne_iff_ne.2 (by omega);have hm:updM kAge a=none:=(upd_age a).trans (mNum_len h1 _ _ _);rw [hm] at st;replace st:Hid (stepM d seen (kAge :: a)=.error 6):=st;go_wp2;change bodyPost _ _ _ _ _ (putD y (w.heap.size + 1) d (.slice pf nf cf) (.slice pq mq cq));have pa:=putD_at (y:=y) LM.out.rc d (.slice pf nf cf) (.slice pq mq cq);have pb:=putD_below LM.out.b (show w.heap.size≤w.heap.size + 1 by omega) d (.slice pf nf cf) (.slice pq mq cq);generalize putD y (w.heap.size + 1) d (.slice pf nf cf) (.slice pq mq cq)=yy at *;refine bodyPost_ret (res_dev2 Tryz.results33 rfl rfl pa) rfl ?_;exact ⟨d,pf,nf,cf,pq,mq,cq,by rw [st.out]; rfl,pb,fun d' hd=>by rw [st.out] at hd; cases hd⟩
end Go.Proofs.YthabffjgdhfbmaaGreatDoor
namespace Go.Proofs.YthabffjgdhfbmaaGreatDoor
def RegM (Pv:Array Bool→Nat→Value→World→Prop) (x x':Array Bool) (w w':World):Prop:=∀ j v,x.getD j false=true→Pv x j v w→Pv x' j v w'
theorem region_props2 {P:Program} {id:Nat} {L:List Oper} {Q:Exit→Act→World→Prop} (Pv:Array Bool→Nat→Value→World→Prop) (W:Array Bool→World→Prop) {a0:Act} {w0:World}
 (hm:P.follows .mixedOrders=true) (hb:regB L a0.tmps.size=true)
 (step:∀ x a w i o,L[i]?=some o→RegI L a0.tmps a0.defers (Pv x) x a w→(∀ e ∈ o.after,Region.binds .any e=true→x.getD e.on false=true)→x.size=L.length→x.getD i true=false→W x w →
  o.wp P a w (fun a' w'=>∃ v,a'=a.put o.dst v∧(∀ d,o.dst=some d→Pv (x.setIfInBounds i true) i v w')∧RegM Pv x (x.setIfInBounds i true) w w'∧W (x.setIfInBounds i true) w') Q)
 (fin:∀ x a w,x.size=L.length→(∀ i,i < L.length→x.getD i false=true)→RegI L a0.tmps a0.defers (Pv x) x a w→W x w→Q .normal a w)
 (h0:W (Array.replicate L.length false) { w0 with drawn:=w0.drawn + 1 }):(Code.region id L.toArray true).wp P Q a0 w0:=by
 refine wp_region_any hm ?_;have hs:L.toArray.size=L.length:=List.size_toArray;refine wpAny_inv (fun x a w=>RegI L a0.tmps a0.defers (Pv x) x a w∧W x w) ?_ ?_ _ _ _ _ (by simp) ?_ ?_
 · rintro x a w i hx ⟨hI,hW⟩ hr;obtain ⟨h1,o,ho,haf⟩:=mem_ready.1 hr;have ho':L[i]?=some o:=by rwa [List.getElem?_toArray] at ho
   have gd:=regB_spec hb ho';have hwant:Region.wanted o (yielded L.toArray a.tmps)=true:=by unfold Region.wanted; rw [gd.1]
   unfold wpOp;simp only [ho,hwant,if_true];refine .inl (Oper.wp_mono ?_ (step x a w i o ho' hI haf (by rw [hx,hs]) h1 hW));rintro a' w' ⟨v,rfl,hv,hrl,hW'⟩;refine ⟨?_,hW'⟩;have hxi:i < x.size:=by rw [hx]; exact (Array.getElem?_eq_some_iff.1 ho).1
   cases hd:o.dst with
   | none=>
    refine ⟨hI.dfr,hI.size,hI.old,fun j p d hp hpd hxj=>?_⟩;have hji:j ≠ i:=fun e=>by
     subst e;rw [ho'] at hp
     cases hp
     rw [hd] at hpd
     cases hpd
    rw [getD_set_ne false (Ne.symm hji)] at hxj;exact hrl _ _ hxj (hI.val j p d hp hpd hxj)
   | some d=>
    have gdd:=gd.2 d hd;refine ⟨hI.dfr,?_,fun t ht=>?_,fun j p e hp hpe hxj=>?_⟩
    · show (a.tmps.setIfInBounds d v).size=_;rw [Array.size_setIfInBounds]; exact hI.size
    · rw [put_off a v (fun e=>ht i o ho' (by rw [hd,e]))]; exact hI.old t ht
    · by_cases hji:j=i
      · subst hji;rw [ho'] at hp
        cases hp
        rw [hd] at hpe
        cases hpe
        rw [put_at a v (by rw [hI.size]; exact gdd.1)];exact hv d hd
      · rw [getD_set_ne false (Ne.symm hji)] at hxj;have hne:=regB_ne hb ho' hp (Ne.symm hji) hd;rw [put_off a v (fun h=>hne (by rw [hpe,h]))];exact hrl _ _ hxj (hI.val j p e hp hpe hxj)
 · rintro x a w hx ⟨hI,hW⟩ hr;refine fin x a w (by rw [hx,hs]) (fun i hi=>?_) hI hW
   cases hf:x.getD i false with
   | true=>rfl
   | false=>
    obtain ⟨j,hj,hj2⟩:=ready_some (Bool.and_eq_true_iff.1 hb).1 (by rw [hx,hs]) i hi hf;rw [hr] at hj2
    cases hj2
 · have e:∀ n:Nat,left (Array.replicate n false)=n:=fun n=>by unfold left; simp
   rw [e,hs];exact Nat.le_refl _
 · refine ⟨⟨rfl,rfl,fun _ _=>rfl,fun i o d _ _ hx=>?_⟩,by rw [hs]; exact h0⟩
   exfalso
   rw [Array.getD_eq_getD_getElem?] at hx
   by_cases hlt:i < L.length
   · rw [Array.getElem?_replicate,hs,if_pos hlt] at hx
     cases hx
   · rw [Array.getElem?_replicate,hs,if_neg hlt] at hx
     cases hx
end Go.Proofs.YthabffjgdhfbmaaGreatDoor
namespace Go.Proofs.YthabffjgdhfbmaaGreatDoor
open Go.RowKit
theorem info_rfd:(Tryz.prog.info? 64).map (fun i=>(i.zero,i.size,i.bytes))=some (some (.agg #[.string ⟨#[]⟩,.int .i64 0,.string ⟨#[]⟩,.int .i64 0,.int .i64 0,.int .i64 0,.int .i64 0,.int .i64 0,.string ⟨#[]⟩]),9,96):=by kernel_rfl
structure Eight (w:World) (g o:Nat) (n p k d s f u:Wd):Prop where
 c0:w.cell? ⟨g,o,none⟩=some (.string ⟨#[102,105,101,108,100]⟩)
 c1:w.cell? ⟨g,o + 1,none⟩=some (.string (txt n))
 c2:w.cell? ⟨g,o + 2,none⟩=some (.string (txt p))
 c3:w.cell? ⟨g,o + 3,none⟩=some (.string (txt k))
 c4:w.cell? ⟨g,o + 4,none⟩=some (.string (txt d))
 c5:w.cell? ⟨g,o + 5,none⟩=some (.string (txt s))
 c6:w.cell? ⟨g,o + 6,none⟩=some (.string (txt f))
 c7:w.cell? ⟨g,o + 7,none⟩=some (.string (txt u))
theorem Eight.below {w x:World} {g o:Nat} {n p k d s f u:Wd} (h:Eight w g o n p k d s f u) (hb:Below w.heap.size w x):Eight x g o n p k d s f u:=
 ⟨kp hb h.c0,kp hb h.c1,kp hb h.c2,kp hb h.c3,kp hb h.c4,kp hb h.c5,kp hb h.c6,kp hb h.c7⟩
theorem Eight.of {w:World} {g o:Nat} {n p k d s f u:Wd} (h:StrsIn w g o [kFie,n,p,k,d,s,f,u]):Eight w g o n p k d s f u:=
 ⟨h 0 (by simp),h 1 (by simp),h 2 (by simp),h 3 (by simp),h 4 (by simp),h 5 (by simp),h 6 (by simp),h 7 (by simp)⟩
def RNu (z:Wd) (lo hi:Int) (T:Bool) (V:Int):Prop:=∀ w,Calls Tryz.prog 65 #[.string (txt z),.int .i64 lo,.int .i64 hi] w fun e w'=>e=.returned (.tuple #[.int .i64 V,.bool T])∧w'=w
theorem rNu (z:Wd) (hz:(z.length:Int)≤5000) (lo hi:Int):RNu z lo hi (numB z lo hi) (numV z lo hi):=fun w=>rnum_any (txt z) w (by rw [txt_size]; unfold maxLen; omega) lo hi
def RNa (z:Wd) (T:Bool):Prop:=∀ w,Calls Tryz.prog 25 #[.string (txt z)] w fun e w'=>e=.returned (.bool T)∧w'=w
theorem rNa (z:Wd):RNa z (nameB z):=fun w=>rname_any (txt z) w
def RFrT (z:Wd) (n d:Int):Prop:=frB z=true→n=frN z∧d=frD z
def RFr (z:Wd) (T:Bool):Prop:=∀ w,Calls Tryz.prog 66 #[.string (txt z)] w fun e w'=>∃ n d,e=.returned (.tuple #[rv n d,.bool T])∧RFrT z n d∧Below w.heap.size w w'
theorem rFr (z:Wd) (hz:(z.length:Int)≤5000):RFr z (frB z):=fun w=>rfrac_any (txt z) w (by rw [txt_size]; exact hz)
theorem len_seven {a:List Wd} (h:a.length=7):∃ n p k d s f u,a=[n,p,k,d,s,f,u]:=by
 match a,h with
 | [n,p,k,d,s,f,u],_=>exact ⟨n,p,k,d,s,f,u,rfl⟩
theorem step_fie {d:Dv} {seen:List Wd} (h8:¬ d.fs.length=8) {n p k wd s f u:Wd}:stepM d seen [kFie,n,p,k,wd,s,f,u]=if (numB p 0 31 && (numB wd 1 8 && (frB s && (frB f && (nameB n && (nameB k && nameB u))))))=true then .ok { d with fs:=d.fs ++ [⟨n,readV p,k,readV wd,frN s,frD s,frN f,frD f,u⟩] } else .error 6:=by
 rw [step_f h8];have e:updM kFie [n,p,k,wd,s,f,u]=(fldO [n,p,k,wd,s,f,u]).map fun x d=>{ d with fs:=d.fs ++ [x] }:=rfl
 rw [e];unfold fldO;simp only
 by_cases h:(nameB n=true∧nameB k=true∧nameB u=true)∧numB p 0 31=true∧numB wd 1 8=true∧frB s=true∧frB f=true
 · rw [if_pos h,if_pos (by simp [h.1,h.2])]; rfl
 · rw [if_neg h,if_neg (fun c=>h (by simp only [Bool.and_eq_true] at c; exact ⟨⟨c.2.2.2.2.1,c.2.2.2.2.2.1,c.2.2.2.2.2.2⟩,c.1,c.2.1,c.2.2.1,c.2.2.2.1⟩))]; rfl
def StFie (d:Dv) (seen:List Wd) (n p k wd s f u:Wd):Prop:=stepM d seen [kFie,n,p,k,wd,s,f,u]=if (numB p 0 31 && (numB wd 1 8 && (frB s && (frB f && (nameB n && (nameB k && nameB u))))))=true then .ok { d with fs:=d.fs ++ [⟨n,readV p,k,readV wd,frN s,frD s,frN f,frD f,u⟩] } else .error 6
def NumE (z:Wd) (lo hi:Int):Prop:=numB z lo hi=true→numV z lo hi=readV z
theorem numE (z:Wd) (lo hi:Int):NumE z lo hi:=fun h=>by unfold numV; rw [if_pos h]
theorem one_fd (f:Fd):∀ u ∈ fdC f,u.oneCell'=true:=by simp [Value.oneCell',fdC]
theorem one_fds (fs:List Fd):∀ u ∈ fdCs fs,u.oneCell'=true:=by
 intro u hu;obtain ⟨f,_,hf⟩:=List.mem_flatMap.1 hu;exact one_fd f u hf
theorem wp_copy {o:Oper} {a:Act} {K:Act→World→Prop} {Q:Exit→Act→World→Prop} {w:World} (s x:Operand)
 (ho:o.op=.call { callee:=.builtin .append,args:=#[s,x],argTypes:=#[22,22] })
 {base A:Nat} {fv:Value} {fs:List Fd} (hs:a.eval s=.slice (some ⟨A,0,none⟩) 0 0) (hA:w.heap[A]?=some (.cells #[] 64 (0,0))) (hbA:base≤A) (hx:a.eval x=fv) (hf:FldsAt w fv fs) (h8:fs.length≤8)
 (h:∀ v' w',w'.ownsRow base 64 9 v' fs.length (fdCs fs)→w.grownBy w' (some A)→K (a.put o.dst v') w'):o.wp Tryz.prog a w K Q:=by
 obtain ⟨r0,hri,hr0,hr1,hr2⟩:=info_parts info_rfd;have hAl:A < w.heap.size:=(Array.getElem?_eq_some_iff.1 hA).1;have own:w.ownsRow base 64 9 (.slice (some ⟨A,0,none⟩) 0 0) 0 []:=⟨rfl,.inr ⟨A,0,#[],rfl,hbA,hA,Nat.le_refl _,Nat.zero_le _,rfl,rfl⟩⟩;rcases hf with ⟨rfl,rfl⟩ | ⟨g,of,cap,rfl,_,hc,hg⟩
 · have hr:=run_append_owned_none (P:=Tryz.prog) (w:=w) base 22 o.type 64 r0 9 Tryz.underlying22 hri _ _ _ own;unfold Oper.wp execOp;simp only [ho,resolve,invoke,builtin,Sem.run_bind,Sem.run_pure,Result.andThen_ok,List.map_toArray,List.map_cons,List.map_nil,hs,hx,hr];exact h _ _ own ⟨rfl,rfl,rfl,Nat.le_refl _,fun _ _ _=>rfl⟩
 · have news:∀ j u,(fdCs fs)[j]?=some u→w.cell? ((⟨g,of,none⟩:Addr).add j)=some u:=by
    intro j u hu;have hj:j < fs.length * 9:=by have:=(List.getElem?_eq_some_iff.1 hu).1; rwa [fdCs_len] at this
    have hq:j / 9 < fs.length:=by omega
    have e:9 * (j / 9) + j % 9=j:=by omega
    have g1:=fdCs_get fs (j / 9) (j % 9) hq (by omega);rw [e,hu] at g1;have c:=hc (j / 9) hq (j % 9) u g1.symm;rw [show of + 9 * (j / 9) + j % 9=of + j by omega] at c;have ea:(⟨g,of,none⟩:Addr).add j=⟨g,of + j,none⟩:=by unfold Addr.add; split <;> simp_all
    rw [ea]; exact c
   obtain ⟨v',w',hr,h2,h3,_,_⟩:=run_append_own_at (P:=Tryz.prog) w base 22 o.type 64 r0 _ 9 96 Tryz.underlying22 hri hr0 hr1 hr2 rfl (by omega) _ 0 [] own ⟨g,of,none⟩ fs.length cap (fdCs fs) (fdCs_len fs) news (one_fds fs) (by unfold maxLen; omega) (by omega) (by omega);unfold Oper.wp execOp;simp only [ho,resolve,invoke,builtin,Sem.run_bind,Sem.run_pure,Result.andThen_ok,List.map_toArray,List.map_cons,List.map_nil,hs,hx,hr];rw [Nat.zero_add,List.nil_append] at h2;exact h v' w' h2 h3
def fxV (D g o cap:Nat) (fv:Value) (f:Fd) (i:Nat):Value:=
 (#[undef,.pointer (some ⟨D,6,none⟩),fv,undef,.slice (some ⟨g,o,none⟩) 8 cap,.pointer (some ⟨g,o + 1,none⟩),.string (txt f.nm),.int .i64 f.pl,.slice (some ⟨g,o,none⟩) 8 cap,.pointer (some ⟨g,o + 3,none⟩),.string (txt f.kd),.int .i64 f.wd,rv f.sn f.sd,rv f.on f.od,
  .slice (some ⟨g,o,none⟩) 8 cap,.pointer (some ⟨g,o + 7,none⟩),.string (txt f.un),.agg (fdC f).toArray,undef,undef,.pointer (some ⟨D,6,none⟩)]:Array Value).getD i undef
def FxP (N D g o cap:Nat) (fv:Value) (fs:List Fd) (f:Fd) (x:Array Bool) (i:Nat) (v:Value) (z:World):Prop:=
 (i=0→x.getD 3 false=true ∨ ∃ A,v=.slice (some ⟨A,0,none⟩) 0 0∧N≤A∧z.heap[A]?=some (.cells #[] 64 (0,0))) ∧
 (i=3→x.getD 19 false=true ∨ z.ownsRow N 64 9 v fs.length (fdCs fs)) ∧
 (i=18→x.getD 19 false=true ∨ ∃ b,v=.slice (some ⟨b,0,none⟩) 1 1∧N≤b∧z.heap[b]?=some (.cells (fdC f).toArray 64 (0,0))) ∧
 (i=19→x.getD 21 false=true ∨ z.ownsRow N 64 9 v (fs.length + 1) (fdCs fs ++ fdC f)) ∧
 (i ≠ 0→i ≠ 3→i ≠ 18→i ≠ 19→v=fxV D g o cap fv f i)
theorem FxP.mono {N D g o cap:Nat} {fv:Value} {fs:List Fd} {f:Fd} {x:Array Bool} {j:Nat} {v:Value} {z:World} (h:FxP N D g o cap fv fs f x j v z) (i:Nat):FxP N D g o cap fv fs f (x.setIfInBounds i true) j v z:=
 ⟨fun e=>(h.1 e).imp getD_set_true id,fun e=>(h.2.1 e).imp getD_set_true id,fun e=>(h.2.2.1 e).imp getD_set_true id,fun e=>(h.2.2.2.1 e).imp getD_set_true id,h.2.2.2.2⟩
theorem FxP.alloc {N D g o cap:Nat} {fv:Value} {fs:List Fd} {f:Fd} {x:Array Bool} {j:Nat} {v:Value} {z:World} (h:FxP N D g o cap fv fs f x j v z) (ob:Obj):FxP N D g o cap fv fs f x j v (z.alloc ob):=
 ⟨fun e=>(h.1 e).imp id fun ⟨A,h1,h2,h3⟩=>⟨A,h1,h2,(heap_alloc_old z ob (Array.getElem?_eq_some_iff.1 h3).1).trans h3⟩,fun e=>(h.2.1 e).imp id fun k=>k.alloc ob,fun e=>(h.2.2.1 e).imp id fun ⟨A,h1,h2,h3⟩=>⟨A,h1,h2,(heap_alloc_old z ob (Array.getElem?_eq_some_iff.1 h3).1).trans h3⟩,fun e=>(h.2.2.2.1 e).imp id fun k=>k.alloc ob,h.2.2.2.2⟩
theorem FxP.val {N D g o cap:Nat} {fv:Value} {fs:List Fd} {f:Fd} {x:Array Bool} {i:Nat} {v:Value} {z:World} (h:v=fxV D g o cap fv f i) (h0:i ≠ 0) (h3:i ≠ 3) (h18:i ≠ 18) (h19:i ≠ 19):FxP N D g o cap fv fs f x i v z:=
 ⟨fun e=>absurd e h0,fun e=>absurd e h3,fun e=>absurd e h18,fun e=>absurd e h19,fun _ _ _ _=>h⟩
structure FxW (w8:World) (D g o b5 b7:Nat) (fv:Value) (fs:List Fd) (f:Fd) (x:Array Bool) (z:World):Prop where
 c1:z.cell? ⟨g,o + 1,none⟩=some (.string (txt f.nm))
 c3:z.cell? ⟨g,o + 3,none⟩=some (.string (txt f.kd))
 c7:z.cell? ⟨g,o + 7,none⟩=some (.string (txt f.un))
 p0:z.cell? ⟨b5,0,none⟩=some (.int .i64 f.sn)
 p1:z.cell? ⟨b5,1,none⟩=some (.int .i64 f.sd)
 q0:z.cell? ⟨b7,0,none⟩=some (.int .i64 f.on)
 q1:z.cell? ⟨b7,1,none⟩=some (.int .i64 f.od)
 low:x.getD 21 false=false→Below w8.heap.size w8 z
 i30:x.getD 3 false=true→x.getD 0 false=true
 i32:x.getD 3 false=true→x.getD 2 false=true
 i193:x.getD 19 false=true→x.getD 3 false=true
 i198:x.getD 19 false=true→x.getD 18 false=true
 i21:x.getD 21 false=true→x.getD 19 false=true
 fin:x.getD 21 false=true→∃ y p n c,Below w8.heap.size w8 y∧y.ownsRow w8.heap.size 64 9 (.slice p n c) (fs.length + 1) (fdCs fs ++ fdC f)∧z=y.setCell ⟨D,6,none⟩ (.slice p n c)
theorem FxW.other {w8:World} {D g o b5 b7:Nat} {fv:Value} {fs:List Fd} {f:Fd} {x:Array Bool} {z:World} (h:FxW w8 D g o b5 b7 fv fs f x z) {i:Nat} (h3:i ≠ 3) (h19:i ≠ 19) (h21:i ≠ 21):FxW w8 D g o b5 b7 fv fs f (x.setIfInBounds i true) z:=by
 obtain ⟨c1,c3,c7,p0,p1,q0,q1,low,i30,i32,i193,i198,i21,fin⟩:=h;refine ⟨c1,c3,c7,p0,p1,q0,q1,?_,?_,?_,?_,?_,?_,?_⟩
 · rw [getD_set_ne false h21]; exact low
 · rw [getD_set_ne false h3]; exact fun h=>getD_set_true (i30 h)
 · rw [getD_set_ne false h3]; exact fun h=>getD_set_true (i32 h)
 · rw [getD_set_ne false h19]; exact fun h=>getD_set_true (i193 h)
 · rw [getD_set_ne false h19]; exact fun h=>getD_set_true (i198 h)
 · rw [getD_set_ne false h21]; exact fun h=>getD_set_true (i21 h)
 · rw [getD_set_ne false h21]; exact fin
theorem FxW.step {w8:World} {D g o b5 b7:Nat} {fv:Value} {fs:List Fd} {f:Fd} {x:Array Bool} {z z':World} (h:FxW w8 D g o b5 b7 fv fs f x z) (h21:x.getD 21 false=false) (h0:FxW w8 D g o b5 b7 fv fs f (Array.replicate 22 false) w8) (hb:Below w8.heap.size w8 z'):FxW w8 D g o b5 b7 fv fs f x z':=
 ⟨kp hb h0.c1,kp hb h0.c3,kp hb h0.c7,kp hb h0.p0,kp hb h0.p1,kp hb h0.q0,kp hb h0.q1,fun _=>hb,h.i30,h.i32,h.i193,h.i198,h.i21,fun e=>by rw [h21] at e; cases e⟩
theorem FxW.drew {w8:World} {D g o b5 b7:Nat} {fv:Value} {fs:List Fd} {f:Fd} {x:Array Bool} {z:World} (h:FxW w8 D g o b5 b7 fv fs f x z) (h21:x.getD 21 false=false) (h0:FxW w8 D g o b5 b7 fv fs f (Array.replicate 22 false) w8):FxW w8 D g o b5 b7 fv fs f x { w8 with drawn:=w8.drawn + 1 }:=
 h.step h21 h0 ⟨rfl,rfl,rfl,Nat.le_refl _,fun _ _=>rfl⟩
theorem off_of {x:Array Bool} {i j:Nat} (h:x.getD i false=true→x.getD j false=true) (hj:x.getD j false=false):x.getD i false=false:=by
 cases e:x.getD i false
 · rfl
 · rw [h e] at hj; cases hj
theorem line_end {w y:World} {d:Dv} {pf:Option Addr} {nf cf:Nat} {pq:Option Addr} {mq cq:Nat} (h:LineM w y d (.slice pf nf cf) (.slice pq mq cq)) {id t:Nat} {n:Int} {q0 q1 q2:String} {f0 f1 f2:Array Edge} {a:Act} {Q:Exit→Act→World→Prop}
 (e3:a.tmps.getD 3 undef=.pointer (some ⟨w.heap.size,0,none⟩)) (e6:a.tmps.getD 6 undef=.pointer (some ⟨w.heap.size + 1,0,none⟩)) (ht:t < a.tmps.size) (ht6:t ≠ 6)
 (hQ:Q .normal ((a.put (some t) (dvV d (.slice pf nf cf) (.slice pq mq cq))).put (some 7) (.int .i64 n)) (LineZ w y d (.slice pf nf cf) (.slice pq mq cq))) :
 (Code.region id #[{ dst:=some t,op:=.load 25 (.tmp 3),type:=25,pos:=q0,after:=f0,guard:=none },{ dst:=none,op:=.store 25 (.tmp 6) (.tmp t),type:=0,pos:=q1,after:=f1,guard:=none },{ dst:=some 7,op:=.assign (.const (.int .i64 n)),type:=3,pos:=q2,after:=f2,guard:=none }] false).wp Tryz.prog Q a y:=by
 have z0:=rd_cell h.dc;have z1:=rd_cell h.rc;refine wp_region_list ?_;obtain ⟨c0,_⟩:=z0 0;obtain ⟨c1,_⟩:=z0 1;obtain ⟨c2,_⟩:=z0 2;obtain ⟨c3,_⟩:=z0 3;obtain ⟨c4,_⟩:=z0 4;obtain ⟨c5,_⟩:=z0 5;obtain ⟨c6,_⟩:=z0 6;obtain ⟨c7,_⟩:=z0 7;obtain ⟨c8,_⟩:=z0 8;obtain ⟨c9,_⟩:=z0 9;obtain ⟨c10,_⟩:=z0 10;obtain ⟨c11,_⟩:=z0 11;simp only [List.getElem?_toArray,List.getElem?_cons_zero,List.getElem?_cons_succ] at c0 c1 c2 c3 c4 c5 c6 c7 c8 c9 c10 c11;refine wpList_plain rfl fun K hK=>?_
 suffices g:K (a.put (some t) (dvV d (.slice pf nf cf) (.slice pq mq cq))) y by
  clear hK;go_simp;exact g
 refine hK _ _ ?_;clear c0 c1 c2 c3 c4 c5 c6 c7 c8 c9 c10 c11;obtain ⟨l0,m0⟩:=z1 0;obtain ⟨l1,m1⟩:=z1 1;obtain ⟨l2,m2⟩:=z1 2;obtain ⟨l3,m3⟩:=z1 3;obtain ⟨l4,m4⟩:=z1 4;obtain ⟨l5,m5⟩:=z1 5;obtain ⟨l6,m6⟩:=z1 6;obtain ⟨l7,m7⟩:=z1 7;obtain ⟨l8,m8⟩:=z1 8;obtain ⟨l9,m9⟩:=z1 9;obtain ⟨l10,m10⟩:=z1 10;obtain ⟨l11,m11⟩:=z1 11;simp only [List.getElem?_toArray,List.getElem?_cons_zero,List.getElem?_cons_succ] at l0 l1 l2 l3 l4 l5 l6 l7 l8 l9 l10 l11;have u6:(a.put (some t) (dvV d (.slice pf nf cf) (.slice pq mq cq))).tmps.getD 6 undef=.pointer (some ⟨w.heap.size + 1,0,none⟩):=(put_off a _ ht6).trans e6;have ut:(a.put (some t) (dvV d (.slice pf nf cf) (.slice pq mq cq))).tmps.getD t undef=dvV d (.slice pf nf cf) (.slice pq mq cq):=put_at a _ ht;generalize a.put (some t) (dvV d (.slice pf nf cf) (.slice pq mq cq))=a1 at *;clear hK z0 z1 h e3 e6;refine wpList_plain rfl fun K hK=>?_
 suffices g:K a1 (LineZ w y d (.slice pf nf cf) (.slice pq mq cq)) by
  clear hK hQ;unfold LineZ putD put12 at g;go_simp;exact g
 refine hK _ _ ?_;clear hK l0 l1 l2 l3 l4 l5 l6 l7 l8 l9 l10 l11 m0 m1 m2 m3 m4 m5 m6 m7 m8 m9 m10 m11;generalize LineZ w y d (.slice pf nf cf) (.slice pq mq cq)=yy at *;refine wpList_plain rfl fun K hK=>?_
 suffices g:K (a1.put (some 7) (.int .i64 n)) yy by
  clear hK hQ;go_simp;exact g
 exact hK _ _ hQ
end Go.Proofs.YthabffjgdhfbmaaGreatDoor
