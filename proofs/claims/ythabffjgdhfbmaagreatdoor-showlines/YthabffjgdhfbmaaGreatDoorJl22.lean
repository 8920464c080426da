/-
  Texts that belong together, one behind the other: DsRR, UnRef, SnRf, SnRk, SnRa, SnRb. Conditions: as each says.
-/
import Derived.BigRegion
import Derived.ChangeOld
import Derived.Deep.QuietTactic
import Derived.Great.BuildSlice
import Derived.Laws.BitsAllLaws
import Derived.Laws.OwnMore
import Derived.Laws.Shifts
import Derived.Laws.Tables
import Derived.Lib.QuietBelowIn
import Derived.OpenShut
import Derived.ProofKit
import Derived.RangeFuncCalls
import Derived.ShutString
import Derived.Sort.BigQuietIn
import Derived.Test.YthabffjgdhfbmaaGreatDoorProg
import Derived.WalkKit
import Derived.Test.YthabffjgdhfbmaaGreatDoorJl1
import Derived.Test.YthabffjgdhfbmaaGreatDoorJl2
import Derived.Test.YthabffjgdhfbmaaGreatDoorJl3
import Derived.Test.YthabffjgdhfbmaaGreatDoorJl4
import Derived.Test.YthabffjgdhfbmaaGreatDoorJl5
import Derived.Test.YthabffjgdhfbmaaGreatDoorJl6
import Derived.Test.YthabffjgdhfbmaaGreatDoorJl7
import Derived.Test.YthabffjgdhfbmaaGreatDoorJl8
import Derived.Test.YthabffjgdhfbmaaGreatDoorJl9
import Derived.Test.YthabffjgdhfbmaaGreatDoorJl10
import Derived.Test.YthabffjgdhfbmaaGreatDoorJl11
import Derived.Test.YthabffjgdhfbmaaGreatDoorJl12
import Derived.Test.YthabffjgdhfbmaaGreatDoorJl15
import Derived.Test.YthabffjgdhfbmaaGreatDoorJl16
import Derived.Test.YthabffjgdhfbmaaGreatDoorJl17
import Derived.Test.YthabffjgdhfbmaaGreatDoorJl18
import Derived.Test.YthabffjgdhfbmaaGreatDoorJl19
set_option maxRecDepth 100000
set_option maxHeartbeats 32000000
set_option linter.unusedVariables false
namespace Go.Proofs.YthabffjgdhfbmaaGreatDoor
open Go.RowKit
theorem rread_of (P:LineP) (rs:List Lr) (v:Value) (w:World) (hv:LrsAt w v rs) (hn:(rs.length:Int)≤4500) (hwl:∀ r ∈ rs,(r.2.length:Int)≤4500) (hz:∀ r ∈ rs,∀ z ∈ r.2,(z.length:Int)≤5000) :
 Calls Tryz.prog 17 #[v] w (ReadQ w (readM rs)):=by
 have L0:Hid (LeftR dv0 [] rs (readM rs)):=rfl;generalize readM rs=T at *;obtain ⟨i0,hi0,hz0,hz1,hz2⟩:=info_parts info_st;obtain ⟨p,cap,rfl⟩:∃ p cap,v=.slice p rs.length cap:=by
  rcases hv with ⟨rfl,rfl⟩ | ⟨g,o,cap,rfl,_⟩
  · exact ⟨_,_,rfl⟩
  · exact ⟨_,_,rfl⟩
 replace P:Hid LineP:=P;replace hv:Hid (LrsAt w (.slice p rs.length cap) rs):=hv;replace hwl:Hid (∀ r ∈ rs,(r.2.length:Int)≤4500):=hwl;replace hz:Hid (∀ r ∈ rs,∀ z ∈ r.2,(z.length:Int)≤5000):=hz;obtain ⟨len,hlen⟩:∃ len,rs.length=len:=⟨_,rfl⟩;rw [hlen] at hn hv ⊢;replace hlen:Hid (rs.length=len):=hlen;have S0:Hid (RrSt w ((w.alloc (.cells dz 25)).alloc (.cells dz 25)) dv0 nilS nilS nilS []):=RrSt.first w
 go_enter Tryz.func17,Tryz.ntmps17
 go_upto_region 2 with fail
 change Code.wp Tryz.prog _ _ _ ((w.alloc (.cells dz 25)).alloc (.cells dz 25));generalize (w.alloc (.cells dz 25)).alloc (.cells dz 25)=w1 at *;go_wp2
 go_loopw [6,7,8] (fun vs vk vi wr=>∃ (k:Nat) (d:Dv) (fv qv:Value) (seen:List Wd),(k:Int)≤(len:Int)∧vi=.int .i64 (k:Int)∧vk=.int .i64 ((notF seen).length:Int)∧Hid (RrSt w wr d fv qv vs seen)∧Hid (LeftR d seen (rs.drop k) T)) (fun vs vk vi wr=>((len:Int) - intOf vi).toNat)
 case atStart=>exact ⟨0,dv0,nilS,nilS,[],by omega,rfl,rfl,S0,L0⟩
 case round=>
  obtain ⟨k,d,fv,qv,seen,hk,rfl,rfl,st,left⟩:=hrel;clear S0 L0;have hsl:(seen.length:Int)≤18:=by have:=sn_len st.out.sn; omega
  have hnl:((notF seen).length:Int)≤(seen.length:Int):=by
   have:(notF seen).length≤seen.length:=List.length_filter_le _ _;omega
  obtain ⟨pf,nf,cf,rfl⟩:∃ p n c,fv=.slice p n c:=by
   rcases st.out.fl with ⟨e,_⟩ | ⟨g,o,cap,e,_⟩
   · exact ⟨_,_,_,e⟩
   · exact ⟨_,_,_,e⟩
  obtain ⟨pq,mq,cq,rfl⟩:=st.out.rq.form
  by_cases hlt:k < len
  · have hki:(k:Int) < (len:Int):=by omega
    have hkr:k < rs.length:=by have:=hlen.out; omega
    rcases hv.out with ⟨_,hnil⟩ | ⟨gr,lk,cap1,e1,hrow,hgr⟩
    · rw [hnil] at hkr; cases hkr
    injection e1 with e1 e2 e3
    subst e1;subst e3;clear e2;obtain ⟨q0,vw,q1,q2⟩:=hrow k hkr;rw [Nat.mul_comm 2 k] at q0 q1;have lf:=left.out;rw [List.drop_eq_getElem_cons hkr] at lf;obtain ⟨r,hr⟩:∃ r,rs[k]=r:=⟨_,rfl⟩;have hrm:r ∈ rs:=by rw [← hr]; exact List.getElem_mem hkr
    rw [hr] at q0 q2 lf;have hwr:=hwl.out r hrm;have hzr:=hz.out r hrm;obtain ⟨ln,ws⟩:=r;simp only at q0 q2 hwr hzr;replace lf:Hid (LeftR d seen ((ln,ws) :: rs.drop (k + 1)) T):=lf;have rl:Hid (LnC wr d (.slice pf nf cf) (.slice pq mq cq) vw u6 seen ws):=P.out.at st.out (q2.below st.out.b) hwr hzr;have wk:IntKind.i64.wrap ((k:Int) + 1)=(k:Int) + 1:=by simp only [IntKind.wrap_i64]; omega
    have hkb:0≤(k:Int):=by omega
    have c0:Hid (wr.cell? ⟨gr,lk + k * 2,none⟩=some (.int .i64 ln)):=kp st.out.b q0;have c1:Hid (wr.cell? ⟨gr,lk + k * 2 + 1,none⟩=some vw):=kp st.out.b q1;have Dl:Hid (w.heap.size + 1 < wr.heap.size):=(Array.getElem?_eq_some_iff.1 st.out.dc).1;have hgw:Hid (gr < w.heap.size):=hgr;replace q1:Hid (w.cell? ⟨gr,lk + k * 2 + 1,none⟩=some vw):=q1;replace q2:Hid (StrsAny w vw ws):=q2;have F0:Hid (∀ g,(Value.slice pf nf cf).ownBlock=some g→g < wr.heap.size):=st.out.fl.lt;have Q0:Hid (∀ g,(Value.slice pq mq cq).ownBlock=some g→g < wr.heap.size):=st.out.rq.lt;have W0:Hid (LnW wr d (.slice pf nf cf) (.slice pq mq cq) seen ws ⟨0,dv0,nilS,nilS⟩ (Array.replicate 14 false) { wr with drawn:=wr.drawn + 1 }):=
     ⟨⟨rfl,rfl,rfl,Nat.le_refl _,fun _ _=>rfl⟩,⟨_,_,_,rfl⟩,⟨_,_,_,rfl⟩,fun h=>(by cases h),fun h=>(by cases h),fun h=>(by cases h),fun h=>(by cases h),fun h=>(by cases h),fun h=>(by cases h),fun h=>(by cases h),fun h=>(by cases h),fun h=>(by cases h)⟩
    obtain ⟨er,her⟩:∃ er:Int,((errN (stepM d seen ws):Nat):Int)=er:=⟨_,rfl⟩;clear hrow hr hzr hrm left q0 hwr;replace her:Hid (((errN (stepM d seen ws):Nat):Int)=er):=her
    go_upto_region 7 with fail
    refine region_props3 (LnP (w.heap.size + 1) gr k lk len cap (dvV d (.slice pf nf cf) (.slice pq mq cq)) vw u6 er) (LnW wr d (.slice pf nf cf) (.slice pq mq cq) seen ws) ⟨0,dv0,nilS,nilS⟩ (by kernel_rfl) (by kernel_rfl) ?_ ?_ W0.out
    · intro γ x a z i op ho hI haf hx hxi hW;have hi:i < 14:=(List.getElem?_eq_some_iff.1 ho).1;have xi:=getD_false hxi
      match i,hi with
      | 0,_=>
       obtain rfl:=Option.some.inj ho;have e1:a.tmps.getD 5 undef=.pointer (some ⟨w.heap.size + 1,0,none⟩):=(hI.was (by kernel_rfl)).trans rfl;have hD:z.heap[w.heap.size + 1]?=some (.cells (dvA d (.slice pf nf cf) (.slice pq mq cq)) 25 (0,0)):=(hW.low.block _ Dl.out).trans st.out.dc;obtain ⟨l0,m0,l1,m1,l2,m2,l3,m3,l4,m4,l5,m5,l6,m6,l7,m7,l8,m8,l9,m9,l10,m10,l11,m11⟩:=rd12 hD;go_simp;exact ⟨_,rfl,γ,rfl,fun j v _ h=>h,hW.other (by decide) (by decide) (by decide) (.inr (by decide))⟩
      | 1,_=>
       obtain rfl:=Option.some.inj ho;have e1:a.tmps.getD 0 undef=.slice (some ⟨gr,lk,none⟩) len cap:=(hI.was (by kernel_rfl)).trans rfl;go_simp;exact ⟨_,rfl,γ,rfl,fun j v _ h=>h,hW.other (by decide) (by decide) (by decide) (.inr (by decide))⟩
      | 2,_=>
       obtain rfl:=Option.some.inj ho;have e1:a.tmps.getD 8 undef=.int .i64 (k:Int):=(hI.was (by kernel_rfl)).trans rfl;go_simp;exact ⟨_,rfl,γ,rfl,fun j v _ h=>h,hW.other (by decide) (by decide) (by decide) (.inr (by decide))⟩
      | 3,_=>
       obtain rfl:=Option.some.inj ho;have e1:a.tmps.getD 19 undef=.slice (some ⟨gr,lk,none⟩) len cap:=(hI.val 1 _ 19 rfl rfl (dep_at haf (by kernel_rfl))).trans rfl;have e2:a.tmps.getD 20 undef=.int .i64 (k:Int):=(hI.val 2 _ 20 rfl rfl (dep_at haf (by kernel_rfl))).trans rfl;go_simp;exact ⟨_,rfl,γ,rfl,fun j v _ h=>h,hW.other (by decide) (by decide) (by decide) (.inr (by decide))⟩
      | 4,_=>
       obtain rfl:=Option.some.inj ho;have e1:a.tmps.getD 21 undef=.pointer (some ⟨gr,lk + k * 2,none⟩):=(hI.val 3 _ 21 rfl rfl (dep_at haf (by kernel_rfl))).trans rfl;go_simp;exact ⟨_,rfl,γ,rfl,fun j v _ h=>h,hW.other (by decide) (by decide) (by decide) (.inr (by decide))⟩
      | 5,_=>
       obtain rfl:=Option.some.inj ho;have e1:a.tmps.getD 22 undef=.pointer (some ⟨gr,lk + k * 2 + 1,none⟩):=(hI.val 4 _ 22 rfl rfl (dep_at haf (by kernel_rfl))).trans rfl;have l1:=kp hW.low c1.out;go_simp;exact ⟨_,rfl,γ,rfl,fun j v _ h=>h,hW.other (by decide) (by decide) (by decide) (.inr (by decide))⟩
      | 6,_=>
       obtain rfl:=Option.some.inj ho;have e1:a.tmps.getD 6 undef=u6:=(hI.was (by kernel_rfl)).trans rfl;go_simp;exact ⟨_,rfl,γ,rfl,fun j v _ h=>h,hW.other (by decide) (by decide) (by decide) (.inr (by decide))⟩
      | 7,_=>
       obtain rfl:=Option.some.inj ho;have e1:a.tmps.getD 18 undef=dvV d (.slice pf nf cf) (.slice pq mq cq):=(hI.val 0 _ 18 rfl rfl (dep_at haf (by kernel_rfl))).trans rfl;have e2:a.tmps.getD 23 undef=vw:=(hI.val 5 _ 23 rfl rfl (dep_at haf (by kernel_rfl))).trans rfl;have e3:a.tmps.getD 24 undef=u6:=(hI.val 6 _ 24 rfl rfl (dep_at haf (by kernel_rfl))).trans rfl;go_simp;refine (rl.out z hW.low).mono ?_;rintro e z' ⟨d2,p1,n1,c1,p2,n2,c2,rfl,hb,hg⟩;rw [her.out];refine ⟨_,rfl,⟨γ.b,d2,.slice p1 n1 c1,.slice p2 n2 c2⟩,rfl,fun j v hj h=>Eq.trans h (lineV_call (γ:=γ) (γ':=⟨γ.b,d2,.slice p1 n1 c1,.slice p2 n2 c2⟩) rfl ⟨?_,?_,?_,?_,?_⟩),hW.call xi hx hb F0.out Q0.out hg⟩
       · rintro rfl; have hj:=getD_q hj; rw [xi] at hj; cases hj
       · rintro rfl; have:=hW.o8 (getD_q hj); rw [xi] at this; cases this
       · rintro rfl; have:=hW.o9 (getD_q hj); rw [xi] at this; cases this
       · rintro rfl; have:=hW.o10 (getD_q hj); rw [xi] at this; cases this
       · rintro rfl; have:=hW.o13 (getD_q hj); rw [xi] at this; cases this
      | 8,_=>
       obtain rfl:=Option.some.inj ho;have e1:a.tmps.getD 25 undef=.tuple #[dvV γ.d γ.v1 γ.v2,.int .i64 er]:=(hI.val 7 _ 25 rfl rfl (dep_at haf (by kernel_rfl))).trans rfl;go_simp;exact ⟨_,rfl,γ,rfl,fun j v _ h=>h,hW.other (by decide) (by decide) (by decide) (.inl (dep_at (j:=7) haf (by kernel_rfl)))⟩
      | 9,_=>
       obtain rfl:=Option.some.inj ho;have e1:a.tmps.getD 17 undef=.tuple #[dvV γ.d γ.v1 γ.v2,.int .i64 er]:=(hI.val 8 _ 17 rfl rfl (dep_at haf (by kernel_rfl))).trans rfl;go_simp;exact ⟨_,rfl,γ,rfl,fun j v _ h=>h,hW.other (by decide) (by decide) (by decide) (.inl (hW.o8 (dep_at haf (by kernel_rfl))))⟩
      | 10,_=>
       obtain rfl:=Option.some.inj ho;have e1:a.tmps.getD 17 undef=.tuple #[dvV γ.d γ.v1 γ.v2,.int .i64 er]:=(hI.val 8 _ 17 rfl rfl (dep_at haf (by kernel_rfl))).trans rfl;go_simp;exact ⟨_,rfl,γ,rfl,fun j v _ h=>h,hW.other (by decide) (by decide) (by decide) (.inl (hW.o8 (dep_at haf (by kernel_rfl))))⟩
      | 11,_=>
       obtain rfl:=Option.some.inj ho;go_simp;refine ⟨_,rfl,⟨z.heap.size,γ.d,γ.v1,γ.v2⟩,rfl,fun j v hj h=>Eq.trans h (lineV_alloc ?_),hW.alloc xi hx⟩;rintro rfl; have hj:=getD_q hj; rw [xi] at hj; cases hj
      | 12,_=>
       obtain rfl:=Option.some.inj ho;have x9:x.getD 9 false=true:=dep_at haf (by kernel_rfl);have x11:x.getD 11 false=true:=dep_at haf (by kernel_rfl);have e1:a.tmps.getD 9 undef=.pointer (some ⟨γ.b,0,none⟩):=(hI.val 11 _ 9 rfl rfl (dep_at haf (by kernel_rfl))).trans rfl;have e2:a.tmps.getD 26 undef=dvV γ.d γ.v1 γ.v2:=(hI.val 9 _ 26 rfl rfl (dep_at haf (by kernel_rfl))).trans rfl;have hB:=(hW.bl x11).2;rw [xi] at hB;replace hB:z.heap[γ.b]?=some (.cells dz 25 (0,0)):=hB;have W':=hW.store (hW.o9 x9) x11 xi hx;obtain ⟨p1,n1,c1,f1⟩:=hW.f1;obtain ⟨p2,n2,c2,f2⟩:=hW.f2;obtain ⟨bb,d2,v1,v2⟩:=γ;simp only at f1 f2 e1 e2 hB W';subst f1 f2;obtain ⟨l0,m0,l1,m1,l2,m2,l3,m3,l4,m4,l5,m5,l6,m6,l7,m7,l8,m8,l9,m9,l10,m10,l11,m11⟩:=rd12 hB;go_simp;exact ⟨⟨bb,d2,.slice p1 n1 c1,.slice p2 n2 c2⟩,fun j v _ h=>h,W'⟩
      | 13,_=>
       obtain rfl:=Option.some.inj ho;have e1:a.tmps.getD 27 undef=.int .i64 er:=(hI.val 10 _ 27 rfl rfl (dep_at haf (by kernel_rfl))).trans rfl;go_simp;exact ⟨_,rfl,γ,rfl,fun j v _ h=>h,hW.other (by decide) (by decide) (by decide) (.inl (hW.o10 (dep_at haf (by kernel_rfl))))⟩
    · intro γ x a z hx hall hI hW;have ha:=RegI.tmps (V:=lineV (w.heap.size + 1) gr k lk len cap (dvV d (.slice pf nf cf) (.slice pq mq cq)) vw u6 er γ) hI (by kernel_rfl) hall;obtain ⟨bN,bZ⟩:=hW.bl (hall 11 (by decide));rw [if_pos (hall 12 (by decide))] at bZ;have gd:=hW.gd (hall 7 (by decide));have lo:=hW.low;obtain ⟨p1,n1,cc1,f1⟩:=hW.f1;obtain ⟨p2,n2,cc2,f2⟩:=hW.f2;obtain ⟨bb,d2,v1,v2⟩:=γ;simp only at f1 f2 bN bZ;subst f1 f2;simp only [putsL,lineV,List.setIfInBounds_toArray,List.set_cons_zero,List.set_cons_succ,Array.getD_eq_getD_getElem?,List.getElem?_toArray,List.getElem?_cons_zero,List.getElem?_cons_succ,Option.getD_some] at ha;subst ha;clear hI hall hx W0 F0 Q0 rl;have rcZ:Hid (z.heap[w.heap.size]?=some (.cells dz 25 (0,0))):=(lo.block _ (Array.getElem?_eq_some_iff.1 st.out.rc).1).trans st.out.rc;have bwz:Hid (Below w.heap.size w z):=st.out.b.trans (lo.mono st.out.b.size);have gR:Hid (gr ≠ w.heap.size):=Nat.ne_of_lt hgw.out
      cases hs:stepM d seen ws with
      | error n=>
       have fin:Hid (T=(dv0,ln,n)):=lf.out.bad hs;have hn3:=step_err hs;have en:er=(n:Int):=by rw [← her.out,hs]; rfl
       have hne:(er != 0)=true:=by rw [en,bne_iff_ne]; omega
       have c0z:Hid (z.cell? ⟨gr,lk + k * 2,none⟩=some (.int .i64 ln)):=kp lo c0.out;clear bZ gd c0 c1 lf her hs hW bN
       go_upto_region 9 with fail
       refine region_props (fun i v _=>ErP gr lk k len cap ln er i v) (ErrX z w.heap.size gr (lk + k * 2) ln) (by kernel_rfl) (by kernel_rfl) ?_ ?_ ⟨c0z.out,fun _=>rfl,fun h=>(by cases h)⟩
       · intro x a zz i op ho hI haf hx hxi hW;have hi:i < 10:=(List.getElem?_eq_some_iff.1 ho).1;have xi:=getD_false hxi
         match i,hi with
         | 0,_=>
          obtain rfl:=Option.some.inj ho;go_simp;exact ⟨_,rfl,rfl,fun j v _ h=>h,hW.other (by decide)⟩
         | 1,_=>
          obtain rfl:=Option.some.inj ho;have e1:a.tmps.getD 0 undef=.slice (some ⟨gr,lk,none⟩) len cap:=(hI.was (by kernel_rfl)).trans rfl;go_simp;exact ⟨_,rfl,rfl,fun j v _ h=>h,hW.other (by decide)⟩
         | 2,_=>
          obtain rfl:=Option.some.inj ho;have e1:a.tmps.getD 8 undef=.int .i64 (k:Int):=(hI.was (by kernel_rfl)).trans rfl;go_simp;exact ⟨_,rfl,rfl,fun j v _ h=>h,hW.other (by decide)⟩
         | 3,_=>
          obtain rfl:=Option.some.inj ho;have e1:a.tmps.getD 31 undef=.slice (some ⟨gr,lk,none⟩) len cap:=Eq.trans (hI.val 1 _ 31 rfl rfl (dep_at haf (by kernel_rfl))) rfl;have e2:a.tmps.getD 32 undef=.int .i64 (k:Int):=Eq.trans (hI.val 2 _ 32 rfl rfl (dep_at haf (by kernel_rfl))) rfl;go_simp;exact ⟨_,rfl,rfl,fun j v _ h=>h,hW.other (by decide)⟩
         | 4,_=>
          obtain rfl:=Option.some.inj ho;have e1:a.tmps.getD 33 undef=.pointer (some ⟨gr,lk + k * 2,none⟩):=Eq.trans (hI.val 3 _ 33 rfl rfl (dep_at haf (by kernel_rfl))) rfl;go_simp;exact ⟨_,rfl,rfl,fun j v _ h=>h,hW.other (by decide)⟩
         | 5,_=>
          obtain rfl:=Option.some.inj ho;have e1:a.tmps.getD 34 undef=.pointer (some ⟨gr,lk + k * 2,none⟩):=Eq.trans (hI.val 4 _ 34 rfl rfl (dep_at haf (by kernel_rfl))) rfl;have l1:=hW.lr;go_simp;exact ⟨_,rfl,rfl,fun j v _ h=>h,hW.other (by decide)⟩
         | 6,_=>
          obtain rfl:=Option.some.inj ho;have e1:a.tmps.getD 10 undef=.int .i64 er:=(hI.was (by kernel_rfl)).trans rfl;go_simp;exact ⟨_,rfl,rfl,fun j v _ h=>h,hW.other (by decide)⟩
         | 7,_=>
          obtain rfl:=Option.some.inj ho;have e1:a.tmps.getD 30 undef=.agg dz:=Eq.trans (hI.val 0 _ 30 rfl rfl (dep_at haf (by kernel_rfl))) rfl;have e2:a.tmps.getD 2 undef=.pointer (some ⟨w.heap.size,0,none⟩):=(hI.was (by kernel_rfl)).trans rfl;have W':=hW.stored gR.out xi (by rw [hx]; decide);obtain rfl:=hW.f0 xi;obtain ⟨l0,m0,l1,m1,l2,m2,l3,m3,l4,m4,l5,m5,l6,m6,l7,m7,l8,m8,l9,m9,l10,m10,l11,m11⟩:=rd12 rcZ.out;go_simp;exact ⟨fun j v _ h=>h,W'⟩
         | 8,_=>
          obtain rfl:=Option.some.inj ho;have e1:a.tmps.getD 35 undef=.int .i64 ln:=Eq.trans (hI.val 5 _ 35 rfl rfl (dep_at haf (by kernel_rfl))) rfl;go_simp;exact ⟨_,rfl,rfl,fun j v _ h=>h,hW.other (by decide)⟩
         | 9,_=>
          obtain rfl:=Option.some.inj ho;have e1:a.tmps.getD 36 undef=.int .i64 er:=Eq.trans (hI.val 6 _ 36 rfl rfl (dep_at haf (by kernel_rfl))) rfl;go_simp;exact ⟨_,rfl,rfl,fun j v _ h=>h,hW.other (by decide)⟩
       · intro x a zz hx hall hI hW;obtain rfl:=hW.f1 (hall 7 (by decide));have ha:=RegI.tmps (V:=errV gr lk k len cap ln er) hI (by kernel_rfl) hall;simp only [putsL,errV,List.setIfInBounds_toArray,List.set_cons_zero,List.set_cons_succ,Array.getD_eq_getD_getElem?,List.getElem?_toArray,List.getElem?_cons_zero,List.getElem?_cons_succ,Option.getD_some] at ha;subst ha;have pa:(putZ z w.heap.size).drew.heap[w.heap.size]?=some (.cells dz 25 (0,0)):=by rw [drew_heap]; exact put12_at (y:=z) rcZ.out (.string ⟨#[]⟩) (.int .i64 0) (.int .i64 0) (.int .i64 0) (.int .i64 0) (.string ⟨#[]⟩) (.slice none 0 0) (.slice none 0 0) (.int .i64 0) (.int .i64 0) (.int .i64 0) (.int .i64 0)
         have pb:Below w.heap.size w (putZ z w.heap.size).drew:=(put12_below bwz.out (Nat.le_refl w.heap.size) (.string ⟨#[]⟩) (.int .i64 0) (.int .i64 0) (.int .i64 0) (.int .i64 0) (.string ⟨#[]⟩) (.slice none 0 0) (.slice none 0 0) (.int .i64 0) (.int .i64 0) (.int .i64 0) (.int .i64 0)).drew;clear hI hW hall hx;generalize (putZ z w.heap.size).drew=yy at *;go_wp2;refine bodyPost_ret (res_dev3r Tryz.results17 rfl rfl rfl pa) rfl ?_;exact ⟨nilS,nilS,by rw [fin.out,en]; rfl,.inl ⟨rfl,by rw [fin.out]; rfl⟩,.inl ⟨rfl,by rw [fin.out]; rfl⟩,pb,fun g h=>(by cases h),fun g h=>(by cases h)⟩
      | ok d'=>
       have lf2:Hid (LeftR d' (seen ++ [ws.headD []]) (rs.drop (k + 1)) T):=lf.out.good hs;have en:er=0:=by rw [← her.out,hs]; rfl
       subst en;obtain ⟨f,a,u,rfl,hso⟩:=step_ok hs;clear hso u;rw [head_cons] at lf2;rcases q2.out with ⟨_,_,_,h⟩ | ⟨gw,ow,cw,rfl,hwi,hgw2⟩
       · cases h
       have hw0:Hid (w.cell? ⟨gw,ow,none⟩=some (.string (txt f))):=hwi 0 (by simp);have hwl2:0 < (((f :: a).length:Nat):Int):=by simp only [List.length_cons]; omega
       obtain ⟨wl,hwlE⟩:∃ wl,(f :: a).length=wl:=⟨_,rfl⟩;rw [hwlE] at hwl2 c1 q1 ⊢;have hd:d2=d':=(gd d' hs).1;subst hd;have nx:Hid (NxC w (LineZ w z d2 (.slice p1 n1 cc1) (.slice p2 n2 cc2)) d2 u6 (.slice p1 n1 cc1) (.slice p2 n2 cc2) seen f):=fun y v' o h1 h2 h3=>st.out.next (γ:=⟨bb,d2,.slice p1 n1 cc1,.slice p2 n2 cc2⟩) (f:=f) lo hs gd rfl h1 h2 h3
       have dcz:z.heap[w.heap.size + 1]?=some (.cells (dvA d (.slice pf nf cf) (.slice pq mq cq)) 25 (0,0)):=(lo.block _ Dl.out).trans st.out.dc;have lowD:Hid (Below w.heap.size w (LineZ w z d2 (.slice p1 n1 cc1) (.slice p2 n2 cc2))):=put12_below bwz.out (by omega) _ _ _ _ _ _ _ _ _ _ _ _;have lw:=World.ownsRow.lt st.out.so;have soD:Hid ((LineZ w z d2 (.slice p1 n1 cc1) (.slice p2 n2 cc2)).ownsRow (w.heap.size + 2) 9 1 u6 seen.length (strV seen)):=
        own_on st.out.so fun g hg=>(LineZ.off (by have:=(lw g hg).1; omega)).trans (lo.block g (lw g hg).2)
       have bsD:Hid (w.heap.size + 2≤(LineZ w z d2 (.slice p1 n1 cc1) (.slice p2 n2 cc2)).heap.size):=by
        have h1:=@LineZ.size w z d2 (.slice p1 n1 cc1) (.slice p2 n2 cc2);have h2:=(Array.getElem?_eq_some_iff.1 dcz).1;unfold Hid; omega
       have c1D:(LineZ w z d2 (.slice p1 n1 cc1) (.slice p2 n2 cc2)).cell? ⟨gr,lk + k * 2 + 1,none⟩=some (.slice (some ⟨gw,ow,none⟩) wl cw):=kp lowD.out q1.out;have w0D:(LineZ w z d2 (.slice p1 n1 cc1) (.slice p2 n2 cc2)).cell? ⟨gw,ow,none⟩=some (.string (txt f)):=kp lowD.out hw0.out;have c1z:=kp lo c1.out;have hw63:seen.length + 1≤maxLen:=by unfold maxLen; omega
       have hwby:(seen.length + 1) * 16≤140737488355328:=by omega
       have wk2:IntKind.i64.wrap (((notF seen).length:Int) + 1)=((notF seen).length:Int) + 1:=by simp only [IntKind.wrap_i64]; omega
       have cmp:(txt f == ⟨#[102,105,101,108,100]⟩)=decide (f=kFie):=txt_beq f kFie;have c2:((txt f).toList == [102,105,101,108,100])=decide (f=kFie):=by
        rw [Bool.eq_iff_iff,decide_eq_true_iff,beq_iff_eq,ByteArray.toList_eq];exact ⟨fun h=>h,fun h=>by rw [h]; rfl⟩
       have nk:Hid (((notF (seen ++ [f])).length:Int)=((notF seen).length:Int) + (if f=kFie then 0 else 1)):=notF_snoc seen f;obtain ⟨b0,bf0,b1,bf1,b2,bf2,b3,bf3,b4,bf4,b5,bf5,b6,bf6,b7,bf7,b8,bf8,b9,bf9,b10,bf10,b11,bf11⟩:=rd12 bZ;obtain ⟨l0,m0,l1,m1,l2,m2,l3,m3,l4,m4,l5,m5,l6,m6,l7,m7,l8,m8,l9,m9,l10,m10,l11,m11⟩:=rd12 dcz;clear hs hW gd lw her hwi hwlE lf q2 rcZ gR c0 c1 bN bwz st
       go_upto_region 11 with fail
       change Code.wp Tryz.prog _ _ _ (LineZ w z d2 (.slice p1 n1 cc1) (.slice p2 n2 cc2));clear b0 b1 b2 b3 b4 b5 b6 b7 b8 b9 b10 b11 bf0 bf1 bf2 bf3 bf4 bf5 bf6 bf7 bf8 bf9 bf10 bf11 l0 l1 l2 l3 l4 l5 l6 l7 l8 l9 l10 l11 m0 m1 m2 m3 m4 m5 m6 m7 m8 m9 m10 m11 dcz bZ lo lowD c1z;generalize (LineZ w z d2 (.slice p1 n1 cc1) (.slice p2 n2 cc2))=yD at *
       cases hd:decide (f=kFie)
       · rw [hd] at cmp c2;rw [if_neg (of_decide_eq_false hd)] at nk;clear hd
         go_wp2_with (at_builtin; refine wpList_append_own_at _ rfl _ _ 52 rfl (w.heap.size + 2) 9 i0 (.string ⟨#[]⟩) 1 16 Tryz.underlying52 hi0 hz0 hz1 hz2 rfl (by decide) _ _ _ rfl (World.ownsRow.alloc soD.out _) ⟨yD.heap.size,0,none⟩ 1 1 [.string (txt f)] rfl rfl (cell_one_new _ _ _) (by simp [Value.oneCell']) hw63 hwby (by have:=bsD.out; simp; omega) ?_; intro v1 y1 hA gA _ vA; have st2:Hid (RrSt w y1 d2 (.slice p1 n1 cc1) (.slice p2 n2 cc2) v1 (seen ++ [f])):=nx.out y1 v1 _ hA gA vA; have c1b:=kp st2.out.b q1.out; have w0b:=kp st2.out.b hw0.out; clear hA gA vA)
         exact ⟨⟨k + 1,d2,_,_,seen ++ [f],by omega,by simp,by rw [nk.out],st2,lf2⟩,by simp [intOf]; omega⟩
       · rw [hd] at cmp c2;rw [if_pos (of_decide_eq_true hd)] at nk;clear hd
         go_wp2_with (at_builtin; refine wpList_append_own_at _ rfl _ _ 52 rfl (w.heap.size + 2) 9 i0 (.string ⟨#[]⟩) 1 16 Tryz.underlying52 hi0 hz0 hz1 hz2 rfl (by decide) _ _ _ rfl (World.ownsRow.alloc soD.out _) ⟨yD.heap.size,0,none⟩ 1 1 [.string (txt f)] rfl rfl (cell_one_new _ _ _) (by simp [Value.oneCell']) hw63 hwby (by have:=bsD.out; simp; omega) ?_; intro v1 y1 hA gA _ vA; have st2:Hid (RrSt w y1 d2 (.slice p1 n1 cc1) (.slice p2 n2 cc2) v1 (seen ++ [f])):=nx.out y1 v1 _ hA gA vA; have c1b:=kp st2.out.b q1.out; have w0b:=kp st2.out.b hw0.out; clear hA gA vA)
         exact ⟨⟨k + 1,d2,_,_,seen ++ [f],by omega,by simp,by rw [nk.out,Int.add_zero],st2,lf2⟩,by simp [intOf]; omega⟩
  · obtain rfl:k=len:=by omega
    have lf:=left.out;rw [List.drop_of_length_le (by have:=hlen.out; omega)] at lf;have fin:Hid (T=if lackB seen=true then (dv0,0,9) else (d,0,0)):=lf.fin;have hlk:=st.out.sn.lack;have rcY:=st.out.rc;have dcY:=st.out.dc;have bY:Hid (Below w.heap.size w wr):=st.out.b;have fl:Hid (FldsAt wr (.slice pf nf cf) d.fs):=st.out.fl;have rq:Hid (BytesAt wr (.slice pq mq cq) d.rq):=st.out.rq;have fn:Hid (∀ g,(Value.slice pf nf cf).ownBlock=some g→w.heap.size < g):=fun g h=>by have:=(st.out.fn g h).1; omega
    have qn:Hid (∀ g,(Value.slice pq mq cq).ownBlock=some g→w.heap.size < g):=fun g h=>by have:=(st.out.qn g h).1; omega
    obtain ⟨c0,f0,c1,f1,c2,f2,c3,f3,c4,f4,c5,f5,c6,f6,c7,f7,c8,f8,c9,f9,c10,f10,c11,f11⟩:=rd12 rcY;obtain ⟨l0,m0,l1,m1,l2,m2,l3,m3,l4,m4,l5,m5,l6,m6,l7,m7,l8,m8,l9,m9,l10,m10,l11,m11⟩:=rd12 dcY;clear left lf st
    by_cases h10:(notF seen).length < 10
    · have n10:decide (((notF seen).length:Int) < 10)=true:=decide_eq_true (by omega);have hl:lackB seen=true:=by rw [hlk]; exact decide_eq_true h10
      rw [hl,if_pos rfl] at fin;replace rcY:Hid (wr.heap[w.heap.size]?=some (.cells dz 25 (0,0))):=rcY;clear dcY hl hlk h10;go_wp2;change bodyPost _ _ _ _ _ (put12 wr w.heap.size (.string ⟨#[]⟩) (.int .i64 0) (.int .i64 0) (.int .i64 0) (.int .i64 0) (.string ⟨#[]⟩) (.slice none 0 0) (.slice none 0 0) (.int .i64 0) (.int .i64 0) (.int .i64 0) (.int .i64 0));have pa:=put12_at (y:=wr) rcY.out (.string ⟨#[]⟩) (.int .i64 0) (.int .i64 0) (.int .i64 0) (.int .i64 0) (.string ⟨#[]⟩) (.slice none 0 0) (.slice none 0 0) (.int .i64 0) (.int .i64 0) (.int .i64 0) (.int .i64 0);have pb:=put12_below bY.out (Nat.le_refl w.heap.size) (.string ⟨#[]⟩) (.int .i64 0) (.int .i64 0) (.int .i64 0) (.int .i64 0) (.string ⟨#[]⟩) (.slice none 0 0) (.slice none 0 0) (.int .i64 0) (.int .i64 0) (.int .i64 0) (.int .i64 0);generalize put12 wr w.heap.size (.string ⟨#[]⟩) (.int .i64 0) (.int .i64 0) (.int .i64 0) (.int .i64 0) (.string ⟨#[]⟩) (.slice none 0 0) (.slice none 0 0) (.int .i64 0) (.int .i64 0) (.int .i64 0) (.int .i64 0)=yy at *;refine bodyPost_ret (res_dev3r Tryz.results17 rfl rfl rfl pa) rfl ?_;exact ⟨nilS,nilS,by rw [fin.out]; rfl,.inl ⟨rfl,by rw [fin.out]; rfl⟩,.inl ⟨rfl,by rw [fin.out]; rfl⟩,pb,fun g h=>(by cases h),fun g h=>(by cases h)⟩
    · have n10:decide (((notF seen).length:Int) < 10)=false:=decide_eq_false (by omega);have hl:lackB seen=false:=by rw [hlk]; exact decide_eq_false h10
      rw [hl,if_neg (by decide)] at fin;replace rcY:Hid (wr.heap[w.heap.size]?=some (.cells dz 25 (0,0))):=rcY;clear dcY hl hlk h10;go_wp2;change bodyPost _ _ _ _ _ (putD wr w.heap.size d (.slice pf nf cf) (.slice pq mq cq));have pa:=putD_at (y:=wr) rcY.out d (.slice pf nf cf) (.slice pq mq cq);have pb:=putD_below bY.out (Nat.le_refl w.heap.size) d (.slice pf nf cf) (.slice pq mq cq);have off:∀ g,w.heap.size < g→(putD wr w.heap.size d (.slice pf nf cf) (.slice pq mq cq)).heap[g]?=wr.heap[g]?:=fun g hg=>put12_off (by omega) _ _ _ _ _ _ _ _ _ _ _ _
      generalize putD wr w.heap.size d (.slice pf nf cf) (.slice pq mq cq)=yy at *;refine bodyPost_ret (res_dev3r Tryz.results17 rfl rfl rfl pa) rfl ?_;refine ⟨.slice pf nf cf,.slice pq mq cq,by rw [fin.out]; rfl,?_,?_,pb,fun g h=>Nat.le_of_lt (fn.out g h),fun g h=>Nat.le_of_lt (qn.out g h)⟩
      · rw [fin.out]; exact fl.out.on fun g hg=>off g (fn.out g hg)
      · rw [fin.out]; exact rq.out.on fun g hg=>off g (qn.out g hg)
def namesA:Array Value:=(tab.map (fun u=>Value.string u.nm)).toArray
def codesA:Array Value:=(tab.map (fun u=>Value.int .i64 u.code)).toArray
def dimsA:Array Value:=(tab.flatMap (fun u=>[.int .i64 u.m,.int .i64 u.l,.int .i64 u.t,.int .i64 u.k])).toArray
def numsA:Array Value:=(tab.flatMap (fun u=>[.int .i64 u.fn,.int .i64 u.fd,.int .i64 u.on,.int .i64 u.od])).toArray
theorem names_at:∀ (k:Nat) (h:k < tab.length),namesA[k]?=some (.string tab[k].nm)
 | 0,_=>by kernel_rfl
 | 1,_=>by kernel_rfl
 | 2,_=>by kernel_rfl
 | 3,_=>by kernel_rfl
 | 4,_=>by kernel_rfl
 | 5,_=>by kernel_rfl
 | 6,_=>by kernel_rfl
 | 7,_=>by kernel_rfl
 | 8,_=>by kernel_rfl
 | 9,_=>by kernel_rfl
 | 10,_=>by kernel_rfl
 | 11,_=>by kernel_rfl
 | 12,_=>by kernel_rfl
 | 13,_=>by kernel_rfl
 | 14,_=>by kernel_rfl
 | 15,_=>by kernel_rfl
 | 16,_=>by kernel_rfl
 | 17,_=>by kernel_rfl
 | 18,_=>by kernel_rfl
 | 19,_=>by kernel_rfl
 | 20,_=>by kernel_rfl
 | 21,_=>by kernel_rfl
 | 22,_=>by kernel_rfl
 | 23,_=>by kernel_rfl
 | 24,_=>by kernel_rfl
 | k + 25,h=>by exfalso; have:=tab_len; omega
theorem codes_at:∀ (k:Nat) (h:k < tab.length),codesA[k]?=some (.int .i64 tab[k].code)
 | 0,_=>by kernel_rfl
 | 1,_=>by kernel_rfl
 | 2,_=>by kernel_rfl
 | 3,_=>by kernel_rfl
 | 4,_=>by kernel_rfl
 | 5,_=>by kernel_rfl
 | 6,_=>by kernel_rfl
 | 7,_=>by kernel_rfl
 | 8,_=>by kernel_rfl
 | 9,_=>by kernel_rfl
 | 10,_=>by kernel_rfl
 | 11,_=>by kernel_rfl
 | 12,_=>by kernel_rfl
 | 13,_=>by kernel_rfl
 | 14,_=>by kernel_rfl
 | 15,_=>by kernel_rfl
 | 16,_=>by kernel_rfl
 | 17,_=>by kernel_rfl
 | 18,_=>by kernel_rfl
 | 19,_=>by kernel_rfl
 | 20,_=>by kernel_rfl
 | 21,_=>by kernel_rfl
 | 22,_=>by kernel_rfl
 | 23,_=>by kernel_rfl
 | 24,_=>by kernel_rfl
 | k + 25,h=>by exfalso; have:=tab_len; omega
theorem dims_at:∀ (k:Nat) (h:k < tab.length),dimsA[k * 4]?=some (.int .i64 tab[k].m)∧dimsA[k * 4 + 1]?=some (.int .i64 tab[k].l)∧dimsA[k * 4 + 2]?=some (.int .i64 tab[k].t)∧dimsA[k * 4 + 3]?=some (.int .i64 tab[k].k)
 | 0,_=>⟨by kernel_rfl,by kernel_rfl,by kernel_rfl,by kernel_rfl⟩
 | 1,_=>⟨by kernel_rfl,by kernel_rfl,by kernel_rfl,by kernel_rfl⟩
 | 2,_=>⟨by kernel_rfl,by kernel_rfl,by kernel_rfl,by kernel_rfl⟩
 | 3,_=>⟨by kernel_rfl,by kernel_rfl,by kernel_rfl,by kernel_rfl⟩
 | 4,_=>⟨by kernel_rfl,by kernel_rfl,by kernel_rfl,by kernel_rfl⟩
 | 5,_=>⟨by kernel_rfl,by kernel_rfl,by kernel_rfl,by kernel_rfl⟩
 | 6,_=>⟨by kernel_rfl,by kernel_rfl,by kernel_rfl,by kernel_rfl⟩
 | 7,_=>⟨by kernel_rfl,by kernel_rfl,by kernel_rfl,by kernel_rfl⟩
 | 8,_=>⟨by kernel_rfl,by kernel_rfl,by kernel_rfl,by kernel_rfl⟩
 | 9,_=>⟨by kernel_rfl,by kernel_rfl,by kernel_rfl,by kernel_rfl⟩
 | 10,_=>⟨by kernel_rfl,by kernel_rfl,by kernel_rfl,by kernel_rfl⟩
 | 11,_=>⟨by kernel_rfl,by kernel_rfl,by kernel_rfl,by kernel_rfl⟩
 | 12,_=>⟨by kernel_rfl,by kernel_rfl,by kernel_rfl,by kernel_rfl⟩
 | 13,_=>⟨by kernel_rfl,by kernel_rfl,by kernel_rfl,by kernel_rfl⟩
 | 14,_=>⟨by kernel_rfl,by kernel_rfl,by kernel_rfl,by kernel_rfl⟩
 | 15,_=>⟨by kernel_rfl,by kernel_rfl,by kernel_rfl,by kernel_rfl⟩
 | 16,_=>⟨by kernel_rfl,by kernel_rfl,by kernel_rfl,by kernel_rfl⟩
 | 17,_=>⟨by kernel_rfl,by kernel_rfl,by kernel_rfl,by kernel_rfl⟩
 | 18,_=>⟨by kernel_rfl,by kernel_rfl,by kernel_rfl,by kernel_rfl⟩
 | 19,_=>⟨by kernel_rfl,by kernel_rfl,by kernel_rfl,by kernel_rfl⟩
 | 20,_=>⟨by kernel_rfl,by kernel_rfl,by kernel_rfl,by kernel_rfl⟩
 | 21,_=>⟨by kernel_rfl,by kernel_rfl,by kernel_rfl,by kernel_rfl⟩
 | 22,_=>⟨by kernel_rfl,by kernel_rfl,by kernel_rfl,by kernel_rfl⟩
 | 23,_=>⟨by kernel_rfl,by kernel_rfl,by kernel_rfl,by kernel_rfl⟩
 | 24,_=>⟨by kernel_rfl,by kernel_rfl,by kernel_rfl,by kernel_rfl⟩
 | k + 25,h=>by exfalso; have:=tab_len; omega
theorem nums_at:∀ (k:Nat) (h:k < tab.length),numsA[k * 4]?=some (.int .i64 tab[k].fn)∧numsA[k * 4 + 1]?=some (.int .i64 tab[k].fd)∧numsA[k * 4 + 2]?=some (.int .i64 tab[k].on)∧numsA[k * 4 + 3]?=some (.int .i64 tab[k].od)
 | 0,_=>⟨by kernel_rfl,by kernel_rfl,by kernel_rfl,by kernel_rfl⟩
 | 1,_=>⟨by kernel_rfl,by kernel_rfl,by kernel_rfl,by kernel_rfl⟩
 | 2,_=>⟨by kernel_rfl,by kernel_rfl,by kernel_rfl,by kernel_rfl⟩
 | 3,_=>⟨by kernel_rfl,by kernel_rfl,by kernel_rfl,by kernel_rfl⟩
 | 4,_=>⟨by kernel_rfl,by kernel_rfl,by kernel_rfl,by kernel_rfl⟩
 | 5,_=>⟨by kernel_rfl,by kernel_rfl,by kernel_rfl,by kernel_rfl⟩
 | 6,_=>⟨by kernel_rfl,by kernel_rfl,by kernel_rfl,by kernel_rfl⟩
 | 7,_=>⟨by kernel_rfl,by kernel_rfl,by kernel_rfl,by kernel_rfl⟩
 | 8,_=>⟨by kernel_rfl,by kernel_rfl,by kernel_rfl,by kernel_rfl⟩
 | 9,_=>⟨by kernel_rfl,by kernel_rfl,by kernel_rfl,by kernel_rfl⟩
 | 10,_=>⟨by kernel_rfl,by kernel_rfl,by kernel_rfl,by kernel_rfl⟩
 | 11,_=>⟨by kernel_rfl,by kernel_rfl,by kernel_rfl,by kernel_rfl⟩
 | 12,_=>⟨by kernel_rfl,by kernel_rfl,by kernel_rfl,by kernel_rfl⟩
 | 13,_=>⟨by kernel_rfl,by kernel_rfl,by kernel_rfl,by kernel_rfl⟩
 | 14,_=>⟨by kernel_rfl,by kernel_rfl,by kernel_rfl,by kernel_rfl⟩
 | 15,_=>⟨by kernel_rfl,by kernel_rfl,by kernel_rfl,by kernel_rfl⟩
 | 16,_=>⟨by kernel_rfl,by kernel_rfl,by kernel_rfl,by kernel_rfl⟩
 | 17,_=>⟨by kernel_rfl,by kernel_rfl,by kernel_rfl,by kernel_rfl⟩
 | 18,_=>⟨by kernel_rfl,by kernel_rfl,by kernel_rfl,by kernel_rfl⟩
 | 19,_=>⟨by kernel_rfl,by kernel_rfl,by kernel_rfl,by kernel_rfl⟩
 | 20,_=>⟨by kernel_rfl,by kernel_rfl,by kernel_rfl,by kernel_rfl⟩
 | 21,_=>⟨by kernel_rfl,by kernel_rfl,by kernel_rfl,by kernel_rfl⟩
 | 22,_=>⟨by kernel_rfl,by kernel_rfl,by kernel_rfl,by kernel_rfl⟩
 | 23,_=>⟨by kernel_rfl,by kernel_rfl,by kernel_rfl,by kernel_rfl⟩
 | 24,_=>⟨by kernel_rfl,by kernel_rfl,by kernel_rfl,by kernel_rfl⟩
 | k + 25,h=>by exfalso; have:=tab_len; omega
def refW (w:World):World:=((((w.alloc (.cells #[.string ⟨#[]⟩,.int .i64 0,.int .i64 0,.int .i64 0,.int .i64 0,.int .i64 0,.int .i64 0,.int .i64 0,.int .i64 0,.int .i64 0] 115)).alloc (.cells namesA 9)).alloc (.cells dimsA 113)).alloc (.cells numsA 160)).alloc (.cells codesA 3)
theorem wp_at {P:Program} {Q:Exit→Act→World→Prop} {c:Code} {a:Act} {w w':World} (h:w=w') (k:c.wp P Q a w'):c.wp P Q a w:=h ▸ k
theorem rfind_any (s:ByteArray) (w:World) :
 Calls Tryz.prog 63 #[.string s] w fun e w'=>e=.returned (.tuple #[encU (atU s),.bool (isU s)])∧Below w.heap.size w w':=by
 go_enter Tryz.func63,Tryz.ntmps63
 go_wp2;refine wp_at (w':=refW w) (by kernel_rfl) ?_;unfold refW
 go_loop [8] (fun i=>∃ k:Nat,i=.int .i64 (k:Int)∧k≤25∧Hid (∀ j (h:j < tab.length),j < k→tab[j].nm ≠ s)) (fun i=>25 - (intOf i).toNat)
 case atStart=>exact ⟨0,rfl,by omega,fun j h hj=>by omega⟩
 case round=>
  obtain ⟨k,rfl,hk,hno⟩:=hrel
  by_cases hlt:(k:Int) < 25
  · have hkl:k < tab.length:=by rw [tab_len]; omega
    have hnm:=names_at k hkl;have hcd:=codes_at k hkl;obtain ⟨d0,d1,d2,d3⟩:=dims_at k hkl;obtain ⟨n0,n1,n2,n3⟩:=nums_at k hkl;have hyes:Hid (tab[k].nm=s→isU s=true∧atU s=tab[k]):=fun h=>atU_first (pre:=tab.take k) (rest:=tab.drop (k + 1)) (by rw [← List.drop_eq_getElem_cons,List.take_append_drop]) (fun x hx=>by
     obtain ⟨j,hj,rfl⟩:=List.mem_iff_getElem.1 hx;rw [List.length_take] at hj;rw [List.getElem_take];exact hno.out j (by omega) (by omega)) h
    have hnext:Hid (tab[k].nm ≠ s→∀ j (h:j < tab.length),j < k + 1→tab[j].nm ≠ s):=fun h j hj hjk=>by
     by_cases e:j=k
     · subst e; exact h
     · exact hno.out j hj (by omega)
    clear hno;generalize tab[k]=u at *;clear hkl;obtain ⟨nm,um,ul,ut,uk,fn,fd,on,od,code⟩:=u;simp only at hnm hcd d0 d1 d2 d3 n0 n1 n2 n3 hyes hnext
    by_cases hs:nm=s
    · have hq:=nm_yes hs;have Y:Hid (isU s=true∧atU s=⟨s,um,ul,ut,uk,fn,fd,on,od,code⟩):=by
       have:=hyes.out hs;rw [hs] at this;exact this
      clear hs hyes hnext;go_wp2
      go_region
      go_wp2;go_returns;exact ⟨by rw [Y.out.1,Y.out.2],by go_grown⟩
    · have hq:=nm_no hs;have hn2:Hid (∀ j (h:j < tab.length),j < k + 1→tab[j].nm ≠ s):=hnext.out hs;clear hs hyes hnext;go_wp2;exact ⟨⟨k + 1,by simp,by omega,hn2⟩,by simp [intOf]; omega⟩
  · obtain rfl:k=25:=by omega
    have hz:Hid (isU s=false∧atU s=noU):=isU_not (s:=s) (fun u hu=>by
     obtain ⟨j,hj,rfl⟩:=List.mem_iff_getElem.1 hu;exact hno.out j hj (by rw [tab_len] at hj; exact hj))
    clear hno;go_wp2;go_returns;exact ⟨by rw [hz.out.1,hz.out.2]; rfl,by go_grown⟩
theorem fldE_k {sz:Int} {f:Fd} {T:Int} (h:fldE sz f=T) (hk:gdK f=false):6=T:=by rw [← h,fldE_form,if_neg (by rw [hk]; decide)]
theorem fldE_p {sz:Int} {f:Fd} {T:Int} (h:fldE sz f=T) (hk:gdK f=true) (hp:gdP sz f=false):11=T:=by rw [← h,fldE_form,if_pos hk,if_neg (by rw [hp]; decide)]
theorem fldE_r {sz:Int} {f:Fd} {T:Int} (h:fldE sz f=T) (hk:gdK f=true) (hp:gdP sz f=true) (hr:gdR f=false):1=T:=by rw [← h,fldE_form,if_pos hk,if_pos hp,if_neg (by rw [hr]; decide)]
theorem fldE_u {sz:Int} {f:Fd} {T:Int} (h:fldE sz f=T) (hk:gdK f=true) (hp:gdP sz f=true) (hr:gdR f=true) (hu:gdU f=false):4=T:=by rw [← h,fldE_form,if_pos hk,if_pos hp,if_pos hr,if_neg (by rw [hu]; decide)]
theorem fldE_ok {sz:Int} {f:Fd} {T:Int} (h:fldE sz f=T) (hk:gdK f=true) (hp:gdP sz f=true) (hr:gdR f=true) (hu:gdU f=true):0=T:=by rw [← h,fldE_form,if_pos hk,if_pos hp,if_pos hr,if_pos hu]
theorem gdK_wd {f:Fd} (h:gdK f=true):1≤f.wd∧f.wd≤8:=by
 unfold gdK at h;rw [Bool.and_eq_true] at h;rcases rgt_cases h.2 with k | k <;> omega
theorem gdP_yes {sz:Int} {f:Fd} (hk:gdK f=true) (h0:0≤f.pl) (h:f.pl + f.wd≤sz):gdP sz f=true:=by
 have:=gdK_wd hk;unfold gdP;simp only [Bool.and_eq_true,decide_eq_true_eq];omega
theorem gdP_low {sz:Int} {f:Fd} (h0:f.pl < 0):gdP sz f=false:=by
 unfold gdP;rw [decide_eq_false (by omega)]; rfl
theorem gdP_high {sz:Int} {f:Fd} (h:sz < f.pl + f.wd):gdP sz f=false:=by
 unfold gdP;rw [decide_eq_false (by omega:¬ f.wd≤sz - f.pl)]; simp
theorem gdP_far {sz:Int} {f:Fd} (h:sz≤f.pl):gdP sz f=false:=by
 unfold gdP;rw [decide_eq_false (by omega:¬ f.pl < sz)]; simp
theorem rfield_any (sz:Int) (f:Fd) (w:World) (hi:FdI f) (hz:I64 sz) (hs:sz≤1000000):Calls Tryz.prog 27 #[.int .i64 sz,fdV f] w (QA w (fldE sz f)):=by
 have nc:Hid (∀ x,Calls Tryz.prog 25 #[.string (txt f.nm)] x fun e w'=>e=.returned (.bool (nameB f.nm))∧Below x.heap.size x w'):=fun x=>same_b (rname_any (txt f.nm) x)
 have rc:Hid (∀ x,Calls Tryz.prog 61 #[.string (txt f.kd),.int .i64 f.wd] x fun e w'=>e=.returned (.bool (rgtB (kindI (txt f.kd)) f.wd))∧Below x.heap.size x w'):=fun x=>same_b (bright_any (txt f.kd) f.wd x hi.wd)
 have r1:Hid (∀ x,Calls Tryz.prog 62 #[rv f.sn f.sd] x fun e w'=>e=.returned (.bool (rightB f.sn f.sd))∧Below x.heap.size x w'):=fun x=>rright_any f.sn f.sd x hi.sn hi.sd
 have r2:Hid (∀ x,Calls Tryz.prog 62 #[rv f.on f.od] x fun e w'=>e=.returned (.bool (rightB f.on f.od))∧Below x.heap.size x w'):=fun x=>rright_any f.on f.od x hi.on hi.od
 have fd:Hid (∀ x,Calls Tryz.prog 63 #[.string (txt f.un)] x fun e w'=>e=.returned (.tuple #[encU (atU (txt f.un)),.bool (gdU f)])∧Below x.heap.size x w'):=fun x=>rfind_any (txt f.un) x
 have F0:Hid (FdB (w.alloc (.cells #[.string (txt f.nm),.int .i64 f.pl,.string (txt f.kd),.int .i64 f.wd,.int .i64 f.sn,.int .i64 f.sd,.int .i64 f.on,.int .i64 f.od,.string (txt f.un)] 64)) w.heap.size f):=FdB.new w f _;have B0:Hid (Below w.heap.size w (w.alloc (.cells #[.string (txt f.nm),.int .i64 f.pl,.string (txt f.kd),.int .i64 f.wd,.int .i64 f.sn,.int .i64 f.sd,.int .i64 f.on,.int .i64 f.od,.string (txt f.un)] 64))):=(Below.refl _ _).alloc (Nat.le_refl _) _;obtain ⟨T,hT⟩:∃ T,fldE sz f=T:=⟨_,rfl⟩;rw [hT];replace hT:Hid (fldE sz f=T):=hT;obtain ⟨A,hA⟩:∃ A,nameB f.nm=A:=⟨_,rfl⟩;obtain ⟨K,hK⟩:∃ K,rgtB (kindI (txt f.kd)) f.wd=K:=⟨_,rfl⟩;obtain ⟨R1,hR1⟩:∃ R,rightB f.sn f.sd=R:=⟨_,rfl⟩;obtain ⟨R2,hR2⟩:∃ R,rightB f.on f.od=R:=⟨_,rfl⟩;obtain ⟨U,hU⟩:∃ U,gdU f=U:=⟨_,rfl⟩;rw [hA] at nc;rw [hK] at rc;rw [hR1] at r1;rw [hR2] at r2;rw [hU] at fd;have hGK:Hid (gdK f=(A && K)):=by unfold Hid gdK; rw [hA,hK]
 have hGR:Hid (gdR f=(R1 && R2)):=by unfold Hid gdR; rw [hR1,hR2]
 replace hU:Hid (gdU f=U):=hU;obtain ⟨hz1,hz2⟩:=hz;obtain ⟨hp1,hp2⟩:=hi.pl;clear hi hA hK hR1 hR2;generalize atU (txt f.un)=uu at *
 go_enter Tryz.func27,Tryz.ntmps27
 go_wp2_with fail
 refine (nc.out _).mono ?_;rintro e y1 ⟨rfl,hb⟩;have F1:Hid (FdB y1 w.heap.size f):=F0.out.below hb;have B1:Hid (Below w.heap.size w y1):=B0.out.trans (hb.mono B0.out.size);clear hb F0 B0 nc
 cases A
 · have fin:Hid (6=T):=fldE_k hT.out hGK.out;clear rc r1 r2 fd hT hGK hGR hU F1;go_wp2;go_ret;exact ⟨ret_int fin.out,B1.out⟩
 obtain ⟨_,_,c2,c3,_⟩:=F1.out.cells
 go_wp2_with fail
 refine (rc.out _).mono ?_;rintro e y2 ⟨rfl,hb⟩;have F2:Hid (FdB y2 w.heap.size f):=F1.out.below hb;have B2:Hid (Below w.heap.size w y2):=B1.out.trans (hb.mono B1.out.size);clear hb F1 B1 rc c2 c3
 cases K
 · have fin:Hid (6=T):=fldE_k hT.out hGK.out;clear r1 r2 fd hT hGK hGR hU F2;go_wp2;go_ret;exact ⟨ret_int fin.out,B2.out⟩
 have hk:gdK f=true:=hGK.out;obtain ⟨hw1,hw2⟩:=gdK_wd hk;replace hk:Hid (gdK f=true):=hk;clear hGK;obtain ⟨_,c1,_,c3,_⟩:=F2.out.cells
 by_cases q1:f.pl < 0
 · have fin:Hid (11=T):=fldE_p hT.out hk.out (gdP_low q1);clear r1 r2 fd hT hk hGR hU F2;generalize f.pl=pl at *;generalize f.wd=wd at *;go_wp2;go_ret;exact ⟨ret_int fin.out,B2.out⟩
 by_cases q2:1000000 < f.pl
 · have fin:Hid (11=T):=fldE_p hT.out hk.out (gdP_far (by omega));clear r1 r2 fd hT hk hGR hU F2;generalize f.pl=pl at *;generalize f.wd=wd at *;go_wp2;go_ret;exact ⟨ret_int fin.out,B2.out⟩
 by_cases q3:sz < f.pl + f.wd
 · have fin:Hid (11=T):=fldE_p hT.out hk.out (gdP_high q3);clear r1 r2 fd hT hk hGR hU F2;generalize f.pl=pl at *;generalize f.wd=wd at *;go_wp2;go_ret;exact ⟨ret_int fin.out,B2.out⟩
 have hp:Hid (gdP sz f=true):=gdP_yes hk.out (by omega) (by omega);obtain ⟨_,_,_,_,c4,c5,_⟩:=F2.out.cells
 go_wp2_with fail
 refine (r1.out _).mono ?_;rintro e y3 ⟨rfl,hb⟩;have F3:Hid (FdB y3 w.heap.size f):=F2.out.below hb;have B3:Hid (Below w.heap.size w y3):=B2.out.trans (hb.mono B2.out.size);clear hb F2 B2 r1 c1 c3 c4 c5 q1 q2 q3 hw1 hw2 hp1 hp2
 cases R1
 · have fin:Hid (1=T):=fldE_r hT.out hk.out hp.out hGR.out;clear r2 fd hT hk hGR hU hp F3;go_wp2;go_ret;exact ⟨ret_int fin.out,B3.out⟩
 obtain ⟨_,_,_,_,_,_,c6,c7,_⟩:=F3.out.cells
 go_wp2_with fail
 refine (r2.out _).mono ?_;rintro e y4 ⟨rfl,hb⟩;have F4:Hid (FdB y4 w.heap.size f):=F3.out.below hb;have B4:Hid (Below w.heap.size w y4):=B3.out.trans (hb.mono B3.out.size);clear hb F3 B3 r2 c6 c7
 cases R2
 · have fin:Hid (1=T):=fldE_r hT.out hk.out hp.out hGR.out;clear fd hT hk hGR hU hp F4;go_wp2;go_ret;exact ⟨ret_int fin.out,B4.out⟩
 have c8:=F4.out.c 8 _ rfl;clear F4
 go_wp2_with fail
 refine (fd.out _).mono ?_;rintro e y5 ⟨rfl,hb⟩;have B5:Hid (∀ o,Below w.heap.size w (y5.alloc o)):=fun o=>(B4.out.trans (hb.mono B4.out.size)).alloc (Nat.le_trans B4.out.size hb.size) o
 clear hb fd c8 B4
 cases U
 · have fin:Hid (4=T):=fldE_u hT.out hk.out hp.out hGR.out hU.out;clear hT hk hGR hU hp;go_wp2;go_ret;exact ⟨ret_int fin.out,B5.out _⟩
 · have fin:Hid (0=T):=fldE_ok hT.out hk.out hp.out hGR.out hU.out;clear hT hk hGR hU hp;go_wp2;go_ret;exact ⟨ret_int fin.out,B5.out _⟩
theorem gdN_iff {d:Dv}:gdN d=true ↔ (0≤d.st∧d.st≤255)∧(0≤d.es∧d.es≤255)∧(0≤d.mx∧d.mx≤255)∧(1≤d.sz∧d.sz≤32)∧(1≤d.po∧d.po≤1000)∧(1≤d.ti∧d.ti≤1000)∧(1≤d.ag∧d.ag≤1000)∧(0≤d.re∧d.re≤10)∧(1≤(d.rq.length:Int)∧(d.rq.length:Int)≤16)∧(0≤(d.fs.length:Int)∧(d.fs.length:Int)≤8):=by
 unfold gdN gd1 gd2 gd3 gd4 gd5 gd6 inB;simp only [Bool.and_eq_true,decide_eq_true_eq];omega
theorem ck_6 {d:Dv} {T:Int} (h:ckE d=T) (hk:¬ (nameB d.nm=true∧gdN d=true)):6=T:=by rw [← h,ckE_form,if_neg hk]
theorem ck_4 {d:Dv} {T:Int} (h:ckE d=T) (h1:nameB d.nm=true) (h2:gdN d=true) (h3:isSum (txt d.sm)=false):4=T:=by rw [← h,ckE_form,if_pos ⟨h1,h2⟩,if_neg (by rw [h3]; decide)]
theorem ck_10 {d:Dv} {T:Int} (h:ckE d=T) (h1:nameB d.nm=true) (h2:gdN d=true) (h3:isSum (txt d.sm)=true) (h4:gdC d=false):10=T:=by rw [← h,ckE_form,if_pos ⟨h1,h2⟩,if_pos h3,if_neg (by rw [h4]; decide)]
theorem ck_11 {d:Dv} {T:Int} (h:ckE d=T) (h1:nameB d.nm=true) (h2:gdN d=true) (h3:isSum (txt d.sm)=true) (h4:gdC d=true) (h5:gdT d=false):11=T:=by rw [← h,ckE_form,if_pos ⟨h1,h2⟩,if_pos h3,if_pos h4,if_neg (by rw [h5]; decide)]
theorem ck_fs {d:Dv} {T:Int} (h:ckE d=T) (h1:nameB d.nm=true) (h2:gdN d=true) (h3:isSum (txt d.sm)=true) (h4:gdC d=true) (h5:gdT d=true):FsI d.sz [] d.fs T:=by unfold FsI; rw [← h,ckE_form,if_pos ⟨h1,h2⟩,if_pos h3,if_pos h4,if_pos h5]
theorem FsI.err {sz:Int} {seen:List Wd} {f:Fd} {l:List Fd} {T:Int} (h:FsI sz seen (f :: l) T) (h0:¬ fldE sz f=0):fldE sz f=T:=by unfold FsI at h; rw [flds_cons,if_neg h0] at h; exact h
theorem FsI.twice {sz:Int} {seen:List Wd} {f:Fd} {l:List Fd} {T:Int} (h:FsI sz seen (f :: l) T) (h0:fldE sz f=0) (hm:f.nm ∈ seen):8=T:=by unfold FsI at h; rw [flds_cons,if_pos h0,if_pos hm] at h; exact h
theorem FsI.go {sz:Int} {seen:List Wd} {f:Fd} {l:List Fd} {T:Int} (h:FsI sz seen (f :: l) T) (h0:fldE sz f=0) (hm:¬ f.nm ∈ seen):FsI sz (seen ++ [f.nm]) l T:=by unfold FsI at *; rw [flds_cons,if_pos h0,if_neg hm] at h; exact h
theorem rck_a (d:Dv) (pf pq:Option Addr) (nf cf nq cq:Nat) (w:World) (hf:d.fs.length=nf) (hq:d.rq.length=nq) (hfv:FldsV w (.slice pf nf cf) d.fs) (hbad:¬ nameB d.nm=true ∨ d.st < 0 ∨ 255 < d.st ∨ d.es < 0 ∨ 255 < d.es ∨ d.mx < 0 ∨ 255 < d.mx ∨ d.sz < 1 ∨ 32 < d.sz ∨ 8 < (nf:Int) ∨ (nq:Int) < 1 ∨ 16 < (nq:Int)):Calls Tryz.prog 12 #[dvV d (.slice pf nf cf) (.slice pq nq cq)] w (QA w 6):=by
 have nc:Hid (∀ x,Calls Tryz.prog 25 #[.string (txt d.nm)] x fun e w'=>e=.returned (.bool (nameB d.nm))∧Below x.heap.size x w'):=fun x=>same_b (rname_any (txt d.nm) x)
 have D0:Hid (DevB (w.alloc (.cells #[.string (txt d.nm),.int .i64 d.st,.int .i64 d.es,.int .i64 d.mx,.int .i64 d.sz,.string (txt d.sm),.slice pf nf cf,.slice pq nq cq,.int .i64 d.po,.int .i64 d.ti,.int .i64 d.re,.int .i64 d.ag] 25)) w.heap.size d (.slice pf nf cf) (.slice pq nq cq)):=DevB.new hfv _;have B0:Hid (Below w.heap.size w (w.alloc (.cells #[.string (txt d.nm),.int .i64 d.st,.int .i64 d.es,.int .i64 d.mx,.int .i64 d.sz,.string (txt d.sm),.slice pf nf cf,.slice pq nq cq,.int .i64 d.po,.int .i64 d.ti,.int .i64 d.re,.int .i64 d.ag] 25))):=(Below.refl _ _).alloc (Nat.le_refl _) _;clear hf hq hfv
 go_enter Tryz.func12,Tryz.ntmps12
 go_wp2_with fail
 refine (nc.out _).mono ?_;rintro e y1 ⟨rfl,hb⟩;have D1:Hid (DevB y1 w.heap.size d (.slice pf nf cf) (.slice pq nq cq)):=D0.out.below hb;have B1:Hid (Below w.heap.size w y1):=B0.out.trans (hb.mono B0.out.size);clear hb D0 B0 nc
 cases hA:nameB d.nm
 · clear hbad hA D1;go_wp2;go_ret;exact ⟨rfl,B1.out⟩
 replace hbad:=hbad.resolve_left (by simp [hA]);obtain ⟨_,z1,z2,z3,z4,z5,z6,z7,z8,z9,z10,z11⟩:=D1.out.cells;clear D1 hA;generalize d.st=st_ at *;generalize d.es=es_ at *;generalize d.mx=mx_ at *;generalize d.sz=sz_ at *;generalize d.po=po_ at *;generalize d.ti=ti_ at *;generalize d.re=re_ at *;generalize d.ag=ag_ at *
 by_cases q0:st_ < 0
 · clear hbad;go_wp2;go_ret;exact ⟨rfl,B1.out⟩
 replace hbad:=hbad.resolve_left q0
 by_cases q1:255 < st_
 · clear hbad;go_wp2;go_ret;exact ⟨rfl,B1.out⟩
 replace hbad:=hbad.resolve_left q1
 by_cases q2:es_ < 0
 · clear hbad;go_wp2;go_ret;exact ⟨rfl,B1.out⟩
 replace hbad:=hbad.resolve_left q2
 by_cases q3:255 < es_
 · clear hbad;go_wp2;go_ret;exact ⟨rfl,B1.out⟩
 replace hbad:=hbad.resolve_left q3
 by_cases q4:mx_ < 0
 · clear hbad;go_wp2;go_ret;exact ⟨rfl,B1.out⟩
 replace hbad:=hbad.resolve_left q4
 by_cases q5:255 < mx_
 · clear hbad;go_wp2;go_ret;exact ⟨rfl,B1.out⟩
 replace hbad:=hbad.resolve_left q5
 by_cases q6:sz_ < 1
 · clear hbad;go_wp2;go_ret;exact ⟨rfl,B1.out⟩
 replace hbad:=hbad.resolve_left q6
 by_cases q7:32 < sz_
 · clear hbad;go_wp2;go_ret;exact ⟨rfl,B1.out⟩
 replace hbad:=hbad.resolve_left q7
 by_cases q8:8 < (nf:Int)
 · clear hbad;go_wp2;go_ret;exact ⟨rfl,B1.out⟩
 replace hbad:=hbad.resolve_left q8
 by_cases q9:(nq:Int) < 1
 · clear hbad;go_wp2;go_ret;exact ⟨rfl,B1.out⟩
 replace hbad:=hbad.resolve_left q9
 by_cases q10:16 < (nq:Int)
 · clear hbad;go_wp2;go_ret;exact ⟨rfl,B1.out⟩
 exact absurd hbad q10
theorem rck_b (d:Dv) (pf pq:Option Addr) (nf cf nq cq:Nat) (w:World) (hf:d.fs.length=nf) (hq:d.rq.length=nq) (hfv:FldsV w (.slice pf nf cf) d.fs) (hn:nameB d.nm=true) (h1:¬ d.st < 0∧¬ 255 < d.st∧¬ d.es < 0∧¬ 255 < d.es∧¬ d.mx < 0∧¬ 255 < d.mx∧¬ d.sz < 1∧¬ 32 < d.sz∧¬ 8 < (nf:Int)∧¬ (nq:Int) < 1∧¬ 16 < (nq:Int)) (hbad:d.po < 1 ∨ 1000 < d.po ∨ d.ti < 1 ∨ 1000 < d.ti ∨ d.ag < 1 ∨ 1000 < d.ag ∨ d.re < 0 ∨ 10 < d.re):Calls Tryz.prog 12 #[dvV d (.slice pf nf cf) (.slice pq nq cq)] w (QA w 6):=by
 have nc:Hid (∀ x,Calls Tryz.prog 25 #[.string (txt d.nm)] x fun e w'=>e=.returned (.bool (nameB d.nm))∧Below x.heap.size x w'):=fun x=>same_b (rname_any (txt d.nm) x)
 have D0:Hid (DevB (w.alloc (.cells #[.string (txt d.nm),.int .i64 d.st,.int .i64 d.es,.int .i64 d.mx,.int .i64 d.sz,.string (txt d.sm),.slice pf nf cf,.slice pq nq cq,.int .i64 d.po,.int .i64 d.ti,.int .i64 d.re,.int .i64 d.ag] 25)) w.heap.size d (.slice pf nf cf) (.slice pq nq cq)):=DevB.new hfv _;have B0:Hid (Below w.heap.size w (w.alloc (.cells #[.string (txt d.nm),.int .i64 d.st,.int .i64 d.es,.int .i64 d.mx,.int .i64 d.sz,.string (txt d.sm),.slice pf nf cf,.slice pq nq cq,.int .i64 d.po,.int .i64 d.ti,.int .i64 d.re,.int .i64 d.ag] 25))):=(Below.refl _ _).alloc (Nat.le_refl _) _;rw [hn] at nc;clear hf hq hfv hn;obtain ⟨p0,p1,p2,p3,p4,p5,p6,p7,p8,p9,p10⟩:=h1
 go_enter Tryz.func12,Tryz.ntmps12
 go_wp2_with fail
 refine (nc.out _).mono ?_;rintro e y1 ⟨rfl,hb⟩;have D1:Hid (DevB y1 w.heap.size d (.slice pf nf cf) (.slice pq nq cq)):=D0.out.below hb;have B1:Hid (Below w.heap.size w y1):=B0.out.trans (hb.mono B0.out.size);clear hb D0 B0 nc;obtain ⟨_,z1,z2,z3,z4,z5,z6,z7,z8,z9,z10,z11⟩:=D1.out.cells;clear D1;generalize d.st=st_ at *;generalize d.es=es_ at *;generalize d.mx=mx_ at *;generalize d.sz=sz_ at *;generalize d.po=po_ at *;generalize d.ti=ti_ at *;generalize d.re=re_ at *;generalize d.ag=ag_ at *
 by_cases q0:po_ < 1
 · clear hbad;go_wp2;go_ret;exact ⟨rfl,B1.out⟩
 replace hbad:=hbad.resolve_left q0
 by_cases q1:1000 < po_
 · clear hbad;go_wp2;go_ret;exact ⟨rfl,B1.out⟩
 replace hbad:=hbad.resolve_left q1
 by_cases q2:ti_ < 1
 · clear hbad;go_wp2;go_ret;exact ⟨rfl,B1.out⟩
 replace hbad:=hbad.resolve_left q2
 by_cases q3:1000 < ti_
 · clear hbad;go_wp2;go_ret;exact ⟨rfl,B1.out⟩
 replace hbad:=hbad.resolve_left q3
 by_cases q4:ag_ < 1
 · clear hbad;go_wp2;go_ret;exact ⟨rfl,B1.out⟩
 replace hbad:=hbad.resolve_left q4
 by_cases q5:1000 < ag_
 · clear hbad;go_wp2;go_ret;exact ⟨rfl,B1.out⟩
 replace hbad:=hbad.resolve_left q5
 by_cases q6:re_ < 0
 · clear hbad;go_wp2;go_ret;exact ⟨rfl,B1.out⟩
 replace hbad:=hbad.resolve_left q6
 by_cases q7:10 < re_
 · clear hbad;go_wp2;go_ret;exact ⟨rfl,B1.out⟩
 exact absurd hbad q7
end Go.Proofs.YthabffjgdhfbmaaGreatDoor
