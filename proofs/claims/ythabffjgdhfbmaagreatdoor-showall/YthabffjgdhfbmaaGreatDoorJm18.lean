/-
  Texts that belong together, one behind the other: DsReadA, DsParse, SnOp, ShTx, ShLn. Conditions: as each says.
-/
import Derived.BigQuiet
import Derived.ChangeOld
import Derived.Deep.CutRange
import Derived.Deep.QuietTactic
import Derived.Deep.RegionHeld3
import Derived.Deep.SlicePairs
import Derived.Deep.Strs
import Derived.Laws.BitsAllLaws
import Derived.Laws.OwnMore
import Derived.Laws.Shifts
import Derived.Lib.QuietBelowIn
import Derived.Maps.AppendAt
import Derived.OpenShut
import Derived.ProofKit
import Derived.RangeFuncCalls
import Derived.ShutString
import Derived.Sort.BigQuietIn
import Derived.Test.YthabffjgdhfbmaaGreatDoorProg
import Derived.Test.YthabffjgdhfbmaaGreatDoorJm1
import Derived.Test.YthabffjgdhfbmaaGreatDoorJm2
import Derived.Test.YthabffjgdhfbmaaGreatDoorJm3
import Derived.Test.YthabffjgdhfbmaaGreatDoorJm4
import Derived.Test.YthabffjgdhfbmaaGreatDoorJm5
import Derived.Test.YthabffjgdhfbmaaGreatDoorJm6
import Derived.Test.YthabffjgdhfbmaaGreatDoorJm7
import Derived.Test.YthabffjgdhfbmaaGreatDoorJm8
import Derived.Test.YthabffjgdhfbmaaGreatDoorJm9
import Derived.Test.YthabffjgdhfbmaaGreatDoorJm10
import Derived.Test.YthabffjgdhfbmaaGreatDoorJm11
import Derived.Test.YthabffjgdhfbmaaGreatDoorJm12
import Derived.Test.YthabffjgdhfbmaaGreatDoorJm13
import Derived.Test.YthabffjgdhfbmaaGreatDoorJm14
import Derived.Test.YthabffjgdhfbmaaGreatDoorJm15
import Derived.Test.YthabffjgdhfbmaaGreatDoorJm16
import Derived.Test.YthabffjgdhfbmaaGreatDoorJm17
set_option maxRecDepth 100000
set_option maxHeartbeats 32000000
set_option linter.unusedVariables false
namespace Go.Proofs.YthabffjgdhfbmaaGreatDoor
open Go.RowKit
theorem dread_any (rs:List Lr) (v:Value) (w:World) (hv:RowsC w.heap.size w v rs) (hn:(rs.length:Int)≤4500) (hwl:∀ r ∈ rs,(r.2.length:Int)≤4500) (hz:∀ r ∈ rs,∀ z ∈ r.2,(z.length:Int)≤5000) :
 Calls Tryz.prog 40 #[v] w (ReadQ w (readM rs)):=by
 have L0:Hid (LeftR dv0 [] rs (readM rs)):=rfl;generalize readM rs=T at *;have hmm:=@run_makeMap Tryz.prog;have mk:Hid (∀ (B:Nat) (w:World),Calls Tryz.prog 75 #[.pointer (some ⟨B,0,none⟩)] w fun e z=>∃ G ms c x,e=.returned (.map (some G))∧MkMap w.heap.size B x z G ms c∧(∀ j f,insK j=some f→x.getD j false=true)∧Below w.heap.size w z):=meanings_any;obtain ⟨p,cap,rfl⟩:∃ p cap,v=.slice p rs.length cap:=by
  rcases hv with ⟨rfl,rfl⟩ | ⟨g,o,cap,rfl,_⟩
  · exact ⟨_,_,rfl⟩
  · exact ⟨_,_,rfl⟩
 replace hv:Hid (RowsC w.heap.size w (.slice p rs.length cap) rs):=hv;replace hwl:Hid (∀ r ∈ rs,(r.2.length:Int)≤4500):=hwl;replace hz:Hid (∀ r ∈ rs,∀ z ∈ r.2,(z.length:Int)≤5000):=hz;obtain ⟨len,hlen⟩:∃ len,rs.length=len:=⟨_,rfl⟩;rw [hlen] at hn hv ⊢;replace hlen:Hid (rs.length=len):=hlen
 go_enter Tryz.func40,Tryz.ntmps40
 go_upto_region 2 with fail
 have hR1:(((w.alloc (.cells dz 33)).alloc (.map #[] 0)).alloc (.cells (rdA dv0 nilS nilS (w.heap.size + 1)) 138)).heap[w.heap.size]?=some (.cells dz 33 (0,0)):=map_under _ _ _ _ (map_under _ _ _ _ (World.alloc_heap_new w _));have hM1:(((w.alloc (.cells dz 33)).alloc (.map #[] 0)).alloc (.cells (rdA dv0 nilS nilS (w.heap.size + 1)) 138)).heap[w.heap.size + 1]?=some (.map #[] 0):=by
  have k:=map_under _ _ (.cells (rdA dv0 nilS nilS (w.heap.size + 1)) 138) _ (World.alloc_heap_new (w.alloc (.cells dz 33)) (.map #[] 0))
  rwa [World.size_alloc] at k
 have hB1:(((w.alloc (.cells dz 33)).alloc (.map #[] 0)).alloc (.cells (rdA dv0 nilS nilS (w.heap.size + 1)) 138)).heap[w.heap.size + 1 + 1]?=some (.cells (rdA dv0 nilS nilS (w.heap.size + 1)) 138 (0,0)):=by
  have k:=World.alloc_heap_new ((w.alloc (.cells dz 33)).alloc (.map #[] 0)) (.cells (rdA dv0 nilS nilS (w.heap.size + 1)) 138)
  rwa [World.size_alloc,World.size_alloc] at k
 have sz1:(((w.alloc (.cells dz 33)).alloc (.map #[] 0)).alloc (.cells (rdA dv0 nilS nilS (w.heap.size + 1)) 138)).heap.size=w.heap.size + 1 + 1 + 1:=by rw [World.size_alloc,World.size_alloc,World.size_alloc]
 have b1:Below w.heap.size w (((w.alloc (.cells dz 33)).alloc (.map #[] 0)).alloc (.cells (rdA dv0 nilS nilS (w.heap.size + 1)) 138)):=(((Below.refl _ _).alloc (Nat.le_refl _) _).alloc (by rw [World.size_alloc]; omega) _).alloc (by rw [World.size_alloc,World.size_alloc]; omega) _;change Code.wp Tryz.prog _ _ _ (((w.alloc (.cells dz 33)).alloc (.map #[] 0)).alloc (.cells (rdA dv0 nilS nilS (w.heap.size + 1)) 138));generalize ((w.alloc (.cells dz 33)).alloc (.map #[] 0)).alloc (.cells (rdA dv0 nilS nilS (w.heap.size + 1)) 138)=w1 at *
 go_wp2_with fail
 refine (mk.out _ _).mono ?_;rintro e z ⟨G,ms,mc,xx,rfl,hmk,hall,hbz⟩;have nn:Hid (RdN w w.heap.size (w.heap.size + 1 + 1) (w.heap.size + 1) z.heap.size):=by
  have:=hbz.size;exact ⟨Nat.le_refl _,by omega,by omega,by omega,by omega,by omega,by omega,by omega,by omega⟩
 have S0:Hid (RdSt w w.heap.size (w.heap.size + 1 + 1) (w.heap.size + 1) z.heap.size G ms mc z dv0 nilS nilS []):=by
  refine ⟨⟨Nat.le_refl _,(hbz.block _ (by omega)).trans hB1,⟨#[],0,(hbz.block _ (by omega)).trans hM1,LnOk.first⟩,World.ownsRow_nil _ _ _ _,.inl ⟨rfl,rfl⟩⟩,mean_ok hmk hall (by omega) (by omega),SeenOk.first,(hbz.block _ (by omega)).trans hR1,?_⟩;exact b1.trans (hbz.mono (by omega))
 have tk:Hid (TkC w.heap.size (w.heap.size + 1 + 1) (w.heap.size + 1) z.heap.size G ms mc w):=tkC nn.out;have la:Hid (LaC w.heap.size (w.heap.size + 1 + 1) (w.heap.size + 1) z.heap.size G ms mc w):=laC nn.out;clear hmk hall hbz hR1 hM1 hB1 sz1 b1 mk;generalize z.heap.size=N at *;generalize w.heap.size + 1 + 1=B at *;generalize w.heap.size + 1=M at *;go_wp2
 go_loopw [17] (fun vi wr=>∃ (k:Nat) (d:Dv) (fv qv:Value) (seen:List Wd),(k:Int)≤(len:Int)∧vi=.int .i64 (k:Int)∧Hid (RdSt w w.heap.size B M N G ms mc wr d fv qv seen)∧Hid (LeftR d seen (rs.drop k) T)) (fun vi wr=>((len:Int) - intOf vi).toNat)
 case atStart=>exact ⟨0,dv0,nilS,nilS,[],by omega,rfl,S0,L0⟩
 case round=>
  obtain ⟨k,d,fv,qv,seen,hk,rfl,st,left⟩:=hrel;clear S0 L0;have hsl:(seen.length:Int)≤5000:=by have:=sn_len st.out.sn; omega
  by_cases hlt:k < len
  · have hki:(k:Int) < (len:Int):=by omega
    have hkr:k < rs.length:=by have:=hlen.out; omega
    have rw1:=hv.out.below st.out.b;rcases rw1 with ⟨_,hnil⟩ | ⟨g,o,cap',e1,hrow,hg⟩
    · rw [hnil] at hkr; cases hkr
    injection e1 with e1 e2 e3
    subst e1;subst e3;clear e2;obtain ⟨q0,u,q1,q2⟩:=hrow k hkr;rw [Nat.mul_comm 2 k] at q0 q1;have lf:=left.out;rw [List.drop_eq_getElem_cons hkr] at lf;obtain ⟨r,hr⟩:∃ r,rs[k]=r:=⟨_,rfl⟩;have hrm:r ∈ rs:=by rw [← hr]; exact List.getElem_mem hkr
    rw [hr] at q0 q2 lf;have hwr:=hwl.out r hrm;have hzr:=hz.out r hrm;obtain ⟨ln,ws⟩:=r;simp only at q0 q2 hwr hzr;obtain ⟨pu,cu,rfl⟩:=q2.form;have ba:Below wr.heap.size wr (wr.alloc (.cells #[.int .i64 ln,.slice pu ws.length cu] 56)):=(Below.refl _ _).alloc (Nat.le_refl _) _;have st2:Hid (RdSt w w.heap.size B M N G ms mc (wr.alloc (.cells #[.int .i64 ln,.slice pu ws.length cu] 56)) d fv qv seen):=st.out.below nn.out ba;have hw2:Hid (WdsAt w.heap.size (wr.alloc (.cells #[.int .i64 ln,.slice pu ws.length cu] 56)) (.slice pu ws.length cu) ws):=q2.below (ba.mono st.out.b.size);have cl:Hid ((wr.alloc (.cells #[.int .i64 ln,.slice pu ws.length cu] 56)).cell? ⟨wr.heap.size,0,none⟩=some (.int .i64 ln)):=by unfold Hid; simp
    have ow:=World.ownsRow.lt st.out.st.ro;have nr:Hid (wr.heap.size ≠ B∧wr.heap.size ≠ M∧some wr.heap.size ≠ fv.ownBlock):=by
     have h1:=st.out.st.sz;have h2:=nn.out.BN;have h3:=nn.out.MN;exact ⟨by omega,by omega,fun e=>by have:=(ow _ e.symm).2; omega⟩
    have nrb:Hid (N≤wr.heap.size):=st.out.st.sz;replace lf:Hid (LeftR d seen ((ln,ws) :: rs.drop (k + 1)) T):=lf;have tk2:Hid (Calls Tryz.prog 76 #[.pointer (some ⟨B,0,none⟩),.map (some G),.slice pu ws.length cu] (wr.alloc (.cells #[.int .i64 ln,.slice pu ws.length cu] 56)) (TakeQ N B M (wr.alloc (.cells #[.int .i64 ln,.slice pu ws.length cu] 56)) d fv qv seen ws)):=tk.out _ _ _ _ _ st2.out hsl ws _ hw2.out hzr (by omega);have wk:IntKind.i64.wrap ((k:Int) + 1)=(k:Int) + 1:=by simp only [IntKind.wrap_i64]; omega
    have hkb:0≤(k:Int):=by omega
    clear st hrow ow ba q2 hw2 left hr hzr hrm
    go_upto_region 6 with fail
    generalize hwx:wr.alloc (.cells #[.int .i64 ln,.slice pu ws.length cu] 56)=wx at *;have cl1:wx.cell? ⟨wr.heap.size,1,none⟩=some (.slice pu ws.length cu):=by rw [← hwx]; simp
    clear hwx;generalize wr.heap.size=rb at *
    go_wp2_with fail
    refine tk2.out.mono ?_;rintro e y ⟨rfl,hfr,hst⟩;clear tk2 q0 q1 cl1
    cases hs:stepM d seen ws with
    | error n=>
     have fin:Hid (T=(dv0,ln,n)):=lf.out.bad hs;have hn3:=step_err hs;have rb1:rb ≠ w.heap.size:=by have:=nn.out.RN; have:=nrb.out; omega
     have rb2:w.heap.size ≠ rb:=fun e=>rb1 e.symm
     have lr:=hfr.cell cl.out nr.out.1 nr.out.2.1 nr.out.2.2;have rcY:y.heap[w.heap.size]?=some (.cells dz 33 (0,0)):=(hfr.block _ (Array.getElem?_eq_some_iff.1 st2.out.rc).1 nn.out.RB nn.out.RM (own_ge st2.out.st.ro nn.out.RN)).trans st2.out.rc;have bY:Hid (Below w.heap.size w y):=hfr.below st2.out.b st2.out.b.size nn.out.B0 nn.out.M0 (fun j hj=>own_ge st2.out.st.ro (by have:=nn.out.RN; omega));have hne:(((errN (Except.error n):Nat):Int) != 0)=true:=by rw [bne_iff_ne]; show ((n:Nat):Int) ≠ 0; omega
     have en:((errN (Except.error n):Nat):Int)=(n:Int):=rfl;rw [en] at hne ⊢;obtain ⟨c0,f0,c1,f1,c2,f2,c3,f3,c4,f4,c5,f5,c6,f6,c7,f7,c8,f8,c9,f9,c10,f10,c11,f11⟩:=rd12 rcY;clear hst hfr cl st2 lf tk la hs;replace rcY:Hid (y.heap[w.heap.size]?=some (.cells dz 33 (0,0))):=rcY
     go_upto_region 8 with fail
     refine region_props (errP rb ln (n:Int)) (ErrW y w.heap.size rb ln) (by kernel_rfl) (by kernel_rfl) ?_ ?_ ?_
     · intro x a z i op ho hI haf hx hxi hW;have hi:i < 7:=(List.getElem?_eq_some_iff.1 ho).1;have xi:=getD_false hxi
       match i,hi with
       | 0,_=>
        obtain rfl:=Option.some.inj ho;go_simp;exact ⟨_,rfl,rfl,RegK.refl _ _ _,hW.other (by decide)⟩
       | 1,_=>
        obtain rfl:=Option.some.inj ho;have e1:a.tmps.getD 8 undef=.pointer (some ⟨rb,0,none⟩):=(hI.was (by kernel_rfl)).trans rfl;go_simp;exact ⟨_,rfl,rfl,RegK.refl _ _ _,hW.other (by decide)⟩
       | 2,_=>
        obtain rfl:=Option.some.inj ho;have e1:a.tmps.getD 29 undef=.pointer (some ⟨rb,0,none⟩):=hI.val 1 _ 29 rfl rfl (dep_at haf (by kernel_rfl));have l1:=hW.lr;go_simp;exact ⟨_,rfl,rfl,RegK.refl _ _ _,hW.other (by decide)⟩
       | 3,_=>
        obtain rfl:=Option.some.inj ho;have e1:a.tmps.getD 9 undef=.int .i64 (n:Int):=(hI.was (by kernel_rfl)).trans rfl;go_simp;exact ⟨_,rfl,rfl,RegK.refl _ _ _,hW.other (by decide)⟩
       | 4,_=>
        obtain rfl:=Option.some.inj ho;have e1:a.tmps.getD 28 undef=.agg dz:=hI.val 0 _ 28 rfl rfl (dep_at haf (by kernel_rfl));have e2:a.tmps.getD 2 undef=.pointer (some ⟨w.heap.size,0,none⟩):=(hI.was (by kernel_rfl)).trans rfl;have W':=hW.stored rb1 xi (by rw [hx]; decide);obtain rfl:=hW.f0 xi;go_simp;exact ⟨errK,W'⟩
       | 5,_=>
        obtain rfl:=Option.some.inj ho;have e1:a.tmps.getD 30 undef=.int .i64 ln:=hI.val 2 _ 30 rfl rfl (dep_at haf (by kernel_rfl));go_simp;exact ⟨_,rfl,rfl,RegK.refl _ _ _,hW.other (by decide)⟩
       | 6,_=>
        obtain rfl:=Option.some.inj ho;have e1:a.tmps.getD 31 undef=.int .i64 (n:Int):=hI.val 3 _ 31 rfl rfl (dep_at haf (by kernel_rfl));go_simp;exact ⟨_,rfl,rfl,RegK.refl _ _ _,hW.other (by decide)⟩
     · intro x a z hx hall hI hW;obtain rfl:=hW.f1 (hall 4 (by decide));have r2:a.tmps.getD 2 undef=.pointer (some ⟨w.heap.size,0,none⟩):=(hI.was (by kernel_rfl)).trans rfl;have r3:a.tmps.getD 3 undef=.int .i64 ln:=hI.val 5 _ 3 rfl rfl (hall 5 (by decide));have r4:a.tmps.getD 4 undef=.int .i64 (n:Int):=hI.val 6 _ 4 rfl rfl (hall 6 (by decide));have pa:(put12 y w.heap.size (.string ⟨#[]⟩) (.int .i64 0) (.int .i64 0) (.int .i64 0) (.int .i64 0) (.string ⟨#[]⟩) (.slice none 0 0) (.slice none 0 0) (.int .i64 0) (.int .i64 0) (.int .i64 0) (.int .i64 0)).drew.heap[w.heap.size]?=some (.cells dz 33 (0,0)):=by rw [drew_heap]; exact put12_at (y:=y) rcY.out (.string ⟨#[]⟩) (.int .i64 0) (.int .i64 0) (.int .i64 0) (.int .i64 0) (.string ⟨#[]⟩) (.slice none 0 0) (.slice none 0 0) (.int .i64 0) (.int .i64 0) (.int .i64 0) (.int .i64 0)
       have pb:Below w.heap.size w (put12 y w.heap.size (.string ⟨#[]⟩) (.int .i64 0) (.int .i64 0) (.int .i64 0) (.int .i64 0) (.string ⟨#[]⟩) (.slice none 0 0) (.slice none 0 0) (.int .i64 0) (.int .i64 0) (.int .i64 0) (.int .i64 0)).drew:=(put12_below bY.out (Nat.le_refl w.heap.size) (.string ⟨#[]⟩) (.int .i64 0) (.int .i64 0) (.int .i64 0) (.int .i64 0) (.string ⟨#[]⟩) (.slice none 0 0) (.slice none 0 0) (.int .i64 0) (.int .i64 0) (.int .i64 0) (.int .i64 0)).drew;have df:=hI.dfr;clear hI hW hall;generalize (put12 y w.heap.size (.string ⟨#[]⟩) (.int .i64 0) (.int .i64 0) (.int .i64 0) (.int .i64 0) (.string ⟨#[]⟩) (.slice none 0 0) (.slice none 0 0) (.int .i64 0) (.int .i64 0) (.int .i64 0) (.int .i64 0)).drew=yy at *;obtain ⟨TT,ds⟩:=a;simp only at df r2 r3 r4;subst df;go_wp2;refine bodyPost_ret (res_dev3 Tryz.results40 r2 r3 r4 pa) rfl ?_;exact ⟨nilS,nilS,by rw [fin.out]; rfl,.inl ⟨rfl,by rw [fin.out]; rfl⟩,.inl ⟨rfl,by rw [fin.out]; rfl⟩,pb,fun g h=>(by cases h),fun g h=>(by cases h)⟩
     · exact ⟨lr,fun _=>rfl,fun h=>(by simp at h)⟩
    | ok d'=>
     obtain ⟨fv',qv',s1,s2⟩:=hst d' hs;have st3:Hid (RdSt w w.heap.size B M N G ms mc y d' fv' qv' (seen ++ [ws.headD []])):=st2.out.step nn.out hfr s1 (st2.out.sn.step hs);have lf2:Hid (LeftR d' (seen ++ [ws.headD []]) (rs.drop (k + 1)) T):=lf.out.good hs;have en:((errN (Except.ok d'):Nat):Int)=0:=rfl;rw [en];clear hst hfr cl st2 lf tk la hs s1 s2;go_wp2;exact ⟨⟨k + 1,d',fv',qv',_,by omega,by simp,st3,lf2⟩,by simp [intOf]; omega⟩
  · obtain rfl:k=len:=by omega
    have lf:=left.out;rw [List.drop_of_length_le (by have:=hlen.out; omega)] at lf;have fin:Hid (T=if lackB seen=true then (dv0,0,9) else (d,0,0)):=lf.fin;clear tk left lf
    go_wp2_with fail
    refine (la.out _ _ _ _ _ st.out hsl).mono ?_;rintro e y ⟨rfl,hb⟩;have st2:=st.out.below nn.out hb;have rcY:=st2.rc;have bY:Hid (Below w.heap.size w y):=st2.b;obtain ⟨c0,f0,c1,f1,c2,f2,c3,f3,c4,f4,c5,f5,c6,f6,c7,f7,c8,f8,c9,f9,c10,f10,c11,f11⟩:=rd12 rcY
    cases hl:lackB seen
    · rw [hl] at fin;replace fin:Hid (T=(d,0,0)):=fin.out;have FL:Hid (FldsAt y fv d.fs):=flds_own st2.st.ro;have RQ:Hid (BytesAt y qv d.rq):=st2.st.rq.bytes;have rdY:=st2.st.rd;have fN:Hid (∀ g,fv.ownBlock=some g→w.heap.size < g):=fun g e=>by have:=(World.ownsRow.lt st2.st.ro g e).1; have:=nn.out.RN; omega
      have qN:Hid (RqAt N y fv qv d.rq):=st2.st.rq;have qM:Hid (∀ g,qv.ownBlock=some g→w.heap.size≤g):=fun g e=>by
       rcases st2.st.rq with ⟨h,_⟩ | ⟨g',o',cap',h,_,_,h4,_⟩
       · rw [h] at e; cases e
       · rw [h] at e;have e2:g'=g:=Option.some.inj e;have:=nn.out.RN;omega
      have oN:Hid (y.ownsRow N 70 9 fv d.fs.length (fdCs d.fs)):=st2.st.ro;replace rcY:Hid (y.heap[w.heap.size]?=some (.cells dz 33 (0,0))):=rcY;have g0:=(rd_cell rdY 0).1;have g1:=(rd_cell rdY 1).1;have g2:=(rd_cell rdY 2).1;have g3:=(rd_cell rdY 3).1;have g4:=(rd_cell rdY 4).1;have g5:=(rd_cell rdY 5).1;have g6:=(rd_cell rdY 6).1;have g7:=(rd_cell rdY 7).1;have g8:=(rd_cell rdY 8).1;have g9:=(rd_cell rdY 9).1;have g10:=(rd_cell rdY 10).1;have g11:=(rd_cell rdY 11).1;simp only [List.getElem?_toArray,List.getElem?_cons_zero,List.getElem?_cons_succ] at g0 g1 g2 g3 g4 g5 g6 g7 g8 g9 g10 g11;clear st st2 la hb rdY hl FL RQ;obtain ⟨pf,nf,cf,rfl⟩:∃ p n c,fv=.slice p n c:=by
       rcases own_slice oN.out with ⟨e,_⟩ | ⟨g,cap,e,_⟩
       · exact ⟨_,_,_,e⟩
       · exact ⟨_,_,_,e⟩
      obtain ⟨pq,nq,cq,rfl⟩:∃ p n c,qv=.slice p n c:=by
       rcases qN.out with ⟨e,_⟩ | ⟨g,o,cap,e,_⟩
       · exact ⟨_,_,_,e⟩
       · exact ⟨_,_,_,e⟩
      go_wp2;change bodyPost _ _ _ _ _ (putD y w.heap.size d (.slice pf nf cf) (.slice pq nq cq));have pa:=putD_at (y:=y) rcY.out d (.slice pf nf cf) (.slice pq nq cq);have pb:=putD_below bY.out (Nat.le_refl w.heap.size) d (.slice pf nf cf) (.slice pq nq cq);have off:∀ k,N≤k→(putD y w.heap.size d (.slice pf nf cf) (.slice pq nq cq)).heap[k]?=y.heap[k]?:=fun k hk=>put12_off (by have:=nn.out.RN; omega) _ _ _ _ _ _ _ _ _ _ _ _
      generalize putD y w.heap.size d (.slice pf nf cf) (.slice pq nq cq)=yy at *;refine bodyPost_ret (res_dev3 Tryz.results40 rfl rfl rfl pa) rfl ?_;refine ⟨.slice pf nf cf,.slice pq nq cq,by rw [fin.out]; rfl,?_,?_,pb,fun g h=>Nat.le_of_lt (fN.out g h),fun g h=>qM.out g h⟩
      · rw [fin.out]; exact flds_own (own_off oN.out off)
      · rw [fin.out]; exact rq_off qN.out off
    · rw [hl] at fin;replace fin:Hid (T=(dv0,0,9)):=fin.out;replace rcY:Hid (y.heap[w.heap.size]?=some (.cells dz 33 (0,0))):=rcY;clear st st2 la hb hl;go_wp2;change bodyPost _ _ _ _ _ (put12 y w.heap.size (.string ⟨#[]⟩) (.int .i64 0) (.int .i64 0) (.int .i64 0) (.int .i64 0) (.string ⟨#[]⟩) (.slice none 0 0) (.slice none 0 0) (.int .i64 0) (.int .i64 0) (.int .i64 0) (.int .i64 0));have pa:=put12_at (y:=y) rcY.out (.string ⟨#[]⟩) (.int .i64 0) (.int .i64 0) (.int .i64 0) (.int .i64 0) (.string ⟨#[]⟩) (.slice none 0 0) (.slice none 0 0) (.int .i64 0) (.int .i64 0) (.int .i64 0) (.int .i64 0);have pb:=put12_below bY.out (Nat.le_refl w.heap.size) (.string ⟨#[]⟩) (.int .i64 0) (.int .i64 0) (.int .i64 0) (.int .i64 0) (.string ⟨#[]⟩) (.slice none 0 0) (.slice none 0 0) (.int .i64 0) (.int .i64 0) (.int .i64 0) (.int .i64 0);generalize put12 y w.heap.size (.string ⟨#[]⟩) (.int .i64 0) (.int .i64 0) (.int .i64 0) (.int .i64 0) (.string ⟨#[]⟩) (.slice none 0 0) (.slice none 0 0) (.int .i64 0) (.int .i64 0) (.int .i64 0) (.int .i64 0)=yy at *;refine bodyPost_ret (res_dev3 Tryz.results40 rfl rfl rfl pa) rfl ?_;exact ⟨nilS,nilS,by rw [fin.out]; rfl,.inl ⟨rfl,by rw [fin.out]; rfl⟩,.inl ⟨rfl,by rw [fin.out]; rfl⟩,pb,fun g h=>(by cases h),fun g h=>(by cases h)⟩
def parseM (l:List UInt8):Dv × Int × Nat:=if lexErr l=0 then readM (lrOf (lexRows l)) else (dv0,(lexLine l:Int),lexErr l)
theorem RowsAtC.rowsC {x:World} {v:Value} {rs:List Ln} (h:RowsAtC x v rs):RowsC x.heap.size x v (lrOf rs):=by
 have hl:(lrOf rs).length=rs.length:=by unfold lrOf; simp
 rcases h with ⟨h1,h2⟩ | ⟨g,o,cap,h1,h2,h3⟩
 · exact .inl ⟨h1,by rw [h2]; rfl⟩
 · refine .inr ⟨g,o,cap,by rw [hl]; exact h1,fun j hj=>?_,h3⟩;have hj':j < rs.length:=by omega
   have e:(lrOf rs)[j]=((rs[j].1:Int),rs[j].2):=by
    have k:(lrOf rs)[j]?=some ((rs[j].1:Int),rs[j].2):=by unfold lrOf; rw [List.getElem?_map,List.getElem?_eq_getElem hj']; rfl
    rw [List.getElem?_eq_getElem hj] at k;exact Option.some.inj k
   rw [e];obtain ⟨q1,u,q2,q3,q4⟩:=h2 j hj';refine ⟨q1,u,q2,?_⟩;rcases q3 with k | ⟨g',o',cap',k1,k2,k3⟩
   · exact .inl ⟨none,0,k⟩
   · exact .inr ⟨g',o',cap',k1,q4 _ _ _ k1,k2,k3⟩
def RdC (rs:List Lr):Prop:=∀ x v,RowsC x.heap.size x v rs→Calls Tryz.prog 40 #[v] x (ReadQ x (readM rs))
theorem flush_wd {M:Nat} {ws:List Wd} {w:Wd} (h:∀ z ∈ ws,z.length≤M) (hw:w.length≤M):∀ z ∈ flushW ws w,z.length≤M:=by
 intro z hz;unfold flushW at hz
 split at hz
 · exact h z hz
 · rcases List.mem_append.1 hz with hz | hz
   · exact h z hz
   · have:z=w:=by simpa using hz
     rw [this]; exact hw
theorem close_wd {M l:Nat} {ws:List Wd} (h:∀ z ∈ ws,z.length≤M):∀ r ∈ closeL l ws,∀ z ∈ r.2,z.length≤M:=by
 intro r hr z hz;unfold closeL at hr
 split at hr
 · have:r=(l,ws):=by simpa using hr
   rw [this] at hz; exact h z hz
 · cases hr
theorem scan_wd (s:List UInt8):∀ (l:Nat) (ws:List Wd) (w:Wd) (R:List Ln) (M:Nat),scanL l ws w s=.ok R→(∀ z ∈ ws,z.length≤M)→w.length + s.length≤M→∀ r ∈ R,∀ z ∈ r.2,z.length≤M:=by
 induction s with
 | nil=>
  intro l ws w R M h hws hw;unfold scanL at h
  cases h
  exact close_wd (flush_wd hws (by simpa using hw))
 | cons c s ih=>
  intro l ws w R M h hws hw;rw [List.length_cons] at hw;unfold scanL at h
  by_cases h10:c=10
  · rw [if_pos h10] at h
    cases hs:scanL (l + 1) [] [] s with
    | error n=>rw [hs] at h; cases h
    | ok t=>
     rw [hs] at h
     cases h
     intro r hr;rcases List.mem_append.1 hr with hr | hr
     · exact close_wd (flush_wd hws (by omega)) r hr
     · exact ih _ _ _ _ M hs (fun z hz=>by cases hz) (by simp; omega) r hr
  rw [if_neg h10] at h
  by_cases h32:c=32
  · rw [if_pos h32] at h;exact ih _ _ _ _ M h (flush_wd hws (by omega)) (by simp; omega)
  rw [if_neg h32] at h
  split at h
  · exact ih _ _ _ _ M h hws (by simp; omega)
  · cases h
theorem lines_bd (l:List UInt8):((lrOf (lexRows l)).length:Int)≤4500∧(∀ r ∈ lrOf (lexRows l),(r.2.length:Int)≤4500)∧∀ r ∈ lrOf (lexRows l),∀ z ∈ r.2,(z.length:Int)≤5000:=by
 have h:=lex_len l;have hl:(lrOf (lexRows l)).length=(lexRows l).length:=by unfold lrOf; simp
 refine ⟨by omega,fun r hr=>?_,fun r hr z hz=>?_⟩
 · obtain ⟨q,hq,rfl⟩:=List.mem_map.1 hr;have:=h.2 q hq;show (q.2.length:Int)≤4500;omega
 · obtain ⟨q,hq,rfl⟩:=List.mem_map.1 hr;have hz:z ∈ q.2:=hz;have k:z.length≤4000:=by
    unfold lexRows at hq
    split at hq
    · rename_i hs
      cases hc:scanL 1 [] [] l with
      | error n=>rw [hc] at hq; cases hq
      | ok R=>
       rw [hc] at hq;exact scan_wd l _ _ _ R 4000 hc (fun z hz=>by cases hz) (by simp; omega) q hq z hz
    · cases hq
   omega
theorem FldsAt.form {y:World} {v:Value} {fs:List Fd} (h:FldsAt y v fs):∃ p n c,v=.slice p n c:=by
 rcases h with ⟨rfl,_⟩ | ⟨g,o,cap,rfl,_⟩
 · exact ⟨none,0,0,rfl⟩
 · exact ⟨_,_,_,rfl⟩
theorem BytesAt.form' {y:World} {v:Value} {bs:List Nat} (h:BytesAt y v bs):∃ p n c,v=.slice p n c:=by
 rcases h with ⟨rfl,_⟩ | ⟨g,o,cap,rfl,_⟩
 · exact ⟨none,0,0,rfl⟩
 · exact ⟨_,_,_,rfl⟩
theorem FldsAt.on' {x y:World} {v:Value} {fs:List Fd} (h:FldsAt x v fs) (hk:∀ g,v.ownBlock=some g→y.heap[g]?=x.heap[g]?):FldsAt y v fs:=by
 rcases h with h | ⟨g,o,cap,rfl,h0,h2,h3⟩
 · exact .inl h
 · have k:=hk g rfl;refine .inr ⟨g,o,cap,rfl,h0,fun j hj i u hu=>(World.cell?_of_block (a:=⟨g,o + 9 * j + i,none⟩) k).trans (h2 j hj i u hu),?_⟩;rw [Array.getElem?_eq_getElem h3] at k;exact (Array.getElem?_eq_some_iff.1 k).1
theorem BytesAt.on' {x y:World} {v:Value} {bs:List Nat} (h:BytesAt x v bs) (hk:∀ g,v.ownBlock=some g→y.heap[g]?=x.heap[g]?):BytesAt y v bs:=by
 rcases h with h | ⟨g,o,cap,rfl,h2,h3⟩
 · exact .inl h
 · have k:=hk g rfl;refine .inr ⟨g,o,cap,rfl,fun j hj=>(World.cell?_of_block (a:=⟨g,o + j,none⟩) k).trans (h2 j hj),?_⟩;rw [Array.getElem?_eq_getElem h3] at k;exact (Array.getElem?_eq_some_iff.1 k).1
theorem parse_any (s:ByteArray) (w:World) (T7:Tab7 w):Calls Tryz.prog 28 #[.string s] w (ReadQ w (parseM s.data.toList)):=by
 have B0:Hid (Below w.heap.size w (w.alloc (.cells dz 33))):=(Below.refl _ _).alloc (Nat.le_refl _) _;have R0:Hid ((w.alloc (.cells dz 33)).heap[w.heap.size]?=some (.cells dz 33 (0,0))):=World.alloc_heap_new w _;have hR:Hid (Calls Tryz.prog 38 #[.string s] (w.alloc (.cells dz 33)) fun e w'=>∃ v,e=.returned (.tuple #[v,.int .i64 ((lexLine s.data.toList:Nat):Int),.int .i64 ((lexErr s.data.toList:Nat):Int)])∧RowsAtC w' v (lexRows s.data.toList)∧Below (w.alloc (.cells dz 33)).heap.size (w.alloc (.cells dz 33)) w'):=HRC s _ (T7.below B0.out);clear T7
 by_cases he:lexErr s.data.toList=0
 · have eT:parseM s.data.toList=readM (lrOf (lexRows s.data.toList)):=by unfold parseM; rw [if_pos he]
   rw [eT];rw [he] at hR;have bd:=lines_bd s.data.toList;generalize lexRows s.data.toList=rs at *;have rd:Hid (RdC (lrOf rs)):=fun x v h=>dread_any (lrOf rs) v x h bd.1 bd.2.1 bd.2.2
   clear he eT bd;generalize ((lexLine s.data.toList:Nat):Int)=L at *
   go_enter Tryz.func28,Tryz.ntmps28
   go_upto_region 1 with fail
   change Code.wp Tryz.prog _ _ _ (w.alloc (.cells dz 33));generalize w.alloc (.cells dz 33)=w0 at *
   go_wp2_with fail
   refine hR.out.mono ?_;rintro e w1 ⟨v,rfl,hv,hb1⟩;have rc:=rd.out w1 v hv.rowsC;have R1:Hid (w1.heap[w.heap.size]?=some (.cells dz 33 (0,0))):=(hb1.block _ (Array.getElem?_eq_some_iff.1 R0.out).1).trans R0.out;have B1:Hid (Below w.heap.size w w1):=B0.out.trans (hb1.mono B0.out.size);generalize readM (lrOf rs)=T at *;replace rc:Hid (Calls Tryz.prog 40 #[v] w1 (ReadQ w1 T)):=rc;clear hv hb1 hR rd R0 B0
   go_wp2_with fail
   refine rc.out.mono ?_;rintro e y ⟨fv,qv,rfl,hf,hq,hb,nf0,nq0⟩;obtain ⟨pf,nf,cf,rfl⟩:=hf.form;obtain ⟨pq,mq,cq,rfl⟩:=hq.form';have R2:y.heap[w.heap.size]?=some (.cells dz 33 (0,0)):=(hb.block _ (Array.getElem?_eq_some_iff.1 R1.out).1).trans R1.out;have B2:Hid (Below w.heap.size w y):=B1.out.trans (hb.mono B1.out.size);have Rl:w.heap.size < w1.heap.size:=(Array.getElem?_eq_some_iff.1 R1.out).1;replace hf:Hid (FldsAt y (.slice pf nf cf) T.1.fs):=hf;replace hq:Hid (BytesAt y (.slice pq mq cq) T.1.rq):=hq;have fN:Hid (∀ g,(Value.slice pf nf cf).ownBlock=some g→w.heap.size < g):=fun g h=>by have:=nf0 g h; omega
   have qN:Hid (∀ g,(Value.slice pq mq cq).ownBlock=some g→w.heap.size < g):=fun g h=>by have:=nq0 g h; omega
   obtain ⟨c0,f0,c1,f1,c2,f2,c3,f3,c4,f4,c5,f5,c6,f6,c7,f7,c8,f8,c9,f9,c10,f10,c11,f11⟩:=rd12 R2;replace R2:Hid (y.heap[w.heap.size]?=some (.cells dz 33 (0,0))):=R2;clear nf0 nq0 hb rc R1 B1 Rl;obtain ⟨d,ln,en⟩:=T;simp only at *;go_wp2;change bodyPost _ _ _ _ _ (putD y w.heap.size d (.slice pf nf cf) (.slice pq mq cq));have pa:=putD_at (y:=y) R2.out d (.slice pf nf cf) (.slice pq mq cq);have pb:=putD_below B2.out (Nat.le_refl w.heap.size) d (.slice pf nf cf) (.slice pq mq cq);have off:∀ g,w.heap.size < g→(putD y w.heap.size d (.slice pf nf cf) (.slice pq mq cq)).heap[g]?=y.heap[g]?:=fun g hg=>put12_off (by omega) _ _ _ _ _ _ _ _ _ _ _ _
   generalize putD y w.heap.size d (.slice pf nf cf) (.slice pq mq cq)=yy at *;refine bodyPost_ret (res_dev3 Tryz.results28 rfl rfl rfl pa) rfl ?_;exact ⟨.slice pf nf cf,.slice pq mq cq,rfl,hf.out.on' fun g hg=>off g (fN.out g hg),hq.out.on' fun g hg=>off g (qN.out g hg),pb,fun g h=>Nat.le_of_lt (fN.out g h),fun g h=>Nat.le_of_lt (qN.out g h)⟩
 · have eT:parseM s.data.toList=(dv0,(lexLine s.data.toList:Int),lexErr s.data.toList):=by unfold parseM; rw [if_neg he]
   rw [eT];have hne:(((lexErr s.data.toList:Nat):Int) != 0)=true:=by rw [bne_iff_ne]; omega
   generalize lexRows s.data.toList=rs at *;generalize lexErr s.data.toList=E at *;generalize lexLine s.data.toList=L at *;clear he eT
   go_enter Tryz.func28,Tryz.ntmps28
   go_upto_region 1 with fail
   change Code.wp Tryz.prog _ _ _ (w.alloc (.cells dz 33));generalize w.alloc (.cells dz 33)=w0 at *
   go_wp2_with fail
   refine hR.out.mono ?_;rintro e w1 ⟨v,rfl,hv,hb1⟩;have R1:w1.heap[w.heap.size]?=some (.cells dz 33 (0,0)):=(hb1.block _ (Array.getElem?_eq_some_iff.1 R0.out).1).trans R0.out;have B1:Hid (Below w.heap.size w w1):=B0.out.trans (hb1.mono B0.out.size);obtain ⟨c0,f0,c1,f1,c2,f2,c3,f3,c4,f4,c5,f5,c6,f6,c7,f7,c8,f8,c9,f9,c10,f10,c11,f11⟩:=rd12 R1;replace R1:Hid (w1.heap[w.heap.size]?=some (.cells dz 33 (0,0))):=R1;clear hv hb1 hR R0 B0
   go_wp2_with fail
   change bodyPost _ _ _ _ _ (put12 w1 w.heap.size (.string ⟨#[]⟩) (.int .i64 0) (.int .i64 0) (.int .i64 0) (.int .i64 0) (.string ⟨#[]⟩) (.slice none 0 0) (.slice none 0 0) (.int .i64 0) (.int .i64 0) (.int .i64 0) (.int .i64 0));have pa:=put12_at (y:=w1) R1.out (.string ⟨#[]⟩) (.int .i64 0) (.int .i64 0) (.int .i64 0) (.int .i64 0) (.string ⟨#[]⟩) (.slice none 0 0) (.slice none 0 0) (.int .i64 0) (.int .i64 0) (.int .i64 0) (.int .i64 0);have pb:=put12_below B1.out (Nat.le_refl w.heap.size) (.string ⟨#[]⟩) (.int .i64 0) (.int .i64 0) (.int .i64 0) (.int .i64 0) (.string ⟨#[]⟩) (.slice none 0 0) (.slice none 0 0) (.int .i64 0) (.int .i64 0) (.int .i64 0) (.int .i64 0);generalize put12 w1 w.heap.size (.string ⟨#[]⟩) (.int .i64 0) (.int .i64 0) (.int .i64 0) (.int .i64 0) (.string ⟨#[]⟩) (.slice none 0 0) (.slice none 0 0) (.int .i64 0) (.int .i64 0) (.int .i64 0) (.int .i64 0)=yy at *;refine bodyPost_ret (res_dev3 Tryz.results28 rfl rfl rfl pa) rfl ?_;exact ⟨nilS,nilS,rfl,.inl ⟨rfl,rfl⟩,.inl ⟨rfl,rfl⟩,pb,fun g h=>(by cases h),fun g h=>(by cases h)⟩
end Go.Proofs.YthabffjgdhfbmaaGreatDoor
namespace Go.Proofs.YthabffjgdhfbmaaGreatDoor
open Go.ChangeShapes Go.WideShapes Go.ChangeAt Go.RowKit
open Go.Deep (open_slice)
theorem clStr:Tryz.prog.cellsOf 9=1:=by kernel_rfl
theorem clInt:Tryz.prog.cellsOf 3=1:=by kernel_rfl
theorem clI64:Tryz.prog.cellsOf 2=1:=by kernel_rfl
theorem clFs:Tryz.prog.cellsOf 22=1:=by kernel_rfl
theorem clBs:Tryz.prog.cellsOf 23=1:=by kernel_rfl
theorem clRt:Tryz.prog.cellsOf 62=2:=by kernel_rfl
theorem clFd:Tryz.prog.cellsOf 64=9:=by kernel_rfl
theorem clDv:Tryz.prog.cellsOf 25=12:=by kernel_rfl
structure FdN (f:Fd):Prop where
 pl:I64 f.pl
 wd:I64 f.wd
 sn:I64 f.sn
 sd:I64 f.sd
 on:I64 f.on
 od:I64 f.od
theorem cell_plainS {x:World} {a:Addr} {v:Value} (h:x.cell? a=some v):a.spot=none∧a.block < x.heap.size:=by
 obtain ⟨g,o,sp⟩:=a;unfold World.cell? at h;simp only at h
 split at h
 · rename_i c t f hb
   refine ⟨?_,(Array.getElem?_eq_some_iff.1 hb).1⟩
   cases sp with
   | none=>rfl
   | some s=>simp at h
 · cases h
section
variable {H:Type} {enc:TypeId × Value→H} {w:World}
theorem op_str {n:Nat} {c:Value} {y:DataW H × List MemPlace} (h:DataW.trod enc Tryz.prog w 0 (fun _=>true) true n 9 [c]=some y):∃ z:Wd,c=.string (txt z):=by
 obtain ⟨s,hs,_⟩:=DataW.trod_string Tryz.underlying9 h;exact ⟨s.data.toList,by rw [txt_of]; simpa using hs⟩
theorem op_int {n:Nat} {c:Value} {y:DataW H × List MemPlace} (h:DataW.trod enc Tryz.prog w 0 (fun _=>true) true n 3 [c]=some y):∃ z:Int,c=.int .i64 z∧I64 z:=by
 obtain ⟨z,hs,_,hb⟩:=DataW.trod_int Tryz.underlying3 h;exact ⟨z,by simpa using hs,bd_i64 hb⟩
theorem op_i64 {n:Nat} {c:Value} {y:DataW H × List MemPlace} (h:DataW.trod enc Tryz.prog w 0 (fun _=>true) true n 2 [c]=some y):∃ z:Int,c=.int .i64 z∧I64 z:=by
 obtain ⟨z,hs,_,hb⟩:=DataW.trod_int Tryz.underlying2 h;exact ⟨z,by simpa using hs,bd_i64 hb⟩
theorem op_rt {n:Nat} {a b:Value} {y:DataW H × List MemPlace} (h:DataW.trod enc Tryz.prog w 0 (fun _=>true) true n 62 [a,b]=some y):∃ x z:Int,a=.int .i64 x∧b=.int .i64 z∧I64 x∧I64 z:=by
 obtain ⟨xs,m,_,_,hl,hlen,hf⟩:=DataW.trod_struct Tryz.underlying62 h
 match xs,hlen with
 | [y0,y1],_=>
  have h0:DataW.trod enc Tryz.prog w 0 (fun _=>true) true m 2 [a]=some y0:=by simpa [clI64] using hf 0 _ rfl
  have h1:DataW.trod enc Tryz.prog w 0 (fun _=>true) true m 2 [b]=some y1:=by simpa [clI64] using hf 1 _ rfl
  obtain ⟨x,e0,b0⟩:=op_i64 h0;obtain ⟨z,e1,b1⟩:=op_i64 h1;exact ⟨x,z,e0,e1,b0,b1⟩
theorem op_fd {n:Nat} {cs:List Value} {y:DataW H × List MemPlace} (h:DataW.trod enc Tryz.prog w 0 (fun _=>true) true n 64 cs=some y):∃ f:Fd,cs=fdC f∧FdN f:=by
 obtain ⟨xs,m,_,_,hl,hlen,hf⟩:=DataW.trod_struct Tryz.underlying64 h;rw [clFd] at hl
 match cs,hl with
 | [c0,c1,c2,c3,c4,c5,c6,c7,c8],_=>
  match xs,hlen with
  | [y0,y1,y2,y3,y4,y5,y6],_=>
   have h0:DataW.trod enc Tryz.prog w 0 (fun _=>true) true m 9 [c0]=some y0:=by simpa [clStr] using hf 0 _ rfl
   have h1:DataW.trod enc Tryz.prog w 0 (fun _=>true) true m 3 [c1]=some y1:=by simpa [clInt] using hf 1 _ rfl
   have h2:DataW.trod enc Tryz.prog w 0 (fun _=>true) true m 9 [c2]=some y2:=by simpa [clStr] using hf 2 _ rfl
   have h3:DataW.trod enc Tryz.prog w 0 (fun _=>true) true m 3 [c3]=some y3:=by simpa [clInt] using hf 3 _ rfl
   have h4:DataW.trod enc Tryz.prog w 0 (fun _=>true) true m 62 [c4,c5]=some y4:=by simpa [clRt] using hf 4 _ rfl
   have h5:DataW.trod enc Tryz.prog w 0 (fun _=>true) true m 62 [c6,c7]=some y5:=by simpa [clRt] using hf 5 _ rfl
   have h6:DataW.trod enc Tryz.prog w 0 (fun _=>true) true m 9 [c8]=some y6:=by simpa [clStr] using hf 6 _ rfl
   obtain ⟨z0,rfl⟩:=op_str h0;obtain ⟨z1,rfl,b1⟩:=op_int h1;obtain ⟨z2,rfl⟩:=op_str h2;obtain ⟨z3,rfl,b3⟩:=op_int h3;obtain ⟨z4,z5,rfl,rfl,b4,b5⟩:=op_rt h4;obtain ⟨z6,z7,rfl,rfl,b6,b7⟩:=op_rt h5;obtain ⟨z8,rfl⟩:=op_str h6;exact ⟨⟨z0,z1,z2,z3,z4,z5,z6,z7,z8⟩,rfl,b1,b3,b4,b5,b6,b7⟩
theorem choose_ltS {α:Type} (d0:α) {n:Nat} {p:Nat→α→Prop} (h:∀ i,i < n→∃ a,p i a):∃ f:Nat→α,∀ i,i < n→p i (f i):=by
 refine ⟨fun i=>if hi:i < n then Classical.choose (h i hi) else d0,fun i hi=>?_⟩;simp only [hi,dif_pos];exact Classical.choose_spec (h i hi)
theorem op_fds {n:Nat} {c:Value} {y:DataW H × List MemPlace} (h:DataW.trod enc Tryz.prog w 0 (fun _=>true) true n 22 [c]=some y):∃ fs,FldsV w c fs∧∀ f ∈ fs,FdN f:=by
 rcases open_slice Tryz.underlying22 h with ⟨hc,_⟩ | ⟨a,len,cap,m,n',D,Pl,hc,_,hl,_,hm,_,hx⟩
 · obtain rfl:c=.slice none 0 0:=by simpa using hc
   exact ⟨[],.inl ⟨none,0,rfl,rfl⟩,fun f hf=>by cases hf⟩
 · obtain rfl:c=.slice (some a) len cap:=by simpa using hc
   simp only [if_true] at hm;subst hm
   by_cases h0:len=0
   · subst h0;exact ⟨[],.inl ⟨_,_,rfl,rfl⟩,fun f hf=>by cases hf⟩
   · rw [clFd] at hx;have each:∀ i,i < len→∃ f:Fd,(∀ k u,(fdC f)[k]?=some u→w.cell? ((a.add (i * 9)).add k)=some u)∧FdN f:=by
      intro i hi;obtain ⟨cs',h1,h2⟩:=hx i (by omega);obtain ⟨_,hcl,hcell⟩:=World.cells?_some h1;obtain ⟨f,rfl,hn⟩:=op_fd h2;refine ⟨f,fun k u hu=>?_,hn⟩;have hk:k < 9:=by
       rcases Nat.lt_or_ge k 9 with h | h
       · exact h
       · rw [List.getElem?_eq_none (by rw [fdC_len]; exact h)] at hu; cases hu
      rw [hcell k hk]; exact hu
     obtain ⟨F,hF⟩:=choose_ltS (⟨[],0,[],0,0,0,0,0,[]⟩:Fd) each;have k0:=(hF 0 (by omega)).1 0 _ rfl;obtain ⟨hs,hb⟩:=cell_plainS k0;obtain ⟨g,o,sp⟩:=a;have hs':sp=none:=by simpa [Addr.add] using hs
     subst hs';rw [addr_add,addr_add] at hb;have hlen:((List.range len).map F).length=len:=by simp
     refine ⟨(List.range len).map F,.inr ⟨g,o,m,by rw [hlen],by rw [hlen]; exact hl,fun j hj i u hu=>?_,hb⟩,fun f hf=>?_⟩
     · rw [hlen] at hj;simp only [List.getElem_map,List.getElem_range] at hu;have k:=(hF j hj).1 i u hu;rw [addr_add,addr_add] at k;rw [Nat.mul_comm 9 j];exact k
     · obtain ⟨j,hj,rfl⟩:=List.mem_map.1 hf;exact (hF j (List.mem_range.1 hj)).2
def BytesW (x:World) (v:Value) (bs:List Nat):Prop:=(∃ a c,v=.slice a 0 c∧bs=[]) ∨ ∃ g o cap,v=.slice (some ⟨g,o,none⟩) bs.length cap∧BytesIn x g o bs∧g < x.heap.size
theorem BytesW.form {x:World} {v:Value} {bs:List Nat} (h:BytesW x v bs):∃ p c,v=.slice p bs.length c:=by
 rcases h with ⟨a,c,h,rfl⟩ | ⟨g,o,cap,h,_⟩
 · exact ⟨_,_,h⟩
 · exact ⟨_,_,h⟩
theorem BytesW.at {x:World} {v:Value} {bs:List Nat} (h:BytesW x v bs) (hn:¬ bs=[]):BytesAt x v bs:=by
 rcases h with ⟨a,c,h,e⟩ | h
 · exact absurd e hn
 · exact .inr h
theorem BytesW.below {x y:World} {v:Value} {bs:List Nat} (h:BytesW x v bs) (k:Below x.heap.size x y):BytesW y v bs:=by
 rcases h with h | ⟨g,o,cap,h1,h2,h3⟩
 · exact .inl h
 · exact .inr ⟨g,o,cap,h1,fun j hj=>h2.at h3 k j hj,Nat.lt_of_lt_of_le h3 k.size⟩
theorem cells1:Tryz.prog.cellsOf 5=1:=by kernel_rfl
theorem op_bytes {n:Nat} {c:Value} {y:DataW H × List MemPlace} (h:DataW.trod enc Tryz.prog w 0 (fun _=>true) true n 23 [c]=some y):∃ bs,BytesW w c bs∧AllBytes bs:=by
 rcases open_ints Tryz.underlying23 Tryz.underlying5 cells1 h with ⟨hcs,_⟩ | ⟨x,l,cap,zs,hcs,_,hl,hm,hz,_,hcell,hwz⟩
 · obtain rfl:c=.slice none 0 0:=by simpa using hcs
   exact ⟨[],.inl ⟨none,0,rfl,rfl⟩,fun c hc=>by cases hc⟩
 · obtain rfl:c=.slice (some x) l cap:=by simpa using hcs
   simp only [if_true] at hz
   by_cases h0:l=0
   · subst h0;exact ⟨[],.inl ⟨_,_,rfl,rfl⟩,fun c hc=>by cases hc⟩
   · have hlen:((zs.take l).map Int.toNat).length=l:=by simp; omega
     have k0:=hcell 0 (by omega);obtain ⟨hs,hb⟩:=cell_plainS k0;obtain ⟨g,o,sp⟩:=x;have hs':sp=none:=by simpa [Addr.add] using hs
     subst hs';rw [addr_add] at hb;refine ⟨(zs.take l).map Int.toNat,.inr ⟨g,o,cap,by rw [hlen],?_,hb⟩,?_⟩
     · intro j hj;rw [hlen] at hj;have hj2:j < zs.length:=by omega
       have e1:=hcell j hj2;have e2:zs.getD j 0=zs[j]:=by rw [List.getD_eq_getElem?_getD,List.getElem?_eq_getElem hj2]; rfl
       have e3:=(bd_u8 (hwz zs[j] (List.getElem_mem hj2))).1;rw [addr_add] at e1;rw [e1,e2];simp only [List.getElem_map,List.getElem_take];rw [Int.toNat_of_nonneg e3]
     · intro c hc;obtain ⟨n,hn,rfl⟩:=List.mem_map.1 hc;have:=bd_u8 (hwz n (List.mem_of_mem_take hn));omega
end
end Go.Proofs.YthabffjgdhfbmaaGreatDoor
namespace Go.Proofs.YthabffjgdhfbmaaGreatDoor
open Go.RowKit
theorem DvJ.i {d:Dv} (h:DvJ d) (hl:d.fs.length≤8):DvI d:=
 ⟨by have:=h.nm; omega,fun f hf=>by have k:=h.fs f hf; exact ⟨by have:=k.nm; omega,k.pl,k.wd,k.sn,k.sd,k.on,k.od⟩,h.sz,by omega⟩
theorem DvI.snd {d:Dv} (h:DvI d) (hc:ckE d=0) (hq:AllBytes d.rq):Snd d:=⟨hc,fun f hf=>by have k:=h.fs f hf; exact ⟨k.pl,k.wd,k.sn,k.sd,k.on,k.od⟩,hq⟩
theorem bytes_form {x:World} {v:Value} {bs:List Nat} (h:BytesAt x v bs):∃ p c,v=.slice p bs.length c:=by
 rcases h with ⟨h1,h2⟩ | ⟨g,o,cap,h,_⟩
 · exact ⟨none,0,by rw [h1,h2]; rfl⟩
 · exact ⟨_,_,h⟩
def ShCkC (w:World) (d:Dv) (fv qv:Value) (T:Int):Prop:=∀ x,Below w.heap.size w x→Calls Tryz.prog 22 #[dvV d fv qv] x (QA x T)
theorem shCkC {d:Dv} {fv qv:Value} {w:World} (hi:DvI d) (hq:∃ p c,qv=.slice p d.rq.length c) (hf:FldsV w fv d.fs):ShCkC w d fv qv (ckE d):=fun x hx=>check_any d fv qv x hi hq (hf.below hx)
def WrnC (w:World) (d:Dv) (fv qv:Value):Prop:=∀ x,Below w.heap.size w x→Calls Tryz.prog 23 #[dvV d fv qv] x fun e y=>e=.returned (.string (txt (textD d)))∧Below x.heap.size x y
theorem shtext_any (d:Dv) (fv qv:Value) (w:World) (hi:DvI d) (hr:AllBytes d.rq) (hq:BytesW w qv d.rq) (hf:FldsV w fv d.fs) :
 Calls Tryz.prog 10 #[dvV d fv qv] w fun e y=>e=.returned (.tuple #[.string (txt (shT d)),.int .i64 (ckE d)])∧Below w.heap.size w y:=by
 have ck:Hid (ShCkC w d fv qv (ckE d)):=shCkC hi hq.form hf;have B0:Hid (Below w.heap.size w (w.alloc (.cells #[.string (txt d.nm),.int .i64 d.st,.int .i64 d.es,.int .i64 d.mx,.int .i64 d.sz,.string (txt d.sm),fv,qv,.int .i64 d.po,.int .i64 d.ti,.int .i64 d.re,.int .i64 d.ag] 33))):=(Below.refl _ _).alloc (Nat.le_refl _) _;have D0:Hid (DevB (w.alloc (.cells #[.string (txt d.nm),.int .i64 d.st,.int .i64 d.es,.int .i64 d.mx,.int .i64 d.sz,.string (txt d.sm),fv,qv,.int .i64 d.po,.int .i64 d.ti,.int .i64 d.re,.int .i64 d.ag] 33)) w.heap.size d fv qv):=DevB.new hf _
 by_cases h0:ckE d=0
 · have wr:Hid (WrnC w d fv qv):=fun x hx=>shwritten_any d fv qv x (hi.snd h0 hr).ok (hf.below hx) ((hq.at (fun e=>by have:=(hi.snd h0 hr).ok.rq.1; rw [e] at this; simp at this)).below hx)
   have eT:shT d=textD d:=by unfold shT; rw [if_pos h0]
   rw [eT,h0];rw [h0] at ck;clear hi hr hq hf h0 eT;replace wr:Hid (∀ x,Below w.heap.size w x→Calls Tryz.prog 23 #[dvV d fv qv] x fun e y=>e=.returned (.string (txt (textD d)))∧Below x.heap.size x y):=wr
   go_enter Tryz.func10,Tryz.ntmps10
   go_wp2_with fail
   refine (ck.out (w.alloc (.cells #[.string (txt d.nm),.int .i64 d.st,.int .i64 d.es,.int .i64 d.mx,.int .i64 d.sz,.string (txt d.sm),fv,qv,.int .i64 d.po,.int .i64 d.ti,.int .i64 d.re,.int .i64 d.ag] 33)) B0.out).mono ?_;rintro e y ⟨rfl,hb⟩;have B1:Hid (Below w.heap.size w y):=B0.out.trans (hb.mono B0.out.size);obtain ⟨c0,c1,c2,c3,c4,c5,c6,c7,c8,c9,c10,c11⟩:=(D0.out.below hb).cells;clear hb B0 D0 ck
   go_wp2_with fail
   refine (wr.out y B1.out).mono ?_;rintro e z ⟨rfl,hb⟩;have B2:Hid (Below w.heap.size w z):=B1.out.trans (hb.mono B1.out.size);clear hb B1 wr;go_wp2;go_returns;exact ⟨rfl,B2.out⟩
 · have eT:shT d=[]:=by unfold shT; rw [if_neg h0]
   rw [eT];have hne:((ckE d) == 0)=false:=beq_eq_false_iff_ne.2 h0;clear hi hr hq hf h0 eT;generalize ckE d=T at *
   go_enter Tryz.func10,Tryz.ntmps10
   go_wp2_with fail
   refine (ck.out (w.alloc (.cells #[.string (txt d.nm),.int .i64 d.st,.int .i64 d.es,.int .i64 d.mx,.int .i64 d.sz,.string (txt d.sm),fv,qv,.int .i64 d.po,.int .i64 d.ti,.int .i64 d.re,.int .i64 d.ag] 33)) B0.out).mono ?_;rintro e y ⟨rfl,hb⟩;have B1:Hid (Below w.heap.size w y):=B0.out.trans (hb.mono B0.out.size);clear hb B0 D0 ck;go_wp2;go_returns;exact ⟨rfl,B1.out⟩
theorem parse_j (l:List UInt8):DvJ (parseM l).1∧(parseM l).1.fs.length≤8:=by
 unfold parseM
 split
 · exact ⟨read_j _,read_fs _⟩
 · exact ⟨dv0_j,Nat.zero_le _⟩
theorem shread_any (s:ByteArray) (w:World) (T7:Tab7 w):Calls Tryz.prog 13 #[.string s] w (ReadQ w (chkM (parseM s.data.toList))):=by
 have B0:Hid (Below w.heap.size w (w.alloc (.cells dz 33))):=(Below.refl _ _).alloc (Nat.le_refl _) _;have R0:Hid ((w.alloc (.cells dz 33)).heap[w.heap.size]?=some (.cells dz 33 (0,0))):=World.alloc_heap_new w _;have pc:Hid (Calls Tryz.prog 28 #[.string s] (w.alloc (.cells dz 33)) (ReadQ (w.alloc (.cells dz 33)) (parseM s.data.toList))):=parse_any s _ (T7.below B0.out);have hj:=parse_j s.data.toList;clear T7;generalize parseM s.data.toList=T at *;obtain ⟨U,hU⟩:∃ U,chkM T=U:=⟨_,rfl⟩;rw [hU];replace hU:Hid (chkM T=U):=hU
 go_enter Tryz.func13,Tryz.ntmps13
 go_upto_region 1 with fail
 change Code.wp Tryz.prog _ _ _ (w.alloc (.cells dz 33));generalize w.alloc (.cells dz 33)=w0 at *
 go_wp2_with fail
 refine pc.out.mono ?_;rintro e y ⟨fv,qv,rfl,hf,hq,hb,nf0,nq0⟩;have ck:Hid (ShCkC y T.1 fv qv (ckE T.1)):=shCkC (hj.1.i hj.2) (bytes_form hq) hf.v;obtain ⟨pf,nf,cf,rfl⟩:=hf.form;obtain ⟨pq,mq,cq,rfl⟩:=hq.form';have R1:Hid (y.heap[w.heap.size]?=some (.cells dz 33 (0,0))):=(hb.block _ (Array.getElem?_eq_some_iff.1 R0.out).1).trans R0.out;have B1:Hid (Below w.heap.size w y):=B0.out.trans (hb.mono B0.out.size);have Rl:w.heap.size < w0.heap.size:=(Array.getElem?_eq_some_iff.1 R0.out).1;have fN:Hid (∀ g,(Value.slice pf nf cf).ownBlock=some g→w.heap.size < g):=fun g h=>by have:=nf0 g h; omega
 have qN:Hid (∀ g,(Value.slice pq mq cq).ownBlock=some g→w.heap.size < g):=fun g h=>by have:=nq0 g h; omega
 replace hf:Hid (FldsAt y (.slice pf nf cf) T.1.fs):=hf;replace hq:Hid (BytesAt y (.slice pq mq cq) T.1.rq):=hq;obtain ⟨d,ln,en⟩:=T;clear hb nf0 nq0 Rl R0 B0 pc hj;simp only at *;have YD:Hid ((y.alloc (.cells #[.string (txt d.nm),.int .i64 d.st,.int .i64 d.es,.int .i64 d.mx,.int .i64 d.sz,.string (txt d.sm),.slice pf nf cf,.slice pq mq cq,.int .i64 d.po,.int .i64 d.ti,.int .i64 d.re,.int .i64 d.ag] 33)).heap[y.heap.size]?=some (.cells #[.string (txt d.nm),.int .i64 d.st,.int .i64 d.es,.int .i64 d.mx,.int .i64 d.sz,.string (txt d.sm),.slice pf nf cf,.slice pq mq cq,.int .i64 d.po,.int .i64 d.ti,.int .i64 d.re,.int .i64 d.ag] 33 (0,0))):=World.alloc_heap_new y _;have YB:Hid (Below y.heap.size y (y.alloc (.cells #[.string (txt d.nm),.int .i64 d.st,.int .i64 d.es,.int .i64 d.mx,.int .i64 d.sz,.string (txt d.sm),.slice pf nf cf,.slice pq mq cq,.int .i64 d.po,.int .i64 d.ti,.int .i64 d.re,.int .i64 d.ag] 33))):=(Below.refl _ _).alloc (Nat.le_refl _) _
 by_cases he:en=0
 · subst he;have h1:chkM (d,ln,0)=if cN d=0 then (d,0,0) else (dv0,ln,cN d):=by unfold chkM; rw [if_pos rfl]
   have hU1:=hU.out;rw [h1] at hU1;clear hU
   by_cases hc:cN d=0
   · rw [if_pos hc] at hU1;subst hU1;rw [cN_0.1 hc] at ck;clear h1 hc
     go_wp2_with fail
     change Calls Tryz.prog _ _ (y.alloc (.cells #[.string (txt d.nm),.int .i64 d.st,.int .i64 d.es,.int .i64 d.mx,.int .i64 d.sz,.string (txt d.sm),.slice pf nf cf,.slice pq mq cq,.int .i64 d.po,.int .i64 d.ti,.int .i64 d.re,.int .i64 d.ag] 33)) _;generalize y.alloc (.cells #[.string (txt d.nm),.int .i64 d.st,.int .i64 d.es,.int .i64 d.mx,.int .i64 d.sz,.string (txt d.sm),.slice pf nf cf,.slice pq mq cq,.int .i64 d.po,.int .i64 d.ti,.int .i64 d.re,.int .i64 d.ag] 33)=y1 at *;refine (ck.out y1 YB.out).mono ?_;rintro e z ⟨rfl,hb⟩;have b2:Below y.heap.size y z:=YB.out.trans (hb.mono YB.out.size);have RZ:Hid (z.heap[w.heap.size]?=some (.cells dz 33 (0,0))):=(b2.block _ (Array.getElem?_eq_some_iff.1 R1.out).1).trans R1.out;have BZ:Hid (Below w.heap.size w z):=B1.out.trans (b2.mono B1.out.size);have DZ:=(hb.block _ (Array.getElem?_eq_some_iff.1 YD.out).1).trans YD.out;have fz:Hid (FldsAt z (.slice pf nf cf) d.fs):=hf.out.below b2;have qz:Hid (BytesAt z (.slice pq mq cq) d.rq):=hq.out.below b2;obtain ⟨a0,x0,a1,x1,a2,x2,a3,x3,a4,x4,a5,x5,a6,x6,a7,x7,a8,x8,a9,x9,a10,x10,a11,x11⟩:=rd12 DZ;obtain ⟨c0,f0,c1,f1,c2,f2,c3,f3,c4,f4,c5,f5,c6,f6,c7,f7,c8,f8,c9,f9,c10,f10,c11,f11⟩:=rd12 RZ.out;clear b2 hb ck R1 B1 YD YB DZ hf hq x0 x1 x2 x3 x4 x5 x6 x7 x8 x9 x10 x11;go_wp2;change bodyPost _ _ _ _ _ (putD z w.heap.size d (.slice pf nf cf) (.slice pq mq cq));have pa:=putD_at (y:=z) RZ.out d (.slice pf nf cf) (.slice pq mq cq);have pb:=putD_below BZ.out (Nat.le_refl w.heap.size) d (.slice pf nf cf) (.slice pq mq cq);have off:∀ g,w.heap.size < g→(putD z w.heap.size d (.slice pf nf cf) (.slice pq mq cq)).heap[g]?=z.heap[g]?:=fun g hg=>put12_off (by omega) _ _ _ _ _ _ _ _ _ _ _ _
     generalize putD z w.heap.size d (.slice pf nf cf) (.slice pq mq cq)=yy at *;refine bodyPost_ret (res_dev3 Tryz.results13 rfl rfl rfl pa) rfl ?_;exact ⟨.slice pf nf cf,.slice pq mq cq,rfl,fz.out.on' fun g hg=>off g (fN.out g hg),qz.out.on' fun g hg=>off g (qN.out g hg),pb,fun g h=>Nat.le_of_lt (fN.out g h),fun g h=>Nat.le_of_lt (qN.out g h)⟩
   · rw [if_neg hc] at hU1;subst hU1;have hT:=ck_nat d;have hne:(((cN d:Nat):Int) == 0)=false:=beq_eq_false_iff_ne.2 (by omega);have ck':Hid (ShCkC y d (.slice pf nf cf) (.slice pq mq cq) ((cN d:Nat):Int)):=by unfold cN; rw [hT]; exact ck.out
     clear h1 hc hT ck;generalize cN d=E at *
     go_wp2_with fail
     change Calls Tryz.prog _ _ (y.alloc (.cells #[.string (txt d.nm),.int .i64 d.st,.int .i64 d.es,.int .i64 d.mx,.int .i64 d.sz,.string (txt d.sm),.slice pf nf cf,.slice pq mq cq,.int .i64 d.po,.int .i64 d.ti,.int .i64 d.re,.int .i64 d.ag] 33)) _;generalize y.alloc (.cells #[.string (txt d.nm),.int .i64 d.st,.int .i64 d.es,.int .i64 d.mx,.int .i64 d.sz,.string (txt d.sm),.slice pf nf cf,.slice pq mq cq,.int .i64 d.po,.int .i64 d.ti,.int .i64 d.re,.int .i64 d.ag] 33)=y1 at *;refine (ck'.out y1 YB.out).mono ?_;rintro e z ⟨rfl,hb⟩;have b2:Below y.heap.size y z:=YB.out.trans (hb.mono YB.out.size);have RZ:Hid (z.heap[w.heap.size]?=some (.cells dz 33 (0,0))):=(b2.block _ (Array.getElem?_eq_some_iff.1 R1.out).1).trans R1.out;have BZ:Hid (Below w.heap.size w z):=B1.out.trans (b2.mono B1.out.size);obtain ⟨c0,f0,c1,f1,c2,f2,c3,f3,c4,f4,c5,f5,c6,f6,c7,f7,c8,f8,c9,f9,c10,f10,c11,f11⟩:=rd12 RZ.out;clear b2 hb ck' R1 B1 YD YB hf hq fN qN;go_wp2;change bodyPost _ _ _ _ _ (put12 z w.heap.size (.string ⟨#[]⟩) (.int .i64 0) (.int .i64 0) (.int .i64 0) (.int .i64 0) (.string ⟨#[]⟩) (.slice none 0 0) (.slice none 0 0) (.int .i64 0) (.int .i64 0) (.int .i64 0) (.int .i64 0));have pa:=put12_at (y:=z) RZ.out (.string ⟨#[]⟩) (.int .i64 0) (.int .i64 0) (.int .i64 0) (.int .i64 0) (.string ⟨#[]⟩) (.slice none 0 0) (.slice none 0 0) (.int .i64 0) (.int .i64 0) (.int .i64 0) (.int .i64 0);have pb:=put12_below BZ.out (Nat.le_refl w.heap.size) (.string ⟨#[]⟩) (.int .i64 0) (.int .i64 0) (.int .i64 0) (.int .i64 0) (.string ⟨#[]⟩) (.slice none 0 0) (.slice none 0 0) (.int .i64 0) (.int .i64 0) (.int .i64 0) (.int .i64 0);generalize put12 z w.heap.size (.string ⟨#[]⟩) (.int .i64 0) (.int .i64 0) (.int .i64 0) (.int .i64 0) (.string ⟨#[]⟩) (.slice none 0 0) (.slice none 0 0) (.int .i64 0) (.int .i64 0) (.int .i64 0) (.int .i64 0)=yy at *;refine bodyPost_ret (res_dev3 Tryz.results13 rfl rfl rfl pa) rfl ?_;exact ⟨nilS,nilS,rfl,.inl ⟨rfl,rfl⟩,.inl ⟨rfl,rfl⟩,pb,fun g h=>(by cases h),fun g h=>(by cases h)⟩
 · have h1:chkM (d,ln,en)=(dv0,ln,en):=by unfold chkM; rw [if_neg he]
   have hU1:=hU.out;rw [h1] at hU1;subst hU1;have hne:(((en:Nat):Int) == 0)=false:=beq_eq_false_iff_ne.2 (by omega);clear h1 he ck hU;have RZ:Hid ((y.alloc (.cells #[.string (txt d.nm),.int .i64 d.st,.int .i64 d.es,.int .i64 d.mx,.int .i64 d.sz,.string (txt d.sm),.slice pf nf cf,.slice pq mq cq,.int .i64 d.po,.int .i64 d.ti,.int .i64 d.re,.int .i64 d.ag] 33)).heap[w.heap.size]?=some (.cells dz 33 (0,0))):=(YB.out.block _ (Array.getElem?_eq_some_iff.1 R1.out).1).trans R1.out;have BZ:Hid (Below w.heap.size w (y.alloc (.cells #[.string (txt d.nm),.int .i64 d.st,.int .i64 d.es,.int .i64 d.mx,.int .i64 d.sz,.string (txt d.sm),.slice pf nf cf,.slice pq mq cq,.int .i64 d.po,.int .i64 d.ti,.int .i64 d.re,.int .i64 d.ag] 33))):=B1.out.trans (YB.out.mono B1.out.size)
   go_upto_region 2 with fail
   change Code.wp Tryz.prog _ _ _ (y.alloc (.cells #[.string (txt d.nm),.int .i64 d.st,.int .i64 d.es,.int .i64 d.mx,.int .i64 d.sz,.string (txt d.sm),.slice pf nf cf,.slice pq mq cq,.int .i64 d.po,.int .i64 d.ti,.int .i64 d.re,.int .i64 d.ag] 33));generalize y.alloc (.cells #[.string (txt d.nm),.int .i64 d.st,.int .i64 d.es,.int .i64 d.mx,.int .i64 d.sz,.string (txt d.sm),.slice pf nf cf,.slice pq mq cq,.int .i64 d.po,.int .i64 d.ti,.int .i64 d.re,.int .i64 d.ag] 33)=z at *;obtain ⟨c0,f0,c1,f1,c2,f2,c3,f3,c4,f4,c5,f5,c6,f6,c7,f7,c8,f8,c9,f9,c10,f10,c11,f11⟩:=rd12 RZ.out;clear R1 B1 YD YB hf hq fN qN;go_wp2;change bodyPost _ _ _ _ _ (put12 z w.heap.size (.string ⟨#[]⟩) (.int .i64 0) (.int .i64 0) (.int .i64 0) (.int .i64 0) (.string ⟨#[]⟩) (.slice none 0 0) (.slice none 0 0) (.int .i64 0) (.int .i64 0) (.int .i64 0) (.int .i64 0));have pa:=put12_at (y:=z) RZ.out (.string ⟨#[]⟩) (.int .i64 0) (.int .i64 0) (.int .i64 0) (.int .i64 0) (.string ⟨#[]⟩) (.slice none 0 0) (.slice none 0 0) (.int .i64 0) (.int .i64 0) (.int .i64 0) (.int .i64 0);have pb:=put12_below BZ.out (Nat.le_refl w.heap.size) (.string ⟨#[]⟩) (.int .i64 0) (.int .i64 0) (.int .i64 0) (.int .i64 0) (.string ⟨#[]⟩) (.slice none 0 0) (.slice none 0 0) (.int .i64 0) (.int .i64 0) (.int .i64 0) (.int .i64 0);generalize put12 z w.heap.size (.string ⟨#[]⟩) (.int .i64 0) (.int .i64 0) (.int .i64 0) (.int .i64 0) (.string ⟨#[]⟩) (.slice none 0 0) (.slice none 0 0) (.int .i64 0) (.int .i64 0) (.int .i64 0) (.int .i64 0)=yy at *;refine bodyPost_ret (res_dev3 Tryz.results13 rfl rfl rfl pa) rfl ?_;exact ⟨nilS,nilS,rfl,.inl ⟨rfl,rfl⟩,.inl ⟨rfl,rfl⟩,pb,fun g h=>(by cases h),fun g h=>(by cases h)⟩
def hdL (r:Lr):Bool:=
 match r.2 with
 | []=>false
 | f :: _=>decide (f=kDev)
def blkF:List Lr→List (List Lr)
 | []=>[]
 | r :: rs=>match blkF rs with
  | []=>[ [r] ]
  | b :: bs=>match b with
   | []=>[r] :: bs
   | q :: _=>if hdL q=true then [r] :: b :: bs else (r :: b) :: bs
theorem blkF_uniq:∀ (bs:List (List Lr)),(∀ b ∈ bs,b ≠ [])→(∀ b ∈ bs,∀ r ∈ b.tail,hdL r=false)→(∀ b ∈ bs.tail,∀ r ∈ b.head?,hdL r=true)→blkF bs.flatten=bs:=by
 intro bs
 induction bs with
 | nil=>intro _ _ _; rfl
 | cons b bs ih=>
  intro hne htl hhd;have ihb:=ih (fun c hc=>hne c (by simp [hc])) (fun c hc=>htl c (by simp [hc])) (fun c hc=>hhd c (by
   cases bs with
   | nil=>cases hc
   | cons d bs=>exact List.mem_cons_of_mem _ hc))
  have key:∀ (t:List Lr) (r:Lr),(∀ q ∈ t,hdL q=false)→blkF ((r :: t) ++ bs.flatten)=(r :: t) :: bs:=by
   intro t
   induction t with
   | nil=>
    intro r _;show blkF (r :: bs.flatten)=_;unfold blkF;rw [ihb]
    cases bs with
    | nil=>rfl
    | cons c bs=>
     cases c with
     | nil=>exact absurd rfl (hne [] (by simp))
     | cons q c=>
      have hq:hdL q=true:=hhd (q :: c) (by simp) q (by simp);simp only;rw [if_pos hq]
   | cons q t iht=>
    intro r hr;have k:=iht q (fun x hx=>hr x (by simp [hx]));show blkF (r :: ((q :: t) ++ bs.flatten))=_;unfold blkF;rw [k];simp only;rw [if_neg (by rw [hr q (by simp)]; simp)]
  cases b with
  | nil=>exact absurd rfl (hne [] (by simp))
  | cons r t=>
   rw [List.flatten_cons];exact key t r fun q hq=>htl (r :: t) (by simp) q hq
def blkE (ns:List Wd) (b:List Lr):Nat:=if (readM b).2.2=0 then (if cN (readM b).1=0 then (if (readM b).1.nm ∈ ns then 8 else 0) else cN (readM b).1) else (readM b).2.2
def blkP (b:List Lr):Int:=if (readM b).2.1=0 then (b.headD (0,[])).1 else (readM b).2.1
def namesD (ds:List Dv):List Wd:=ds.map fun d=>d.nm
def devsM (ds:List Dv):List (List Lr)→List Dv × Int × Nat
 | []=>(ds,0,0)
 | b :: bs=>if blkE (namesD ds) b=0 then devsM (ds ++ [(readM b).1]) bs else ([],blkP b,blkE (namesD ds) b)
def linesM (rs:List Lr):List Dv × Int × Nat:=devsM [] (blkF rs)
theorem devs_ok {ds:List Dv} {b:List Lr} {bs:List (List Lr)} (h:blkE (namesD ds) b=0):devsM ds (b :: bs)=devsM (ds ++ [(readM b).1]) bs:=by rw [devsM,if_pos h]
theorem devs_bad {ds:List Dv} {b:List Lr} {bs:List (List Lr)} (h:¬ blkE (namesD ds) b=0):devsM ds (b :: bs)=([],blkP b,blkE (namesD ds) b):=by rw [devsM,if_neg h]
theorem lines_head (d:Dv):∃ t,linesW d=[kDev,d.nm] :: t∧∀ ws ∈ t,∃ f a,ws=f :: a∧¬ f=kDev:=by
 refine ⟨_,rfl,fun ws hw=>?_⟩;rcases List.mem_append.1 hw with hw | hw
 · simp only [List.mem_cons,List.not_mem_nil,or_false] at hw;rcases hw with e | e | e | e <;> subst e <;> exact ⟨_,_,rfl,by decide⟩
 · rcases List.mem_append.1 hw with hw | hw
   · obtain ⟨f,hf,e⟩:=List.mem_map.1 hw;subst e;exact ⟨_,_,rfl,by decide⟩
   · simp only [tailW,List.mem_cons,List.not_mem_nil,or_false] at hw;rcases hw with e | e | e | e | e <;> subst e <;> exact ⟨_,_,rfl,by decide⟩
theorem wds_split {rs:List Lr} {A B:List (List Wd)} (h:wdsOf rs=A ++ B):∃ r1 r2,rs=r1 ++ r2∧wdsOf r1=A∧wdsOf r2=B:=by
 refine ⟨rs.take A.length,rs.drop A.length,(List.take_append_drop _ _).symm,?_,?_⟩
 · show (rs.take A.length).map _=A;rw [List.map_take,show rs.map (fun r=>r.2)=A ++ B from h];simp
 · show (rs.drop A.length).map _=B;rw [List.map_drop,show rs.map (fun r=>r.2)=A ++ B from h];simp
theorem rows_blocks (ds:List Dv):∀ (rs:List Lr),wdsOf rs=ds.flatMap linesW→∃ bs:List (List Lr),rs=bs.flatten∧bs.map wdsOf=ds.map linesW:=by
 induction ds with
 | nil=>intro rs h; exact ⟨[],List.map_eq_nil_iff.1 h,rfl⟩
 | cons d ds ih=>
  intro rs h;rw [List.flatMap_cons] at h;obtain ⟨r1,r2,e,h1,h2⟩:=wds_split h;obtain ⟨bs,e2,h3⟩:=ih r2 h2;exact ⟨r1 :: bs,by rw [e,e2,List.flatten_cons],by rw [List.map_cons,List.map_cons,h1,h3]⟩
theorem hd_of {r:Lr} {f:Wd} {a:List Wd} (h:r.2=f :: a):hdL r=decide (f=kDev):=by
 obtain ⟨n,w⟩:=r;obtain rfl:w=f :: a:=h;rfl
theorem blk_shape {b:List Lr} {d:Dv} (h:wdsOf b=linesW d):b ≠ []∧(∀ r ∈ b.tail,hdL r=false)∧∀ r ∈ b.head?,hdL r=true:=by
 obtain ⟨t,ht,hn⟩:=lines_head d;rw [ht] at h
 cases b with
 | nil=>cases h
 | cons r b=>
  have h1:r.2=[kDev,d.nm]:=(List.cons.inj h).1;have h2:wdsOf b=t:=(List.cons.inj h).2;refine ⟨by simp,fun q hq=>?_,fun q hq=>?_⟩
  · have hq2:q.2 ∈ t:=by rw [← h2]; exact List.mem_map.2 ⟨q,hq,rfl⟩
    obtain ⟨f,a,e,hf⟩:=hn q.2 hq2;rw [hd_of e];exact decide_eq_false hf
  · have e:r=q:=by simpa using hq
    rw [← e,hd_of h1];exact decide_eq_true rfl
theorem blk_of_map {bs:List (List Lr)} {ds:List Dv} (h:bs.map wdsOf=ds.map linesW) {b:List Lr} (hb:b ∈ bs):∃ d ∈ ds,wdsOf b=linesW d:=by
 have k:wdsOf b ∈ ds.map linesW:=by rw [← h]; exact List.mem_map.2 ⟨b,hb,rfl⟩
 obtain ⟨d,hd,e⟩:=List.mem_map.1 k;exact ⟨d,hd,e.symm⟩
theorem devs_shown (ds:List Dv):∀ (bs:List (List Lr)) (pre:List Dv),bs.map wdsOf=ds.map linesW→(∀ d ∈ ds,ckE d=0∧DvOk d)→(namesD (pre ++ ds)).Nodup→devsM pre bs=(pre ++ ds,0,0):=by
 induction ds with
 | nil=>
  intro bs pre h _ _;have:bs=[]:=List.map_eq_nil_iff.1 h;rw [this,List.append_nil];rfl
 | cons d ds ih=>
  intro bs pre h hd hn
  cases bs with
  | nil=>cases h
  | cons b bs=>
   have h1:wdsOf b=linesW d:=(List.cons.inj h).1;have h2:bs.map wdsOf=ds.map linesW:=(List.cons.inj h).2;obtain ⟨c0,dok⟩:=hd d (by simp);have hr:=read_lines dok h1;have hni:d.nm ∉ namesD pre:=by
    unfold namesD at hn;rw [List.map_append,List.nodup_append] at hn;intro hm;exact hn.2.2 _ hm d.nm (by simp) rfl
   have e0:blkE (namesD pre) b=0:=by
    unfold blkE;rw [hr];simp only;rw [if_pos trivial,if_pos (cN_0.2 c0),if_neg hni]
   rw [devs_ok e0,hr];have k:=ih bs (pre ++ [d]) h2 (fun x hx=>hd x (by simp [hx])) (by rw [List.append_assoc]; exact hn);rw [k,List.append_assoc];rfl
theorem lines_shown {ds:List Dv} (h:∀ d ∈ ds,ckE d=0∧DvOk d) (hn:(namesD ds).Nodup) {rs:List Lr} (e:wdsOf rs=ds.flatMap linesW):linesM rs=(ds,0,0):=by
 obtain ⟨bs,e1,e2⟩:=rows_blocks ds rs e;have hu:blkF rs=bs:=by
  rw [e1];refine blkF_uniq bs (fun b hb=>?_) (fun b hb=>?_) (fun b hb=>?_)
  · obtain ⟨d,_,k⟩:=blk_of_map e2 hb; exact (blk_shape k).1
  · obtain ⟨d,_,k⟩:=blk_of_map e2 hb; exact (blk_shape k).2.1
  · obtain ⟨d,_,k⟩:=blk_of_map e2 (List.mem_of_mem_tail hb); exact (blk_shape k).2.2
 unfold linesM;rw [hu];exact devs_shown ds bs [] e2 h hn
end Go.Proofs.YthabffjgdhfbmaaGreatDoor
