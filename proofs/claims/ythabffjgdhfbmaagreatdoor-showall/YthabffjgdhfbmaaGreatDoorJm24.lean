/-
  Texts that belong together, one behind the other: ShAlL, LexLaid. Conditions: as each says.
-/
import Derived.BigQuiet
import Derived.ChangeOld
import Derived.Deep.CutRange
import Derived.Deep.QuietTactic
import Derived.Deep.RegionHeld3
import Derived.Laws.BitsAllLaws
import Derived.Laws.OwnMore
import Derived.Laws.Shifts
import Derived.Lib.QuietBelowIn
import Derived.MakeChecks
import Derived.Maps.AppendAt
import Derived.OpenShut
import Derived.ProofKit
import Derived.RangeFuncCalls
import Derived.ShutString
import Derived.Sort.BigQuietIn
import Derived.Stop.LaidErr
import Derived.Test.YthabffjgdhfbmaaGreatDoorProg
import Derived.Test.YthabffjgdhfbmaaGreatDoorRows
import Derived.Test.YthabffjgdhfbmaaGreatDoorJm1
import Derived.Test.YthabffjgdhfbmaaGreatDoorJm2
import Derived.Test.YthabffjgdhfbmaaGreatDoorJm3
import Derived.Test.YthabffjgdhfbmaaGreatDoorJm4
import Derived.Test.YthabffjgdhfbmaaGreatDoorJm5
import Derived.Test.YthabffjgdhfbmaaGreatDoorJm6
import Derived.Test.YthabffjgdhfbmaaGreatDoorJm7
import Derived.Test.YthabffjgdhfbmaaGreatDoorJm8
import Derived.Test.YthabffjgdhfbmaaGreatDoorJm9
import Derived.Test.YthabffjgdhfbmaaGreatDoorJm10
import Derived.Test.YthabffjgdhfbmaaGreatDoorJm11
import Derived.Test.YthabffjgdhfbmaaGreatDoorJm12
import Derived.Test.YthabffjgdhfbmaaGreatDoorJm13
import Derived.Test.YthabffjgdhfbmaaGreatDoorJm14
import Derived.Test.YthabffjgdhfbmaaGreatDoorJm15
import Derived.Test.YthabffjgdhfbmaaGreatDoorJm16
import Derived.Test.YthabffjgdhfbmaaGreatDoorJm17
import Derived.Test.YthabffjgdhfbmaaGreatDoorJm18
import Derived.Test.YthabffjgdhfbmaaGreatDoorJm19
import Derived.Test.YthabffjgdhfbmaaGreatDoorJm20
import Derived.Test.YthabffjgdhfbmaaGreatDoorJm21
import Derived.Test.YthabffjgdhfbmaaGreatDoorJm22
import Derived.Test.YthabffjgdhfbmaaGreatDoorJm23
set_option maxRecDepth 100000
set_option maxHeartbeats 32000000
set_option linter.unusedVariables false
namespace Go.Proofs.YthabffjgdhfbmaaGreatDoor
open Go.RowKit
def Ld12 (g o:Nat) (d:Dv) (fv qv:Value) (x:World):Prop:=
 x.cell? ⟨g,o,none⟩=some (.string (txt d.nm))∧x.cell? ⟨g,o + 1,none⟩=some (.int .i64 d.st)∧x.cell? ⟨g,o + 2,none⟩=some (.int .i64 d.es)∧x.cell? ⟨g,o + 3,none⟩=some (.int .i64 d.mx)∧x.cell? ⟨g,o + 4,none⟩=some (.int .i64 d.sz)∧x.cell? ⟨g,o + 5,none⟩=some (.string (txt d.sm))∧x.cell? ⟨g,o + 6,none⟩=some fv∧x.cell? ⟨g,o + 7,none⟩=some qv∧x.cell? ⟨g,o + 8,none⟩=some (.int .i64 d.po)∧x.cell? ⟨g,o + 9,none⟩=some (.int .i64 d.ti)∧x.cell? ⟨g,o + 10,none⟩=some (.int .i64 d.re)∧x.cell? ⟨g,o + 11,none⟩=some (.int .i64 d.ag)
def AlAC (L:List Dv) (T:Wd × Nat):Prop:=∀ v x qs,DvsR x v qs→qs.map (·.1)=L→Calls Tryz.prog 18 #[v] x (AllQ x T)
def AlDC (w:World) (L:List Dv) (want:Wd):Prop:=∀ x,Below w.heap.size w x→Calls Tryz.prog 19 #[.string (txt want)] x (LinesQ 33 x (L,0,0))
theorem al_long (w:World) (aw:Hid (ShAwC w)) (p:Option Addr) (n cap:Nat) (q1:decide (12 < (n:Int))=true) :
 Calls Tryz.prog 5 #[.slice p n cap] w fun e y=>e=.returned (.bool true)∧Below w.heap.size w y:=by
 go_enter Tryz.func5,Tryz.ntmps5
 go_wp2_with fail
 refine (aw.out w (Below.refl _ _)).mono ?_;rintro e y ⟨rfl,hb⟩;replace hb:Hid (Below w.heap.size w y):=hb
 go_wp2_with fail
 refine (aw.out y hb.out).mono ?_;rintro e y2 ⟨rfl,hb2⟩;have hb3:Hid (Below w.heap.size w y2):=hb.out.trans (hb2.mono hb.out.size);clear hb hb2;go_wp2;go_ret;exact ⟨rfl,hb3.out⟩
theorem al_main (w:World) (aw:Hid (ShAwC w)) (p:Option Addr) (n cap:Nat) (ps:List Dn10) (hv:Hid (DvsR w (.slice p n cap) ps)) (hlen:Hid (ps.length=n)) (q1:decide (12 < (n:Int))=false) (L:List Dv) (hL:Hid (ps.map (·.1)=L)) (hD:Hid (∀ q ∈ ps,DevC w q))
 (al:Hid ((∀ q ∈ ps,fewD q.1=true)→AlAC L (allM [] [] L))) (dv:Hid ((∀ q ∈ ps,fewD q.1=true)→∀ want,allM [] [] L=(want,0)→AlDC w L want∧∀ q ∈ ps,ckE q.1=0)) :
 Calls Tryz.prog 5 #[.slice p n cap] w fun e y=>e=.returned (.bool true)∧Below w.heap.size w y:=by
 obtain ⟨i0,hi0,hz0,hz1,hz2⟩:=info_parts info_dev;have q12:¬ (12:Int) < (n:Int):=of_decide_eq_false q1
 go_enter Tryz.func5,Tryz.ntmps5
 go_wp2_with fail
 refine (aw.out w (Below.refl _ _)).mono ?_;rintro e y ⟨rfl,hb⟩;replace hb:Hid (Below w.heap.size w y):=hb;clear aw;have MK0:Hid (MkG w.heap.size y (.slice none 0 0) []):=MkG.first _ _
 go_wp2_with fail
 go_loopw [3,4,5,6,7] (fun vm vw vb vi vk wr=>∃ (i:Nat) (qs:List Dn10) (want:Wd) (bad:Nat),(i:Int)≤(n:Int)∧vi=.int .i64 (i:Int)∧vw=.string (txt want)∧vb=.int .i64 (bad:Int)∧Hid (MkG w.heap.size wr vm qs)∧Hid (qs.map (·.1)=L.take i)∧Hid (AlI L i want bad)∧Hid (Below w.heap.size w wr)∧Hid (∀ q ∈ ps.take i,fewD q.1=true)) (fun _ _ _ vi _ _=>n - (intOf vi).toNat)
 case atStart=>exact ⟨0,[],[],0,by omega,rfl,rfl,rfl,MK0,by unfold Hid; simp,AlI.first L,hb,fun q hq=>by simp at hq⟩
 case round=>
  obtain ⟨i,qs,want,bad,hi,rfl,rfl,rfl,mk,hqs,ai,bw,fw⟩:=hrel;clear MK0 hb
  by_cases hlt:i < n
  · have hki:(i:Int) < (n:Int):=by omega
    have hip:i < ps.length:=by have:=hlen.out; omega
    have hiL:i < L.length:=by rw [← hL.out,List.length_map]; exact hip
    have eL:L[i]=ps[i].1:=by simp only [← hL.out,List.getElem_map]
    obtain ⟨g,o,rfl,hcap,hgl,x1,hfl,hrq⟩:=(hv.out.below bw.out).at hlen.out hip;obtain ⟨hfw,hof,hrc,hrt,_,_⟩:=hD.out _ (List.getElem_mem hip);have hflw:=(hv.out.fl _ (List.getElem_mem hip)).1;have hrqw:=(hv.out.fl _ (List.getElem_mem hip)).2;have ldc:Hid (∀ x,Below w.heap.size w x→Ld12 g (o + i * 12) ps[i].1 ps[i].2.1 ps[i].2.2 x):=fun x hx=>by
     obtain ⟨g',o',e',_,_,x2,_,_⟩:=(hv.out.below hx).at hlen.out hip;injection e' with e'
     injection e' with e1 e2 _
     subst e1 e2;exact row12 x2
    have nmc:Hid (∀ x,Below w.heap.size w x→∀ k,k < i→∃ z:Wd,x.cell? ⟨g,o + k * 12,none⟩=some (.string (txt z))∧(namesD (L.take i))[k]?=some z):=fun x hx k hk=>by
     have hkp:k < ps.length:=by omega
     obtain ⟨g',o',e',_,_,x2,_,_⟩:=(hv.out.below hx).at hlen.out hkp;injection e' with e'
     injection e' with e1 e2 _
     subst e1 e2;refine ⟨ps[k].1.nm,(row12 x2).1,?_⟩;unfold namesD;rw [List.getElem?_map,List.getElem?_take_of_lt hk,← hL.out,List.getElem?_map,List.getElem?_eq_getElem hkp];rfl
    have hnl:(namesD (L.take i)).length=i:=by unfold namesD; rw [List.length_map,List.length_take]; omega
    have fw2:Hid (fewD ps[i].1=true→∀ q ∈ ps.take (i + 1),fewD q.1=true):=fun h q hq=>by
     rw [List.take_add_one,List.getElem?_eq_getElem hip] at hq;rcases List.mem_append.1 hq with hq | hq
     · exact fw.out q hq
     · have e:q=ps[i]:=by simpa using hq
       rw [e]; exact h
    have hqs2:Hid (∀ v:Value × Value,(qs ++ [(ps[i].1,v)]).map (·.1)=L.take (i + 1)):=fun v=>by
     rw [List.map_append,hqs.out,List.take_add_one,List.getElem?_eq_getElem hiL,eL];rfl
    have ait:Hid (bad=0→∀ E,tkE (namesD (L.take i)) ps[i].1=E→¬ E=0→AlI L (i + 1) want E):=fun h0 E hE h1=>by
     have h:=ai.out; subst h0; exact h.twice hiL (by rw [eL]; exact hE) h1
    have ail:Hid (bad=0→tkE (namesD (L.take i)) ps[i].1=0→4000 < want.length + (textD ps[i].1).length→∀ w',AlI L (i + 1) w' 7):=fun h0 hE h1 w'=>by
     have h:=ai.out; subst h0; exact h.long hiL (by rw [eL]; exact hE) (by rw [eL]; exact h1) w'
    have ain:Hid (bad=0→tkE (namesD (L.take i)) ps[i].1=0→¬ 4000 < want.length + (textD ps[i].1).length→AlI L (i + 1) (want ++ textD ps[i].1) 0):=fun h0 hE h1=>by
     have h:=ai.out; subst h0; rw [← eL]; exact h.next hiL (by rw [eL]; exact hE) (by rw [eL]; exact h1)
    have ais:Hid (¬ bad=0→AlI L (i + 1) want bad):=fun h=>ai.out.skip h _ _
    have hwl:Hid (bad=0→want.length≤4000):=fun h=>(ai.out.1 h).2
    have hcl:=fun h=>(hD.out _ (List.getElem_mem hip)).di h
    have htl:Hid (fewD ps[i].1=true→ckE ps[i].1=0→(textD ps[i].1).length≤3000):=fun h h0=>(((hcl h).1.snd h0 (hcl h).2).ok).len
    clear hcl ai fw hqs;generalize namesD (L.take i)=ns at *;clear eL x1 hfl hrq hiL;generalize ps[i]=pi at *;clear hip;obtain ⟨d,fv,qv⟩:=pi;simp only at ldc fw2 hqs2 ait ail ain htl hflw hrqw hfw hof hrc hrt;obtain ⟨pf,cf,rfl⟩:=hflw.form;obtain ⟨pq,cq,rfl⟩:=hrqw.form;have fwx:Hid (Calls Tryz.prog 9 #[dvV d (.slice pf d.fs.length cf) (.slice pq d.rq.length cq)] wr (QA wr (oneI (fewD d)))):=hfw wr bw.out;have rqw:Hid (BytesW w (.slice pq d.rq.length cq) d.rq):=hrqw;obtain ⟨l0,l1,l2,l3,l4,l5,l6,l7,l8,l9,l10,l11⟩:=ldc.out wr bw.out;clear hfw hflw hrqw
    cases hF:fewD d with
    | false=>
     rw [hF] at fwx;clear hof hrc hrt ldc nmc fw2 hqs2 ait ail ain ais hwl htl;generalize d.fs.length=nf at *;generalize d.rq.length=nq at *
     go_wp2_with fail
     refine fwx.out.mono ?_;rintro e u ⟨rfl,hb2⟩;have BF:Hid (Below w.heap.size w u):=bw.out.trans (hb2.mono bw.out.size);clear hb2 fwx l0 l1 l2 l3 l4 l5 l6 l7 l8 l9 l10 l11;go_wp2;go_ret;exact ⟨rfl,BF.out⟩
    | true=>
     rw [hF] at fwx;replace hof:=hof hF;replace hrc:=hrc hF;replace hrt:=hrt hF;have fw3:Hid (∀ q ∈ ps.take (i + 1),fewD q.1=true):=fw2.out hF;have htl2:Hid (ckE d=0→(textD d).length≤3000):=htl.out hF;replace hof:Hid (∀ x,Below w.heap.size w x→Calls Tryz.prog 11 #[dvV d (.slice pf d.fs.length cf) (.slice pq d.rq.length cq)] x fun e y=>∃ ov,e=.returned (dvV d ov (.slice pq d.rq.length cq))∧FldsV y ov d.fs∧Below x.heap.size x y∧∀ g,ov.ownBlock=some g→x.heap.size≤g):=hof;replace hrc:Hid (ShRcC w (dvV d (.slice pf d.fs.length cf) (.slice pq d.rq.length cq)) (ckE d)):=hrc;replace hrt:Hid (ckE d=0→ShRtC w (dvV d (.slice pf d.fs.length cf) (.slice pq d.rq.length cq)) (txt (textD d))):=hrt;clear fw2 htl;obtain ⟨nf,hnf⟩:∃ nf,d.fs.length=nf:=⟨_,rfl⟩;obtain ⟨nq,hnq⟩:∃ nq,d.rq.length=nq:=⟨_,rfl⟩;have hnfh:Hid (d.fs.length=nf):=hnf;have hnqh:Hid (d.rq.length=nq):=hnq;rw [hnf,hnq] at fwx hof hrc hrt ldc;rw [hnq] at rqw;rw [hnf] at l6;rw [hnq] at l7;clear hnf hnq
     go_wp2_with fail
     refine fwx.out.mono ?_;rintro e u ⟨rfl,hb2⟩;have B2:Hid (Below w.heap.size w u):=bw.out.trans (hb2.mono bw.out.size);have MK2:Hid (MkG w.heap.size u u3 qs):=mk.out.below hb2;clear l0 l1 l2 l3 l4 l5 l6 l7 l8 l9 l10 l11 hb2 fwx mk bw;obtain ⟨l0,l1,l2,l3,l4,l5,l6,l7,l8,l9,l10,l11⟩:=ldc.out u B2.out;have ofc:Hid (Calls Tryz.prog 11 #[dvV d (.slice pf nf cf) (.slice pq nq cq)] u fun e y=>∃ ov,e=.returned (dvV d ov (.slice pq nq cq))∧FldsV y ov d.fs∧Below u.heap.size u y∧∀ g,ov.ownBlock=some g→u.heap.size≤g):=hof.out u B2.out;clear hof
     go_wp2_with fail
     refine ofc.out.mono ?_;rintro e x ⟨ov,rfl,hov,hb3,hnew⟩;obtain ⟨po,co,rfl⟩:=hov.form;rw [hnfh.out] at hov hnew ⊢;have B3:Hid (Below w.heap.size w x):=B2.out.trans (hb3.mono B2.out.size);have MK3:Hid (MkG w.heap.size x u3 qs):=MK2.out.below hb3;have b4:Below x.heap.size x (x.alloc (.cells (dvB d (.slice po nf co) (.slice pq nq cq)) 33)):=(Below.refl _ _).alloc (Nat.le_refl _) _;have MK4:=MK3.out.below b4;have own4:Hid ((x.alloc (.cells (dvB d (.slice po nf co) (.slice pq nq cq)) 33)).ownsRow w.heap.size 33 12 u3 qs.length (dvCs qs)):=MK4.own;have B4:Hid (Below w.heap.size w (x.alloc (.cells (dvB d (.slice po nf co) (.slice pq nq cq)) 33))):=B3.out.trans (b4.mono B3.out.size);have fin:Hid (∀ (g c:Nat) (yq:World),yq.ownsRow w.heap.size 33 12 (.slice (some ⟨g,0,none⟩) (qs.length + 1) c) (qs.length + 1) (dvCs qs ++ (dvB d (.slice po nf co) (.slice pq nq cq)).toList)→(x.alloc (.cells (dvB d (.slice po nf co) (.slice pq nq cq)) 33)).grownBy yq u3.ownBlock→(u3.ownBlock=some g ∨ g=(x.alloc (.cells (dvB d (.slice po nf co) (.slice pq nq cq)) 33)).heap.size) →
      MkG w.heap.size yq (.slice (some ⟨g,0,none⟩) (qs.length + 1) c) (qs ++ [(d,.slice po nf co,.slice pq nq cq)])∧Below w.heap.size w yq):=fun g c yq h1 h2 h3=>
      ⟨MK4.push (hov.below b4) ((rqw.out.below B4.out)) (fun _ k e e'=>by have h5:=hnew k e; have h6:=(MK2.out.lt e').2; omega) (fun hne k e e'=>by have h5:=rqw.out.lt hne e; have h6:=(MK2.out.lt e').1; omega) h1 h2 h3,
       B4.out.grown h2 B4.out.size (fun k e=>(MK4.lt e).1)⟩
     have hql:Hid (qs.length≤i):=by have h:=hqs2.out (.slice none 0 0,.slice none 0 0); have h2:=congrArg List.length h; simp only [List.length_map,List.length_append,List.length_take,List.length_cons,List.length_nil] at h2; unfold Hid; omega
     have hqs3:Hid ((qs ++ [(d,Value.slice po nf co,Value.slice pq nq cq)]).map (·.1)=L.take (i + 1)):=hqs2.out _;have hone:=one_dev d (fv:=.slice po nf co) (qv:=.slice pq nq cq) rfl rfl;have hcn:=cells_new10 x (dvB d (.slice po nf co) (.slice pq nq cq)) 33;have h63:qs.length + 1≤maxLen:=by have:=hql.out; unfold maxLen; omega
     have hby:(qs.length + 1) * 144≤140737488355328:=by have:=hql.out; omega
     have hbs:Hid (w.heap.size≤x.heap.size):=B3.out.size;clear l0 l1 l2 l3 l4 l5 l6 l7 l8 l9 l10 l11 hov hnew hb3 MK2 MK3 MK4 b4 B3 ofc B2 rqw hqs2
     go_upto_region 12 with (at_builtin; refine wpList_append_lies _ rfl _ _ 47 rfl w.heap.size 33 i0 (.agg dz) 12 144 Tryz.underlying47 hi0 hz0 hz1 hz2 rfl (by decide) _ qs.length (dvCs qs) rfl own4.out ⟨x.heap.size,0,none⟩ 1 1 (dvB d (.slice po nf co) (.slice pq nq cq)).toList rfl rfl hcn hone (by decide) h63 hby (by have:=hbs.out; rw [World.size_alloc]; omega) (x.alloc (.cells (dvB d (.slice po nf co) (.slice pq nq cq)) 33)).heap.size rfl ?_; intro g2 cap2 yq hO gO hat hlt2; have MKq:=fin.out g2 cap2 yq hO gO hat; clear hO gO hat hlt2)
     clear fin own4 hcn hone B4;obtain ⟨MK5,B5⟩:=MKq;replace MK5:Hid (MkG w.heap.size yq (.slice (some ⟨g2,0,none⟩) (qs.length + 1) cap2) (qs ++ [(d,.slice po nf co,.slice pq nq cq)])):=MK5;replace B5:Hid (Below w.heap.size w yq):=B5
     by_cases hb0:bad=0
     · subst hb0;have rcy:Hid (Calls Tryz.prog 12 #[dvV d (.slice pf nf cf) (.slice pq nq cq)] yq (QA yq (ckE d))):=hrc.out yq B5.out;have be:Hid (BeE ns d.nm (ckE d) ((tkE ns d:Nat):Int)):=beE_tk ns d;have tk0:Hid (tkE ns d=0→ckE d=0):=fun h=>(tk_0.1 h).1
       have ait2:Hid (∀ E,tkE ns d=E→¬ E=0→AlI L (i + 1) want E):=ait.out rfl;have ail2:Hid (tkE ns d=0→4000 < want.length + (textD d).length→∀ w',AlI L (i + 1) w' 7):=ail.out rfl;have ain2:Hid (tkE ns d=0→¬ 4000 < want.length + (textD d).length→AlI L (i + 1) (want ++ textD d) 0):=ain.out rfl;have hwl2:Hid (want.length≤4000):=hwl.out rfl;obtain ⟨l0,l1,l2,l3,l4,l5,l6,l7,l8,l9,l10,l11⟩:=ldc.out yq B5.out;clear ait ail ain ais hwl hrc;generalize ckE d=E1 at *;generalize tkE ns d=TE at *
       go_wp2_with fail
       refine rcy.out.mono ?_;rintro e y2 ⟨rfl,hb6⟩;have B6:Hid (Below w.heap.size w y2):=B5.out.trans (hb6.mono B5.out.size);have MK6:Hid (MkG w.heap.size y2 (.slice (some ⟨g2,0,none⟩) (qs.length + 1) cap2) (qs ++ [(d,.slice po nf co,.slice pq nq cq)])):=MK5.out.below hb6;clear l0 l1 l2 l3 l4 l5 l6 l7 l8 l9 l10 l11 hb6 rcy MK5 B5;obtain ⟨wo,hwo⟩:∃ wo,wo=wr:=⟨_,rfl⟩;subst hwo
       go_wp2_with fail
       go_loopw [5,7] (fun ve vk wk=>∃ (k:Nat) (E:Int),(k:Int)≤(i:Int)∧vk=.int .i64 (k:Int)∧ve=.int .i64 E∧Hid (KsE ns d.nm E1 E k)∧Hid (Below y2.heap.size y2 wk)) (fun ve vk wk=>i - (intOf vk).toNat)
       case atStart=>exact ⟨0,E1,by omega,rfl,rfl,.inl ⟨rfl,fun _ h=>(by simp at h)⟩,Below.refl _ _⟩
       case round=>
        obtain ⟨k,E,hk,rfl,rfl,ks,bk⟩:=hrel;have Bk:Hid (Below w.heap.size w wr):=B6.out.trans (bk.out.mono B6.out.size)
        by_cases hkq:k < i∧E=0
        · obtain ⟨hkq,rfl⟩:=hkq;have hkqi:(k:Int) < (i:Int):=by omega
          have hkn:(k:Int) < (n:Int):=by omega
          obtain ⟨zz,cz,hzn⟩:=nmc.out wr Bk.out k hkq;obtain ⟨l0,l1,l2,l3,l4,l5,l6,l7,l8,l9,l10,l11⟩:=ldc.out wr Bk.out;have wkk:IntKind.i64.wrap ((k:Int) + 1)=(k:Int) + 1:=by simp only [IntKind.wrap_i64]; omega
          have bk2:∀ nn,Hid (Below y2.heap.size y2 (wr.drewN nn)):=fun nn=>⟨bk.out.os,bk.out.tape,bk.out.output,bk.out.size,bk.out.block⟩
          clear l1 l2 l3 l4 l5 l6 l7 l8 l9 l10 l11
          by_cases hzd:zz=d.nm
          · have ks2:Hid (KsE ns d.nm E1 8 (k + 1)):=ks.out.hit hzn hzd;have tb:((txt zz).toList == (txt d.nm).toList)=true:=by rw [txt_toL,txt_toL,beq_iff_eq]; exact hzd
            generalize txt zz=tz at *;generalize txt d.nm=td at *
            go_upto_region 17 with fail
            go_quiet (fail)
            go_wp2;refine ⟨⟨k + 1,8,by omega,rfl,rfl,ks2,bk2 _⟩,?_⟩;show i - (intOf (.int .i64 ((k:Int) + 1))).toNat < i - (intOf (.int .i64 (k:Int))).toNat;simp only [intOf];omega
          · have ks2:Hid (KsE ns d.nm E1 0 (k + 1)):=ks.out.step hzn hzd;have tb:((txt zz).toList == (txt d.nm).toList)=false:=by rw [txt_toL,txt_toL]; exact beq_eq_false_iff_ne.2 hzd
            generalize txt zz=tz at *;generalize txt d.nm=td at *
            go_upto_region 17 with fail
            go_quiet (fail)
            go_wp2;refine ⟨⟨k + 1,0,by omega,rfl,rfl,ks2,bk2 _⟩,?_⟩;show i - (intOf (.int .i64 ((k:Int) + 1))).toNat < i - (intOf (.int .i64 (k:Int))).toNat;simp only [intOf];omega
        · have hEB:((TE:Nat):Int)=E:=ks.out.fin be.out (by
           by_cases h1:k < i
           · exact .inr fun h2=>hkq ⟨h1,h2⟩
           · exact .inl (by omega))
          have MK7:Hid (MkG w.heap.size wr (.slice (some ⟨g2,0,none⟩) (qs.length + 1) cap2) (qs ++ [(d,.slice po nf co,.slice pq nq cq)])):=MK6.out.below bk.out;subst hEB;clear ks be bk MK6 nmc
          by_cases hT0:TE=0
          · subst hT0;have hkk:¬ k < i:=fun h=>hkq ⟨h,rfl⟩
            have hki2:¬ (k:Int) < (i:Int):=by omega
            have hck:=tk0.out rfl;have rtc:Hid (Calls Tryz.prog 14 #[dvV d (.slice pf nf cf) (.slice pq nq cq)] wr fun e y=>e=.returned (.string (txt (textD d)))∧Below wr.heap.size wr y):=hrt.out hck wr Bk.out;have tl3:=htl2.out hck;have wl:=hwl2.out;have ail3:Hid (4000 < want.length + (textD d).length→∀ w',AlI L (i + 1) w' 7):=ail2.out rfl;have ain3:Hid (¬ 4000 < want.length + (textD d).length→AlI L (i + 1) (want ++ textD d) 0):=ain2.out rfl;have sz1:=txt_size (textD d);have sz2:=txt_size want;have sz3:=txt_size (want ++ textD d);rw [List.length_append] at sz3;have hadd:=txt_both want (textD d);obtain ⟨l0,l1,l2,l3,l4,l5,l6,l7,l8,l9,l10,l11⟩:=ldc.out wr Bk.out;clear ail2 ain2 ait2 hrt htl2 tk0 hck ldc hwl2 hkq;generalize textD d=tl at *;generalize hS1:txt want=S1 at *;generalize hS2:txt tl=S2 at *;have hsum:S1.size + S2.size≤9223372036854775807:=by omega
            have hsz:(S1 ++ S2).size=S1.size + S2.size:=by rw [hadd]; omega
            go_wp2_with fail
            refine rtc.out.mono ?_;rintro e y3 ⟨rfl,hb7⟩;have B7:Hid (Below w.heap.size w y3):=Bk.out.trans (hb7.mono Bk.out.size);have MK8:Hid (MkG w.heap.size y3 (.slice (some ⟨g2,0,none⟩) (qs.length + 1) cap2) (qs ++ [(d,.slice po nf co,.slice pq nq cq)])):=MK7.out.below hb7;clear l0 l1 l2 l3 l4 l5 l6 l7 l8 l9 l10 l11 hb7 rtc MK7
            by_cases h4:4000 < want.length + tl.length
            · have hb4:decide ((4000:Int) < ((S1 ++ S2).size:Int))=true:=decide_eq_true (by omega);have ai2:Hid (AlI L (i + 1) (want ++ tl) 7):=ail3.out h4 _;clear ail3 ain3 hS1 hS2;replace hadd:Hid (S1 ++ S2=txt (want ++ tl)):=hadd;go_wp2;exact ⟨⟨i + 1,_,want ++ tl,7,by omega,by simp,congrArg Value.string hadd.out,rfl,MK8,hqs3,ai2,B7,fw3⟩,by simp [intOf]; omega⟩
            · have hb4:decide ((4000:Int) < ((S1 ++ S2).size:Int))=false:=decide_eq_false (by omega);have ai2:Hid (AlI L (i + 1) (want ++ tl) 0):=ain3.out h4;clear ail3 ain3 hS1 hS2;replace hadd:Hid (S1 ++ S2=txt (want ++ tl)):=hadd;go_wp2;exact ⟨⟨i + 1,_,want ++ tl,0,by omega,by simp,congrArg Value.string hadd.out,rfl,MK8,hqs3,ai2,B7,fw3⟩,by simp [intOf]; omega⟩
          · have e0:(((TE:Nat):Int) == 0)=false:=beq_eq_false_iff_ne.2 (by omega);have e1:(((TE:Nat):Int) != 0)=true:=by rw [bne,e0]; rfl
            have ai2:Hid (AlI L (i + 1) want TE):=ait2.out _ rfl hT0;clear ait2 ail2 ain2 hrt htl2 tk0 ldc hwl2 hkq
            by_cases hk2:k < i
            · have hkqi:(k:Int) < (i:Int):=by omega
              go_wp2;exact ⟨⟨i + 1,_,want,TE,by omega,by simp,rfl,rfl,MK7,hqs3,ai2,Bk,fw3⟩,by simp [intOf]; omega⟩
            · have hkqi:¬ (k:Int) < (i:Int):=by omega
              go_wp2;exact ⟨⟨i + 1,_,want,TE,by omega,by simp,rfl,rfl,MK7,hqs3,ai2,Bk,fw3⟩,by simp [intOf]; omega⟩
     · have e0:((bad:Int) == 0)=false:=beq_eq_false_iff_ne.2 (by omega);have e1:((bad:Int) != 0)=true:=by rw [bne,e0]; rfl
       have ai2:Hid (AlI L (i + 1) want bad):=ais.out hb0;clear hrc hrt ait ail ain ais hwl htl2 nmc ldc;go_wp2;exact ⟨⟨i + 1,_,want,bad,by omega,by simp,rfl,rfl,MK5,hqs3,ai2,B5,fw3⟩,by simp [intOf]; omega⟩
  · obtain rfl:i=n:=by omega
    have hLn:L.length=i:=by rw [← hL.out,List.length_map]; exact hlen.out
    have ai2:AlI L L.length want bad:=by rw [hLn]; exact ai.out
    have hfew:∀ q ∈ ps,fewD q.1=true:=by have h:=fw.out; rwa [List.take_of_length_le (by have:=hlen.out; omega)] at h
    have hqL:qs.map (·.1)=L:=by rw [hqs.out,List.take_of_length_le (by omega)]
    have alc0:=al.out hfew u3 wr qs mk.out.r hqL
    by_cases hb0:bad=0
    · subst hb0;have hT:=ai2.last.1 rfl;obtain ⟨dvc0,hck⟩:=dv.out hfew want hT;rw [hT] at alc0;have alc:Hid (Calls Tryz.prog 18 #[u3] wr (AllQ wr (want,0))):=alc0;have dvc:Hid (AlDC w L want):=dvc0;have smc:Hid (∀ k (h:k < ps.length) x fv qv,Below w.heap.size w x→FldsAt x fv ps[k].1.fs→BytesAt x qv ps[k].1.rq→Calls Tryz.prog 15 #[dvV ps[k].1 fv qv,dvV ps[k].1 ps[k].2.1 ps[k].2.2] x fun e y=>e=.returned (.int .i64 1)∧Below x.heap.size x y):=fun k h x fv qv hb h1 h2=>
       (hD.out _ (List.getElem_mem h)).sm (hfew _ (List.getElem_mem h)) (hck _ (List.getElem_mem h)) x fv qv hb h1 h2
      clear alc0 dvc0 hck hfew ai2 ai hqs hqL mk fw hT al dv hD
      go_wp2_with fail
      refine alc.out.mono ?_;rintro e y2 ⟨rfl,hb2⟩;have B2:Hid (Below w.heap.size w y2):=bw.out.trans (hb2.mono bw.out.size);have dvy:Hid (Calls Tryz.prog 19 #[.string (txt want)] y2 (LinesQ 33 y2 (L,0,0))):=dvc.out y2 B2.out;clear hb2 alc dvc bw;have hSS:((txt want).toList != (txt want).toList)=false:=by simp
      have hSS2:((txt want).toList == (txt want).toList)=true:=by simp
      generalize txt want=S at *
      go_wp2_with fail
      refine dvy.out.mono ?_;rintro e z ⟨lv,xs,rfl,h1,h2,h3⟩;obtain ⟨pl,cl,rfl⟩:=h2.form;have B3:Hid (Below w.heap.size w z):=B2.out.trans (h3.mono B2.out.size);have hxl:xs.length=i:=by
       have h:=congrArg List.length h1;simp only [List.length_map] at h;omega
      have he:Hid (xs.map (·.1)=ps.map (·.1)):=h1.trans hL.out.symm;have D1:Hid (DvsAt 33 z (.slice pl xs.length cl) xs):=h2;rw [hxl] at D1 ⊢;have hx:Hid (xs.length=i):=hxl;have hMM:(((i:Nat):Int) != ((i:Nat):Int))=false:=by simp
      clear h1 h2 h3 hxl dvy B2
      go_wp2_with fail
      go_loopw [13] (fun vk wq=>∃ k:Nat,(k:Int)≤(i:Int)∧vk=.int .i64 (k:Int)∧Hid (Below z.heap.size z wq)) (fun vk _=>i - (intOf vk).toNat)
      case atStart=>exact ⟨0,by omega,rfl,Below.refl _ _⟩
      case round=>
       obtain ⟨k,hk,rfl,bz⟩:=hrel
       by_cases hkl:k < i
       · have hkm:(k:Int) < (i:Int):=by omega
         have hkp:k < xs.length:=by have:=hx.out; omega
         have hkq:k < ps.length:=by have:=hlen.out; omega
         have B4:Hid (Below w.heap.size w wr):=B3.out.trans (bz.out.mono B3.out.size);have D1w:=D1.out.below bz.out;have ed:xs[k].1=ps[k].1:=by
          have h:=congrArg (·[k]?) he.out;simp only [List.getElem?_map,List.getElem?_eq_getElem hkp,List.getElem?_eq_getElem hkq] at h
          simpa using h
         have sm:Hid (∀ y,Below wr.heap.size wr y→Calls Tryz.prog 15 #[dvV xs[k].1 xs[k].2.1 xs[k].2.2,dvV ps[k].1 ps[k].2.1 ps[k].2.2] y fun e y'=>e=.returned (.int .i64 1)∧Below y.heap.size y y'):=fun y hy=>by
          have hf:=(D1w.below hy).fl _ (List.getElem_mem hkp);have h:=smc.out k hkq y xs[k].2.1 xs[k].2.2 (B4.out.trans (hy.mono B4.out.size)) (by rw [← ed]; exact hf.1) (by rw [← ed]; exact hf.2);rw [ed];exact h
         obtain ⟨g,rfl,hc1,x1⟩:=D1w.at hx.out hkp;obtain ⟨g',o',rfl,hc2,_,x2,hf2,hq2⟩:=(hv.out.below B4.out).at hlen.out hkq;obtain ⟨pa,na,ca,ea⟩:=(D1w.fl _ (List.getElem_mem hkp)).1.form;obtain ⟨pb,nb,cb,eb⟩:=(D1w.fl _ (List.getElem_mem hkp)).2.form';obtain ⟨pc,cc,ec⟩:=hf2.form;obtain ⟨pd,cd,ed2⟩:=hq2.form;clear D1w hf2 hq2;rw [ea,eb] at x1 sm;rw [ec,ed2] at x2 sm;obtain ⟨l0,l1,l2,l3,l4,l5,l6,l7,l8,l9,l10,l11⟩:=row12 x1;obtain ⟨m0,m1,m2,m3,m4,m5,m6,m7,m8,m9,m10,m11⟩:=row12 x2;generalize ps[k].1.fs.length=nfq at *;generalize ps[k].1.rq.length=nqq at *;generalize ps[k].1=d at *;generalize xs[k].1=d' at *;clear x1 x2 ea eb ec ed2 ed
         go_upto_region 32 with fail
         have kl0:=cell_regrown l0;have km0:=cell_regrown m0;have kl1:=cell_regrown l1;have km1:=cell_regrown m1;have kl2:=cell_regrown l2;have km2:=cell_regrown m2;have kl3:=cell_regrown l3;have km3:=cell_regrown m3;have kl4:=cell_regrown l4;have km4:=cell_regrown m4;have kl5:=cell_regrown l5;have km5:=cell_regrown m5;have kl6:=cell_regrown l6;have km6:=cell_regrown m6;have kl7:=cell_regrown l7;have km7:=cell_regrown m7;have kl8:=cell_regrown l8;have km8:=cell_regrown m8;have kl9:=cell_regrown l9;have km9:=cell_regrown m9;have kl10:=cell_regrown l10;have km10:=cell_regrown m10;have kl11:=cell_regrown l11;have km11:=cell_regrown m11;refine wp_region_quiet_below (by kernel_rfl) (by kernel_rfl) ?_
         repeat (go_big_quiet_step (first
          | (go_at_call 15; with_reducible exact Calls.regrown_of (sm.out _ (below_regrown _ _ _)))))
         refine wpQuiet_nil ?_;intro _ hw';obtain ⟨⟨dq,osq⟩,hw''⟩:=hw';subst hw'';have bz2:Hid (Below z.heap.size z (Sort.grow (redrawn wr dq) osq)):=bz.out.trans ((below_regrown wr dq osq).mono bz.out.size);clear l0 m0 kl0 km0 l1 m1 kl1 km1 l2 m2 kl2 km2 l3 m3 kl3 km3 l4 m4 kl4 km4 l5 m5 kl5 km5 l6 m6 kl6 km6 l7 m7 kl7 km7 l8 m8 kl8 km8 l9 m9 kl9 km9 l10 m10 kl10 km10 l11 m11 kl11 km11 sm bz B4;generalize Sort.grow (redrawn wr dq) osq=w5 at *;go_wp2;exact ⟨⟨k + 1,by omega,by simp,bz2⟩,by simp [intOf]; omega⟩
       · obtain rfl:k=i:=by omega
         have BF:Hid (Below w.heap.size w wr):=B3.out.trans (bz.out.mono B3.out.size);go_wp2;go_ret;exact ⟨rfl,BF.out⟩
    · have e0:((bad:Int) == 0)=false:=beq_eq_false_iff_ne.2 (by omega);have e1:((bad:Int) != 0)=true:=by rw [bne,e0]; rfl
      have hEE:(((bad:Nat):Int) == ((bad:Nat):Int))=true:=by simp
      rw [ai2.last.2 hb0] at alc0;have alc:Hid (Calls Tryz.prog 18 #[u3] wr fun e y=>e=.returned (.tuple #[.string ⟨#[]⟩,.int .i64 ((bad:Nat):Int)])∧Below wr.heap.size wr y):=alc0;clear alc0 hfew ai2 ai hqs hqL mk fw al dv hD
      go_wp2_with fail
      refine alc.out.mono ?_;rintro e y2 ⟨rfl,hb2⟩;have BF:Hid (Below w.heap.size w y2):=bw.out.trans (hb2.mono bw.out.size);clear hb2 alc;go_wp2;go_ret;exact ⟨rfl,BF.out⟩
theorem showall_any (w:World) (T7:Tab7 w) (v:Value) (ps:List Dn10) (hv:DvsR w v ps) (hx:∀ p ∈ ps,DvX p.1) (hn:(ps.length:Int)≤9223372036854775807) :
 Calls Tryz.prog 5 #[v] w fun e y=>e=.returned (.bool true)∧Below w.heap.size w y:=by
 have aw:Hid (ShAwC w):=shAwC T7;obtain ⟨p,cap,rfl⟩:=hv.form;obtain ⟨L,hL⟩:∃ L:List Dv,ps.map (·.1)=L:=⟨_,rfl⟩
 by_cases hl:12 < (ps.length:Int)
 · exact al_long w aw p _ cap (decide_eq_true hl)
 · have hD:∀ q ∈ ps,DevC w q:=fun q hq=>devC (hv.fl q hq).1 (hv.fl q hq).2 (hx q hq)
   have hdi:(∀ q ∈ ps,fewD q.1=true)→∀ d ∈ L,DvI d∧AllBytes d.rq:=fun hf d hd=>by
    rw [← hL] at hd;obtain ⟨q,hq,rfl⟩:=List.mem_map.1 hd;exact (hD q hq).di (hf q hq)
   refine al_main w aw p _ cap ps hv rfl (decide_eq_false hl) L hL hD (fun hf v x qs hr he=>?_) (fun hf want hT=>?_)
   · have hq:qs.length=ps.length:=by have h:=congrArg List.length (he.trans hL.symm); simpa using h
     have k:=all_any v x qs hr (fun q hq=>hdi hf q.1 (by rw [← he]; exact List.mem_map.2 ⟨q,hq,rfl⟩)) (by rw [hq]; exact hn)
     rwa [he] at k
   · obtain ⟨g1,g2,g3,g4⟩:=all_good L [] [] List.nodup_nil (by simp) (by rw [hT]);rw [hT] at g1;simp only [List.nil_append] at g1 g3 g4;have g1':want=L.flatMap textD:=g1;have hok:∀ d ∈ L,ckE d=0∧DvOk d:=fun d hd=>⟨g2 d hd,((hdi hf d hd).1.snd (g2 d hd) (hdi hf d hd).2).ok⟩
     obtain ⟨f1,f2⟩:=flat_read hok g3 g4;have eD:devicesM want=(L,0,0):=by rw [g1']; unfold devicesM; rw [if_pos f1,f2]
     refine ⟨fun x hb=>?_,fun q hq=>g2 _ (by rw [← hL]; exact List.mem_map.2 ⟨q,hq,rfl⟩)⟩;have k:=devices_any (txt want) x (T7.below hb);rw [show (txt want).data.toList=want from rfl,eD] at k;exact k
theorem laid_space:(Rows.laid_strings_asciiSpace:DataW Unit)=Lib.tabData .u8 Lib.asciiSpaceTab:=by kernel_rfl
theorem tab7_of {W : World} (h : laidMetH Tryz.prog [("unicode.White_Space", Rows.laid_unicode_White_Space), ("strings.asciiSpace", Rows.laid_strings_asciiSpace)] W) : Tab7 W := by
 rw [MakeChecks.laidMetH_plain _ _ _ (by kernel_rfl)] at h;have h2:=h.tail;rw [laid_space] at h2;exact Tab7.of (Lib.tabIs_of_head (g:=0) (t:=170) (e:=5) (n:=256) (by kernel_rfl) (by kernel_rfl) Tryz.underlying170 Tryz.underlying5 (by kernel_rfl) (by kernel_rfl) h2)
end Go.Proofs.YthabffjgdhfbmaaGreatDoor
