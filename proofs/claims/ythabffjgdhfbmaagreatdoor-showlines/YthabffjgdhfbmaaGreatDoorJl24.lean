/-
  Texts that belong together, one behind the other: ShLw, DsLineU, DsLineDev, DsLineSta. Conditions: as each says.
-/
import Derived.ChangeOld
import Derived.Laws.BitsAllLaws
import Derived.Laws.OwnMore
import Derived.Laws.Shifts
import Derived.Lib.QuietBelowIn
import Derived.OpenShut
import Derived.ProofKit
import Derived.RangeFuncCalls
import Derived.ShutString
import Derived.Sort.BigQuietIn
import Derived.Test.YthabffjgdhfbmaaGreatDoorProg
import Derived.Test.YthabffjgdhfbmaaGreatDoorJl1
import Derived.Test.YthabffjgdhfbmaaGreatDoorJl2
import Derived.Test.YthabffjgdhfbmaaGreatDoorJl3
import Derived.Test.YthabffjgdhfbmaaGreatDoorJl4
import Derived.Test.YthabffjgdhfbmaaGreatDoorJl5
import Derived.Test.YthabffjgdhfbmaaGreatDoorJl6
import Derived.Test.YthabffjgdhfbmaaGreatDoorJl7
import Derived.Test.YthabffjgdhfbmaaGreatDoorJl8
import Derived.Test.YthabffjgdhfbmaaGreatDoorJl9
import Derived.Test.YthabffjgdhfbmaaGreatDoorJl10
import Derived.Test.YthabffjgdhfbmaaGreatDoorJl11
import Derived.Test.YthabffjgdhfbmaaGreatDoorJl12
import Derived.Test.YthabffjgdhfbmaaGreatDoorJl13
import Derived.Test.YthabffjgdhfbmaaGreatDoorJl14
import Derived.Test.YthabffjgdhfbmaaGreatDoorJl15
import Derived.Test.YthabffjgdhfbmaaGreatDoorJl16
import Derived.Test.YthabffjgdhfbmaaGreatDoorJl17
import Derived.Test.YthabffjgdhfbmaaGreatDoorJl18
import Derived.Test.YthabffjgdhfbmaaGreatDoorJl19
import Derived.Test.YthabffjgdhfbmaaGreatDoorJl20
import Derived.Test.YthabffjgdhfbmaaGreatDoorJl21
import Derived.Test.YthabffjgdhfbmaaGreatDoorJl22
import Derived.Test.YthabffjgdhfbmaaGreatDoorJl23
set_option maxRecDepth 100000
set_option maxHeartbeats 32000000
set_option linter.unusedVariables false
namespace Go.Proofs.YthabffjgdhfbmaaGreatDoor
open Go.RowKit
def SmL (rs:List Lr):Prop:=∀ r ∈ rs,r.2.length≤20∧∀ z ∈ r.2,z.length≤100
theorem SmL.next {rs:List Lr} {i:Nat} (h:SmL (rs.take i)) (hi:i < rs.length) (h1:rs[i].2.length≤20) (h2:∀ z ∈ rs[i].2,z.length≤100):SmL (rs.take (i + 1)):=by
 intro r hr;rw [List.take_add_one,List.getElem?_eq_getElem hi] at hr;rcases List.mem_append.1 hr with hr | hr
 · exact h r hr
 · have e:r=rs[i]:=by simpa using hr
   rw [e]; exact ⟨h1,h2⟩
theorem devs_few' (bs:List (List Lr)):∀ (ds:List Dv),(∀ d ∈ ds,d.fs.length≤8)→∀ d ∈ (devsM ds bs).1,d.fs.length≤8:=by
 induction bs with
 | nil=>intro ds h; exact h
 | cons b bs ih=>
  intro ds h
  by_cases hb:blkE (namesD ds) b=0
  · rw [devs_ok hb];refine ih _ fun d hd=>?_
    rcases List.mem_append.1 hd with hd | hd
    · exact h d hd
    · rw [List.mem_singleton.1 hd]; exact read_fs b
  · rw [devs_bad hb];intro d hd
    cases hd
theorem devs_few (bs:List (List Lr)):∀ d ∈ (devsM [] bs).1,d.fs.length≤8:=devs_few' bs [] fun d h=>by cases h
def LwRC (w:World) (v:Value) (rs:List Lr):Prop:=∀ x,Below w.heap.size w x→Calls Tryz.prog 21 #[v] x (LinesQ 25 x (linesM rs))
def LwLC (rs:List Lr):Prop:=∀ v x,RowsC x.heap.size x v rs→Calls Tryz.prog 20 #[v] x (LinesQ 33 x (linesM rs))
theorem lw_long (w:World) (aw:Hid (ShAwC w)) (p:Option Addr) (n cap:Nat) (q1:decide (80 < (n:Int))=true) :
 Calls Tryz.prog 7 #[.slice p n cap] w fun e y=>e=.returned (.bool true)∧Below w.heap.size w y:=by
 go_enter Tryz.func7,Tryz.ntmps7
 go_wp2_with fail
 refine (aw.out w (Below.refl _ _)).mono ?_;rintro e y ⟨rfl,hb⟩;replace hb:Hid (Below w.heap.size w y):=hb
 go_wp2_with fail
 refine (aw.out y hb.out).mono ?_;rintro e y2 ⟨rfl,hb2⟩;have hb3:Hid (Below w.heap.size w y2):=hb.out.trans (hb2.mono hb.out.size);clear hb hb2;go_wp2;go_ret;exact ⟨rfl,hb3.out⟩
theorem lw_main (w:World) (aw:Hid (ShAwC w)) (p:Option Addr) (n1 cap:Nat) (rs:List Lr) (hv:Hid (RowsC w.heap.size w (.slice p n1 cap) rs)) (hlen:Hid (rs.length=n1)) (q1:decide (80 < (n1:Int))=false)
 (ln:Hid (SmL rs→LwLC rs)) (rd:Hid (SmL rs→LwRC w (.slice p n1 cap) rs)) (f8:Hid (∀ d ∈ (linesM rs).1,d.fs.length≤8)) :
 Calls Tryz.prog 7 #[.slice p n1 cap] w fun e y=>e=.returned (.bool true)∧Below w.heap.size w y:=by
 obtain ⟨r0,hri,hr0,hr1,hr2⟩:=info_parts info_prow;have q80:¬ (80:Int) < (n1:Int):=of_decide_eq_false q1
 go_enter Tryz.func7,Tryz.ntmps7
 go_wp2_with fail
 refine (aw.out w (Below.refl _ _)).mono ?_;rintro e y ⟨rfl,hb⟩;replace hb:Hid (Below w.heap.size w y):=hb;clear aw;have S0:Hid (RnSt w y (.slice none 0 0) []):=⟨World.ownsRow_nil _ _ _ _,(fun f hf=>by cases hf),hb.out⟩
 go_wp2_with fail
 go_loopw [3,4,5] (fun vm vi vk wr=>∃ (i:Nat) (fs:List Rn),(i:Int)≤(n1:Int)∧vi=.int .i64 (i:Int)∧Hid (RnSt w wr vm fs)∧Hid (fs.map (·.1)=rs.take i)∧Hid (SmL (rs.take i))) (fun _ vi _ _=>n1 - (intOf vi).toNat)
 case atStart=>exact ⟨0,[],by omega,rfl,S0,by unfold Hid; simp,fun r hr=>by simp at hr⟩
 case round=>
  obtain ⟨i,fs,hi,rfl,st,hfs,sm⟩:=hrel;clear S0
  by_cases hlt:i < n1
  · have hki:(i:Int) < (n1:Int):=by omega
    have hil:i < rs.length:=by have:=hlen.out; omega
    obtain ⟨g1,o1,pu,cu,rfl,lt3,k0,k1,ks⟩:=hv.out.at hlen.out st.out.b hlt;obtain ⟨g1',o1',pu',cu',e',_,m0,m1,ks'⟩:=hv.out.at hlen.out (Below.refl _ _) hlt;injection e' with e'
    injection e' with e1 e2 _
    subst e1;subst e2;have e01:=(st.out.b.cell (p:=⟨g1,o1 + i * 2 + 1,none⟩) lt3).symm.trans k1;rw [m1] at e01;injection e01 with e01
    injection e01 with e1 _ e3
    subst e1;subst e3;have nx:Hid ((fs ++ [(rs[i],Value.slice pu' rs[i].2.length cu')]).map (·.1)=rs.take (i + 1)):=by
     unfold Hid;rw [map_rn,hfs.out,List.take_add_one]
     congr 1
     rw [List.getElem?_eq_getElem hil];rfl
    have smx:Hid (rs[i].2.length≤20→(∀ z ∈ rs[i].2,z.length≤100)→SmL (rs.take (i + 1))):=fun h1 h2=>sm.out.next hil h1 h2
    have fl:fs.length=i:=by have h1:(fs.map (·.1)).length=fs.length:=List.length_map _; rw [hfs.out,List.length_take] at h1; omega
    have hf63:fs.length + 1≤maxLen:=by unfold maxLen; omega
    have hfby:(fs.length + 1) * 32≤140737488355328:=by omega
    generalize rs[i]=q at *;obtain ⟨ql,qw⟩:=q;simp only at k0 k1 ks m0 m1 ks' nx smx;obtain ⟨m,hm⟩:∃ m,qw.length=m:=⟨_,rfl⟩;rw [hm] at k1 ks m1 ks' nx smx;have hmh:Hid (qw.length=m):=hm;replace m0:Hid (w.cell? ⟨g1,o1 + i * 2,none⟩=some (.int .i64 ql)):=m0;replace m1:Hid (w.cell? ⟨g1,o1 + i * 2 + 1,none⟩=some (.slice pu' m cu')):=m1;replace ks':Hid (WdsAt w.heap.size w (.slice pu' m cu') qw):=ks';replace ks:Hid (WdsAt w.heap.size wr (.slice pu' m cu') qw):=ks;have sb:=st.out.b.size;have B1:Hid (Below w.heap.size w wr):=st.out.b;clear fl hm hil hfs sm
    by_cases h20:20 < m
    · have h20i:(20:Int) < (m:Int):=by omega
      clear st nx smx ks ks' m0 m1 hv;go_wp2;go_ret;exact ⟨rfl,B1.out⟩
    · have h20i:¬ (20:Int) < (m:Int):=by omega
      clear hv
      go_wp2_with fail
      go_loop [5] (fun vk=>∃ k:Nat,(k:Int)≤(m:Int)∧vk=.int .i64 (k:Int)∧Hid (∀ z ∈ qw.take k,z.length≤100)) (fun vk=>m - (intOf vk).toNat)
      case atStart=>exact ⟨0,by omega,rfl,fun z hz=>by simp at hz⟩
      case round=>
       obtain ⟨k,hk,rfl,lk⟩:=hrel
       by_cases hkl:k < m
       · have hkm:(k:Int) < (m:Int):=by omega
         have hkw:k < qw.length:=by have:=hmh.out; omega
         rcases ks.out with ⟨_,_,_,h⟩ | ⟨gw,ow,cw,e,_,hin,_⟩
         · rw [h] at hkw; cases hkw
         · injection e with e1 e2 e3
           subst e1;have cz:=hin k hkw;have zs:=txt_size qw[k];have nk:Hid (qw[k].length≤100→∀ z ∈ qw.take (k + 1),z.length≤100):=by
            intro h z hz;rw [List.take_add_one,List.getElem?_eq_getElem hkw] at hz;rcases List.mem_append.1 hz with hz | hz
            · exact lk.out z hz
            · have e:z=qw[k]:=by simpa using hz
              rw [e]; exact h
           generalize qw[k]=z at *
           by_cases h100:100 < z.length
           · have hb100:decide ((100:Int) < ((txt z).size:Int))=true:=decide_eq_true (by omega);clear lk nk hin st nx smx ks';generalize txt z=S at *;go_wp2;go_ret;exact ⟨rfl,B1.out⟩
           · have nk2:Hid (∀ z ∈ qw.take (k + 1),z.length≤100):=nk.out (by omega);have hb100:decide ((100:Int) < ((txt z).size:Int))=false:=decide_eq_false (by omega);clear lk nk hin;generalize txt z=S at *;go_wp2;exact ⟨⟨k + 1,by omega,by simp,nk2⟩,by simp [intOf]; omega⟩
       · obtain rfl:k=m:=by omega
         have sm2:Hid (SmL (rs.take (i + 1))):=smx.out (by omega) (by have:=lk.out; rwa [List.take_of_length_le (by have:=hmh.out; omega)] at this);clear lk ks smx
         go_upto_region 14 with fail
         go_region_held3 (fun x=>x.cell? ⟨g1,o1 + i * 2,none⟩=some (.int .i64 ql)∧x.cell? ⟨g1,o1 + i * 2 + 1,none⟩=some (.slice pu' k cu'))
          (first
           | go_keep
           | exact ⟨(st2.out.b.cell (p:=⟨g1,o1 + i * 2,none⟩) lt3).trans m0.out,(st2.out.b.cell (p:=⟨g1,o1 + i * 2 + 1,none⟩) lt3).trans m1.out⟩)
          ((refine step_append_lies _ (by rfl) _ _ _ (by rfl) w.heap.size 56 r0 (.agg #[.int .i64 0,.slice none 0 0]) 2 32 Tryz.underlying55 hri hr0 hr1 hr2 rfl (by omega) u3 fs.length (rnC fs) (by rfl) ((World.ownsRow.alloc st.out.ro _).drew)
              ⟨wr.heap.size,0,none⟩ 1 1 [.int .i64 ql,.slice pu' k cu'] (by rfl) (by rfl) (World.news_of_block (cs:=#[.int .i64 ql,.slice pu' k cu']) (t:=56) (fr:=(0,0)) (heap_alloc_new wr _)) (by simp [Value.oneCell'])
              (by omega) hf63 hfby (by simp; omega) (wr.heap.size + 1) (by simp) ?_; intro gg cap y hO gO hat hlt2; have st2:Hid (RnSt w y (.slice (some ⟨gg,0,none⟩) (fs.length + 1) cap) (fs ++ [((ql,qw),.slice pu' k cu')])):=RnSt.add ((World.ownsRow.alloc st.out.ro _).drew) st.out.st ((st.out.b.alloc sb _).drew) _ ks'.out hO gO))
         all_goals
          clear hO gO hat hlt2;go_wp2;exact ⟨⟨i + 1,_,by omega,by simp,st2,nx,sm2⟩,by simp [intOf]; omega⟩
  · obtain rfl:i=n1:=by omega
    have RM:=st.out.rows;rw [hfs.out,List.take_of_length_le (by have:=hlen.out; omega)] at RM;have sm3:SmL rs:=by have:=sm.out; rwa [List.take_of_length_le (by have:=hlen.out; omega)] at this
    have B4:Hid (Below w.heap.size w wr):=st.out.b;have lc:Hid (Calls Tryz.prog 20 #[u3] wr (LinesQ 33 wr (linesM rs))):=ln.out sm3 u3 wr RM;have rc:Hid (LwRC w (.slice p i cap) rs):=rd.out sm3;unfold LwRC at rc;generalize linesM rs=T at *;obtain ⟨L,P,E⟩:=T;simp only at f8;clear st hfs sm hv ln rd RM sm3 hlen
    go_wp2_with fail
    refine lc.out.mono ?_;rintro e y1 ⟨lv,ps,rfl,h1,h2,h3⟩;obtain ⟨pl,cl,rfl⟩:=h2.form;have B5:Hid (Below w.heap.size w y1):=B4.out.trans (h3.mono B4.out.size);have h1':Hid (ps.map (·.1)=L):=h1;have h2':Hid (DvsAt 33 y1 (.slice pl ps.length cl) ps):=h2;have rcy:Hid (Calls Tryz.prog 21 #[.slice p i cap] y1 (LinesQ 25 y1 (L,P,E))):=rc.out y1 B5.out;clear h1 h2 h3 lc rc B4
    go_wp2_with fail
    refine rcy.out.mono ?_;rintro e z ⟨lw,qs,rfl,k1,k2,k3⟩;obtain ⟨pr,cr,rfl⟩:=k2.form;have B6:Hid (Below w.heap.size w z):=B5.out.trans (k3.mono B5.out.size);have hm:qs.length=ps.length:=by
     have k4:=congrArg List.length (k1.trans h1'.out.symm)
     simpa using k4
    have D1:Hid (DvsAt 33 z (.slice pl ps.length cl) ps):=h2'.out.below k3;have D2:Hid (DvsAt 25 z (.slice pr qs.length cr) qs):=k2;have he:Hid (ps.map (·.1)=qs.map (·.1)):=h1'.out.trans k1.symm;have f9:Hid (∀ q ∈ ps,q.1.fs.length≤8):=fun q hq=>f8.out q.1 (by rw [← h1'.out]; exact List.mem_map.2 ⟨q,hq,rfl⟩)
    rw [hm] at D2 ⊢;have hmx:=D1.out.max;obtain ⟨m,hmm⟩:∃ m,ps.length=m:=⟨_,rfl⟩;rw [hmm] at D1 D2 hmx ⊢;have hp:Hid (ps.length=m):=hmm;have hq:Hid (qs.length=m):=hm.trans hmm;have hEE:(((E:Nat):Int) != ((E:Nat):Int))=false:=by simp
    have hPP:(P != P)=false:=by simp
    have hMM:(((m:Nat):Int) != ((m:Nat):Int))=false:=by simp
    clear k1 k2 k3 hm hmm rcy f8 h1' h2' B5
    go_wp2_with fail
    go_loopw [12] (fun vk wq=>∃ k:Nat,(k:Int)≤(m:Int)∧vk=.int .i64 (k:Int)∧Hid (Below z.heap.size z wq)) (fun vk _=>m - (intOf vk).toNat)
    case atStart=>exact ⟨0,by omega,rfl,Below.refl _ _⟩
    case round=>
     obtain ⟨k,hk,rfl,bz⟩:=hrel
     by_cases hkl:k < m
     · have hkm:(k:Int) < (m:Int):=by omega
       have hkp:k < ps.length:=by have:=hp.out; omega
       have hkq:k < qs.length:=by have:=hq.out; omega
       have D1w:=D1.out.below bz.out;have D2w:=D2.out.below bz.out;have sm:Hid (∀ y,Below wr.heap.size wr y→Calls Tryz.prog 15 #[dvV ps[k].1 ps[k].2.1 ps[k].2.2,dvV qs[k].1 qs[k].2.1 qs[k].2.2] y fun e y'=>e=.returned (.int .i64 1)∧Below y.heap.size y y'):=
        fun y hy=>dvs_same (D1w.below hy) (D2w.below hy) he.out hkp hkq (by have:=f9.out _ (List.getElem_mem hkp); omega)
       obtain ⟨g,rfl,hc1,x1⟩:=D1w.at hp.out hkp;obtain ⟨g',rfl,hc2,x2⟩:=D2w.at hq.out hkq;obtain ⟨pa,na,ca,ea⟩:=(D1w.fl _ (List.getElem_mem hkp)).1.form;obtain ⟨pb,nb,cb,eb⟩:=(D1w.fl _ (List.getElem_mem hkp)).2.form';obtain ⟨pc,nc,cc,ec⟩:=(D2w.fl _ (List.getElem_mem hkq)).1.form;obtain ⟨pd,nd,cd,ed⟩:=(D2w.fl _ (List.getElem_mem hkq)).2.form';clear D1w D2w;rw [ea,eb] at x1 sm;rw [ec,ed] at x2 sm;obtain ⟨l0,l1,l2,l3,l4,l5,l6,l7,l8,l9,l10,l11⟩:=row12 x1;obtain ⟨m0,m1,m2,m3,m4,m5,m6,m7,m8,m9,m10,m11⟩:=row12 x2;generalize ps[k].1=d at *;generalize qs[k].1=d' at *;clear x1 x2 ea eb ec ed
       go_upto_region 22 with fail
       have kl0:=cell_regrown l0;have km0:=cell_regrown m0;have kl1:=cell_regrown l1;have km1:=cell_regrown m1;have kl2:=cell_regrown l2;have km2:=cell_regrown m2;have kl3:=cell_regrown l3;have km3:=cell_regrown m3;have kl4:=cell_regrown l4;have km4:=cell_regrown m4;have kl5:=cell_regrown l5;have km5:=cell_regrown m5;have kl6:=cell_regrown l6;have km6:=cell_regrown m6;have kl7:=cell_regrown l7;have km7:=cell_regrown m7;have kl8:=cell_regrown l8;have km8:=cell_regrown m8;have kl9:=cell_regrown l9;have km9:=cell_regrown m9;have kl10:=cell_regrown l10;have km10:=cell_regrown m10;have kl11:=cell_regrown l11;have km11:=cell_regrown m11;refine wp_region_quiet_below (by kernel_rfl) (by kernel_rfl) ?_
       repeat (go_big_quiet_step (first
        | (go_at_call 15; with_reducible exact Calls.regrown_of (sm.out _ (below_regrown _ _ _)))))
       refine wpQuiet_nil ?_;intro _ hw';obtain ⟨⟨dq,osq⟩,hw''⟩:=hw';subst hw'';have bz2:Hid (Below z.heap.size z (Sort.grow (redrawn wr dq) osq)):=bz.out.trans ((below_regrown wr dq osq).mono bz.out.size);clear l0 m0 kl0 km0 l1 m1 kl1 km1 l2 m2 kl2 km2 l3 m3 kl3 km3 l4 m4 kl4 km4 l5 m5 kl5 km5 l6 m6 kl6 km6 l7 m7 kl7 km7 l8 m8 kl8 km8 l9 m9 kl9 km9 l10 m10 kl10 km10 l11 m11 kl11 km11 sm bz;generalize Sort.grow (redrawn wr dq) osq=w5 at *;go_wp2;exact ⟨⟨k + 1,by omega,by simp,bz2⟩,by simp [intOf]; omega⟩
     · obtain rfl:k=m:=by omega
       have BF:Hid (Below w.heap.size w wr):=B6.out.trans (bz.out.mono B6.out.size);go_wp2;go_ret;exact ⟨rfl,BF.out⟩
theorem showlines_any (P:LineP) (w:World) (T7:Tab7 w) (v:Value) (rs:List Lr) (hv:RowsC w.heap.size w v rs) (hn:(rs.length:Int)≤9223372036854775807) (hcap:∀ p m c,v=.slice p m c→m≤c) :
 Calls Tryz.prog 7 #[v] w fun e y=>e=.returned (.bool true)∧Below w.heap.size w y:=by
 have aw:Hid (ShAwC w):=shAwC T7;obtain ⟨p,cap,rfl⟩:=hv.form
 by_cases hl:80 < (rs.length:Int)
 · exact lw_long w aw p _ cap (decide_eq_true hl)
 · have bd:SmL rs→(rs.length:Int)≤4500∧(∀ r ∈ rs,(r.2.length:Int)≤4500)∧∀ r ∈ rs,∀ z ∈ r.2,(z.length:Int)≤5000:=fun h=>
    ⟨by omega,fun r hr=>by have:=(h r hr).1; omega,fun r hr z hz=>by have:=(h r hr).2 z hz; omega⟩
   exact lw_main w aw p _ cap rs hv rfl (decide_eq_false hl)
    (fun h v x hx=>lines_any v x rs hx (bd h).1 (bd h).2.1 (bd h).2.2)
    (fun h x hb=>rlines_any P _ x rs ((hv.below hb).up hb.size) (bd h).1 (bd h).2.1 (bd h).2.2 hcap) (devs_few (blkF rs))
theorem line_unknown (f:Wd) (a:List Wd) (d:Dv) (pf:Option Addr) (nf cf:Nat) (pq:Option Addr) (nq cq:Nat) (g o cap:Nat) (w:World) (hc:w.cell? ⟨g,o,none⟩=some (.string (txt f))) (hl:(a.length:Int)≤5000) (hk:knownB f=false) (vs:Value) (seen:List Wd) :
 Calls Tryz.prog 33 #[dvV d (.slice pf nf cf) (.slice pq nq cq),.slice (some ⟨g,o,none⟩) (a.length + 1) cap,vs] w (LineQ w d (.slice pf nf cf) (.slice pq nq cq) seen (f :: a)):=by
 have m0:=lineM_first w d (.slice pf nf cf) (.slice pq nq cq);have n0:((a.length:Int) + 1 == 0)=false:=beq_eq_false_iff_ne.2 (by omega);have e6:Hid (stepM d seen (f :: a)=.error 6):=by unfold Hid stepM; simp only [hk]; rfl
 go_enter Tryz.func33,Tryz.ntmps33
 go_upto_region 5 with fail
 change Code.wp Tryz.prog _ _ _ (LineW w d (.slice pf nf cf) (.slice pq nq cq));have LM0:Hid (LineM w (LineW w d (.slice pf nf cf) (.slice pq nq cq)) d (.slice pf nf cf) (.slice pq nq cq)):=m0.1;have lc0:Hid (∀ (i:Nat) (h:i < 11),(LineW w d (.slice pf nf cf) (.slice pq nq cq)).cell? ⟨w.heap.size + 1 + 1,i,none⟩=some (.string (txt (allK[i]'h)))):=fun i h=>(rd_cell m0.2 i).1.trans (allC_at i h)
 have hc0:Hid ((LineW w d (.slice pf nf cf) (.slice pq nq cq)).cell? ⟨g,o,none⟩=some (.string (txt f))):=kp m0.1.b hc;clear m0 hc;generalize LineW w d (.slice pf nf cf) (.slice pq nq cq)=x0 at *;go_wp2
 go_loopw [8,10] (fun vk vi wr=>∃ n k:Nat,(k:Int)≤11∧wr=x0.drewN n∧vi=.int .i64 (k:Int)∧vk=.bool (decide (f ∈ allK.take k))) (fun vk vi wr=>(11 - intOf vi).toNat)
 case atStart=>exact ⟨0,0,by omega,rfl,rfl,by simp⟩
 case round=>
  obtain ⟨n,k,hk11,rfl,rfl,rfl⟩:=hrel
  by_cases hlt:k < 11
  · have hki:(k:Int) < 11:=by omega
    have st:=allK_step f k hlt;have l1:=lc0.out k hlt;have l2:=hc0.out;have wk:IntKind.i64.wrap ((k:Int) + 1)=(k:Int) + 1:=by simp only [IntKind.wrap_i64]; omega
    have cmp:(txt (allK[k]'hlt) == txt f)=decide (allK[k]'hlt=f):=txt_beq _ _;generalize allK[k]'hlt=ak at *;clear lc0 hc0 LM0
    cases hd:decide (f ∈ allK.take k)
    · rw [hd,Bool.false_or] at st;have c2:((txt ak).toList == (txt f).toList)=decide (ak=f):=by
       rw [Bool.eq_iff_iff,decide_eq_true_iff,beq_iff_eq,ByteArray.toList_eq,ByteArray.toList_eq];exact ⟨fun h=>h,fun h=>by rw [h]⟩
      generalize decide (ak=f)=R at *
      go_wp2_with fail
      go_quiet (fail)
      go_wp2;exact ⟨⟨n + nq,k + 1,by omega,rfl,by simp,by rw [st]⟩,by simp [intOf]; omega⟩
    · rw [hd,Bool.true_or] at st
      go_wp2_with fail
      go_quiet (fail)
      go_wp2;exact ⟨⟨n + nq,k + 1,by omega,rfl,by simp,by rw [st]⟩,by simp [intOf]; omega⟩
  · obtain rfl:k=11:=by omega
    rw [allK_mem,hk];have LM:Hid (LineM w (x0.drewN n) d (.slice pf nf cf) (.slice pq nq cq)):=LM0.out.below (below_drewN (Below.refl _ _) n);generalize x0.drewN n=y at *;have d0:=(LM.out.cells.1 0 _ rfl).1;have d1:=(LM.out.cells.1 1 _ rfl).1;have d2:=(LM.out.cells.1 2 _ rfl).1;have d3:=(LM.out.cells.1 3 _ rfl).1;have d4:=(LM.out.cells.1 4 _ rfl).1;have d5:=(LM.out.cells.1 5 _ rfl).1;have d6:=(LM.out.cells.1 6 _ rfl).1;have d7:=(LM.out.cells.1 7 _ rfl).1;have d8:=(LM.out.cells.1 8 _ rfl).1;have d9:=(LM.out.cells.1 9 _ rfl).1;have d10:=(LM.out.cells.1 10 _ rfl).1;have d11:=(LM.out.cells.1 11 _ rfl).1;obtain ⟨z0,y0⟩:=LM.out.cells.2 0 _ rfl;obtain ⟨z1,y1⟩:=LM.out.cells.2 1 _ rfl;obtain ⟨z2,y2⟩:=LM.out.cells.2 2 _ rfl;obtain ⟨z3,y3⟩:=LM.out.cells.2 3 _ rfl;obtain ⟨z4,y4⟩:=LM.out.cells.2 4 _ rfl;obtain ⟨z5,y5⟩:=LM.out.cells.2 5 _ rfl;obtain ⟨z6,y6⟩:=LM.out.cells.2 6 _ rfl;obtain ⟨z7,y7⟩:=LM.out.cells.2 7 _ rfl;obtain ⟨z8,y8⟩:=LM.out.cells.2 8 _ rfl;obtain ⟨z9,y9⟩:=LM.out.cells.2 9 _ rfl;obtain ⟨z10,y10⟩:=LM.out.cells.2 10 _ rfl;obtain ⟨z11,y11⟩:=LM.out.cells.2 11 _ rfl;clear LM0 lc0 hc0;go_wp2;change bodyPost _ _ _ _ _ (putD y (w.heap.size + 1) d (.slice pf nf cf) (.slice pq nq cq));have pa:=putD_at (y:=y) LM.out.rc d (.slice pf nf cf) (.slice pq nq cq);have pb:=putD_below LM.out.b (show w.heap.size≤w.heap.size + 1 by omega) d (.slice pf nf cf) (.slice pq nq cq);generalize putD y (w.heap.size + 1) d (.slice pf nf cf) (.slice pq nq cq)=yy at *;refine bodyPost_ret (res_dev2 Tryz.results33 rfl rfl pa) rfl ?_;exact ⟨d,pf,nf,cf,pq,nq,cq,by rw [e6.out]; rfl,pb,fun d' hd=>by rw [e6.out] at hd; cases hd⟩
theorem line_dev (a:List Wd) (d:Dv) (pf:Option Addr) (nf cf:Nat) (pq:Option Addr) (mq cq:Nat) (g o cap:Nat) (w:World) (hi:StrsIn w g o (kDev :: a)) (hgw:g < w.heap.size) (hl:(a.length:Int)≤5000) (hz:∀ z ∈ a,(z.length:Int)≤5000) (ps:Option Addr) (cs:Nat) (seen:List Wd) (hs:StrsAt w (.slice ps seen.length cs) seen) (hsl:(seen.length:Int)≤5000) (hfl:FldsAt w (.slice pf nf cf) d.fs) (hrq:BytesAt w (.slice pq mq cq) d.rq) :
 Calls Tryz.prog 33 #[dvV d (.slice pf nf cf) (.slice pq mq cq),.slice (some ⟨g,o,none⟩) (a.length + 1) cap,.slice ps seen.length cs] w (LineQ w d (.slice pf nf cf) (.slice pq mq cq) seen (kDev :: a)):=by
 have m0:=lineM_first w d (.slice pf nf cf) (.slice pq mq cq);have n0:((a.length:Int) + 1 == 0)=false:=beq_eq_false_iff_ne.2 (by omega);have FQ0:Hid (FldsAt w (.slice pf nf cf) d.fs∧BytesAt w (.slice pq mq cq) d.rq):=⟨hfl,hrq⟩;have wi:Hid (StrsIn w g o (kDev :: a)):=hi;replace hs:Hid (StrsAt w (.slice ps seen.length cs) seen):=hs;replace hz:Hid (∀ z ∈ a,(z.length:Int)≤5000):=hz;obtain ⟨sl,hsl2⟩:∃ sl,seen.length=sl:=⟨_,rfl⟩;rw [hsl2] at hs hsl ⊢;replace hsl2:Hid (seen.length=sl):=hsl2;clear hfl hrq hi
 go_enter Tryz.func33,Tryz.ntmps33
 go_upto_region 5 with fail
 change Code.wp Tryz.prog _ _ _ (LineW w d (.slice pf nf cf) (.slice pq mq cq));have LM0:Hid (LineM w (LineW w d (.slice pf nf cf) (.slice pq mq cq)) d (.slice pf nf cf) (.slice pq mq cq)):=m0.1;have lc0:Hid (∀ (i:Nat) (h:i < 11),(LineW w d (.slice pf nf cf) (.slice pq mq cq)).cell? ⟨w.heap.size + 1 + 1,i,none⟩=some (.string (txt (allK[i]'h)))):=fun i h=>(rd_cell m0.2 i).1.trans (allC_at i h)
 have hc0:(LineW w d (.slice pf nf cf) (.slice pq mq cq)).cell? ⟨g,o,none⟩=some (.string ⟨#[100,101,118,105,99,101]⟩):=kp m0.1.b (wi.out 0 (by simp));clear m0;generalize LineW w d (.slice pf nf cf) (.slice pq mq cq)=x0 at *;go_wp2
 go_loopw [8,10] (fun vk vi wr=>∃ n k:Nat,(k:Int)≤11∧wr=x0.drewN n∧vi=.int .i64 (k:Int)∧vk=.bool (decide (kDev ∈ allK.take k))) (fun vk vi wr=>(11 - intOf vi).toNat)
 case atStart=>exact ⟨0,0,by omega,rfl,rfl,by simp⟩
 case round=>
  obtain ⟨n,k,hk11,rfl,rfl,rfl⟩:=hrel
  by_cases hlt:k < 11
  · have hki:(k:Int) < 11:=by omega
    have st:=allK_step kDev k hlt;have l1:=lc0.out k hlt;have wk:IntKind.i64.wrap ((k:Int) + 1)=(k:Int) + 1:=by simp only [IntKind.wrap_i64]; omega
    have cmp:(txt (allK[k]'hlt) == ⟨#[100,101,118,105,99,101]⟩)=decide (allK[k]'hlt=kDev):=txt_beq _ kDev;generalize allK[k]'hlt=ak at *;clear lc0 LM0
    cases hd:decide (kDev ∈ allK.take k)
    · rw [hd,Bool.false_or] at st;have c2:((txt ak).toList == [100,101,118,105,99,101])=decide (ak=kDev):=by
       rw [Bool.eq_iff_iff,decide_eq_true_iff,beq_iff_eq,ByteArray.toList_eq];exact ⟨fun h=>h,fun h=>by rw [h]; rfl⟩
      generalize decide (ak=kDev)=R at *
      go_wp2_with fail
      go_quiet (fail)
      go_wp2;exact ⟨⟨n + nq,k + 1,by omega,rfl,by simp,by rw [st]⟩,by simp [intOf]; omega⟩
    · rw [hd,Bool.true_or] at st
      go_wp2_with fail
      go_quiet (fail)
      go_wp2;exact ⟨⟨n + nq,k + 1,by omega,rfl,by simp,by rw [st]⟩,by simp [intOf]; omega⟩
  · obtain rfl:k=11:=by omega
    rw [allK_mem,show knownB kDev=true from rfl];clear lc0;go_wp2
    go_loopw [11] (fun vi wr=>∃ n k:Nat,(k:Int)≤(sl:Int)∧wr=x0.drewN n∧vi=.int .i64 (k:Int)∧Hid (∀ j (h:j < seen.length),j < k→¬ seen[j]=kDev)) (fun vi wr=>((sl:Int) - intOf vi).toNat)
    case atStart=>exact ⟨n,0,by omega,rfl,rfl,fun j _ h=>(by cases h)⟩
    case round=>
     obtain ⟨n,k,hk,rfl,rfl,no⟩:=hrel
     by_cases hlt:k < sl
     · have hki:(k:Int) < (sl:Int):=by omega
       have hks:k < seen.length:=by have:=hsl2.out; omega
       rcases hs.out with ⟨_,hnil⟩ | ⟨gs,os,cs',e1,hin,hgs⟩
       · rw [hnil] at hks; cases hks
       injection e1 with e1 e2 e3
       subst e1;subst e3;clear e2;have l1:=kp LM0.out.b (hin k hks);have wk:IntKind.i64.wrap ((k:Int) + 1)=(k:Int) + 1:=by simp only [IntKind.wrap_i64]; omega
       obtain ⟨ak,hak⟩:∃ ak,seen[k]=ak:=⟨_,rfl⟩;rw [hak] at l1;have cmp:(txt ak == ⟨#[100,101,118,105,99,101]⟩)=decide (ak=kDev):=txt_beq _ kDev;have c2:((txt ak).toList == [100,101,118,105,99,101])=decide (ak=kDev):=by
        rw [Bool.eq_iff_iff,decide_eq_true_iff,beq_iff_eq,ByteArray.toList_eq];exact ⟨fun h=>h,fun h=>by rw [h]; rfl⟩
       cases hd:decide (ak=kDev)
       · rw [hd] at cmp c2;have no2:Hid (∀ j (h:j < seen.length),j < k + 1→¬ seen[j]=kDev):=fun j h hj=>by
          by_cases hjk:j=k
          · subst hjk; rw [hak]; simpa using hd
          · exact no.out j h (by omega)
         clear hin hak no hd LM0
         go_wp2_with fail
         go_quiet (fail)
         go_wp2;exact ⟨⟨n + nq,k + 1,by omega,rfl,by simp,no2⟩,by simp [intOf]; omega⟩
       · rw [hd] at cmp c2;have e8:Hid (stepM d seen (kDev :: a)=.error 8):=by
          have hm:kDev ∈ seen:=by
           have:ak=kDev:=by simpa using hd
           rw [← this,← hak]; exact List.getElem_mem hks
          unfold Hid stepM;simp only [show knownB kDev=true from rfl];rw [if_neg (by decide),if_pos ⟨by decide,hm⟩]
         clear hin hak no hd
         go_wp2_with fail
         go_quiet (fail)
         go_upto_region 15 with fail
         have LM:Hid (LineM w ((x0.drewN n).drewN nq) d (.slice pf nf cf) (.slice pq mq cq)):=LM0.out.below (below_drewN (below_drewN (Below.refl _ _) _) _);generalize (x0.drewN n).drewN nq=y at *;obtain ⟨dc0,df0⟩:=LM.out.cells.1 0 _ rfl;obtain ⟨dc1,df1⟩:=LM.out.cells.1 1 _ rfl;obtain ⟨dc2,df2⟩:=LM.out.cells.1 2 _ rfl;obtain ⟨dc3,df3⟩:=LM.out.cells.1 3 _ rfl;obtain ⟨dc4,df4⟩:=LM.out.cells.1 4 _ rfl;obtain ⟨dc5,df5⟩:=LM.out.cells.1 5 _ rfl;obtain ⟨dc6,df6⟩:=LM.out.cells.1 6 _ rfl;obtain ⟨dc7,df7⟩:=LM.out.cells.1 7 _ rfl;obtain ⟨dc8,df8⟩:=LM.out.cells.1 8 _ rfl;obtain ⟨dc9,df9⟩:=LM.out.cells.1 9 _ rfl;obtain ⟨dc10,df10⟩:=LM.out.cells.1 10 _ rfl;obtain ⟨dc11,df11⟩:=LM.out.cells.1 11 _ rfl;obtain ⟨zc0,zf0⟩:=LM.out.cells.2 0 _ rfl;obtain ⟨zc1,zf1⟩:=LM.out.cells.2 1 _ rfl;obtain ⟨zc2,zf2⟩:=LM.out.cells.2 2 _ rfl;obtain ⟨zc3,zf3⟩:=LM.out.cells.2 3 _ rfl;obtain ⟨zc4,zf4⟩:=LM.out.cells.2 4 _ rfl;obtain ⟨zc5,zf5⟩:=LM.out.cells.2 5 _ rfl;obtain ⟨zc6,zf6⟩:=LM.out.cells.2 6 _ rfl;obtain ⟨zc7,zf7⟩:=LM.out.cells.2 7 _ rfl;obtain ⟨zc8,zf8⟩:=LM.out.cells.2 8 _ rfl;obtain ⟨zc9,zf9⟩:=LM.out.cells.2 9 _ rfl;obtain ⟨zc10,zf10⟩:=LM.out.cells.2 10 _ rfl;obtain ⟨zc11,zf11⟩:=LM.out.cells.2 11 _ rfl;clear LM0;go_wp2;change bodyPost _ _ _ _ _ (putD y (w.heap.size + 1) d (.slice pf nf cf) (.slice pq mq cq));have pa:=putD_at (y:=y) LM.out.rc d (.slice pf nf cf) (.slice pq mq cq);have pb:=putD_below LM.out.b (show w.heap.size≤w.heap.size + 1 by omega) d (.slice pf nf cf) (.slice pq mq cq);generalize putD y (w.heap.size + 1) d (.slice pf nf cf) (.slice pq mq cq)=yy at *;refine bodyPost_ret (res_dev2 Tryz.results33 rfl rfl pa) rfl ?_;exact ⟨d,pf,nf,cf,pq,mq,cq,by rw [e8.out]; rfl,pb,fun d' hd=>by rw [e8.out] at hd; cases hd⟩
     · obtain rfl:k=sl:=by omega
       have hns:¬ kDev ∈ seen:=fun hm=>by
        obtain ⟨j,hj,hj2⟩:=List.mem_iff_getElem.1 hm;exact no.out j hj (by have:=hsl2.out; omega) hj2
       have st:Hid (stepM d seen (kDev :: a)=match updM kDev a with | none=>.error 6 | some u=>.ok (u d)):=step_nf rfl (by decide) hns;have LM:Hid (LineM w (x0.drewN n) d (.slice pf nf cf) (.slice pq mq cq)):=LM0.out.below (below_drewN (Below.refl _ _) _);have hcy:(x0.drewN n).cell? ⟨g,o,none⟩=some (.string ⟨#[100,101,118,105,99,101]⟩):=hc0;generalize x0.drewN n=y at *;obtain ⟨dc0,df0⟩:=LM.out.cells.1 0 _ rfl;obtain ⟨dc1,df1⟩:=LM.out.cells.1 1 _ rfl;obtain ⟨dc2,df2⟩:=LM.out.cells.1 2 _ rfl;obtain ⟨dc3,df3⟩:=LM.out.cells.1 3 _ rfl;obtain ⟨dc4,df4⟩:=LM.out.cells.1 4 _ rfl;obtain ⟨dc5,df5⟩:=LM.out.cells.1 5 _ rfl;obtain ⟨dc6,df6⟩:=LM.out.cells.1 6 _ rfl;obtain ⟨dc7,df7⟩:=LM.out.cells.1 7 _ rfl;obtain ⟨dc8,df8⟩:=LM.out.cells.1 8 _ rfl;obtain ⟨dc9,df9⟩:=LM.out.cells.1 9 _ rfl;obtain ⟨dc10,df10⟩:=LM.out.cells.1 10 _ rfl;obtain ⟨dc11,df11⟩:=LM.out.cells.1 11 _ rfl;obtain ⟨zc0,zf0⟩:=LM.out.cells.2 0 _ rfl;obtain ⟨zc1,zf1⟩:=LM.out.cells.2 1 _ rfl;obtain ⟨zc2,zf2⟩:=LM.out.cells.2 2 _ rfl;obtain ⟨zc3,zf3⟩:=LM.out.cells.2 3 _ rfl;obtain ⟨zc4,zf4⟩:=LM.out.cells.2 4 _ rfl;obtain ⟨zc5,zf5⟩:=LM.out.cells.2 5 _ rfl;obtain ⟨zc6,zf6⟩:=LM.out.cells.2 6 _ rfl;obtain ⟨zc7,zf7⟩:=LM.out.cells.2 7 _ rfl;obtain ⟨zc8,zf8⟩:=LM.out.cells.2 8 _ rfl;obtain ⟨zc9,zf9⟩:=LM.out.cells.2 9 _ rfl;obtain ⟨zc10,zf10⟩:=LM.out.cells.2 10 _ rfl;obtain ⟨zc11,zf11⟩:=LM.out.cells.2 11 _ rfl;clear LM0 no hns hc0
       by_cases h1:a.length=1
       · obtain ⟨z,rfl⟩:=len_one h1;have hc1:y.cell? ⟨g,o + 1,none⟩=some (.string (txt z)):=kp LM.out.b (wi.out 1 (by simp));have fn:Hid (∀ w,Calls Tryz.prog 25 #[.string (txt z)] w fun e w'=>e=.returned (.bool (nameB z))∧w'=w):=fun w=>rname_any (txt z) w
         have hm:updM kDev [z]=if nameB z=true then some (fun d=>{ d with nm:=z }) else none:=rfl;rw [hm] at st
         cases hN:nameB z
         · rw [hN] at fn st;replace st:Hid (stepM d seen [kDev,z]=.error 6):=st
           go_wp2_with fail
           refine (fn.out _).mono ?_;rintro e yA ⟨rfl,rfl⟩;clear fn;go_wp2;change bodyPost _ _ _ _ _ (putD yA (w.heap.size + 1) d (.slice pf nf cf) (.slice pq mq cq));have pa:=putD_at (y:=yA) LM.out.rc d (.slice pf nf cf) (.slice pq mq cq);have pb:=putD_below LM.out.b (show w.heap.size≤w.heap.size + 1 by omega) d (.slice pf nf cf) (.slice pq mq cq);generalize putD yA (w.heap.size + 1) d (.slice pf nf cf) (.slice pq mq cq)=yy at *;refine bodyPost_ret (res_dev2 Tryz.results33 rfl rfl pa) rfl ?_;exact ⟨d,pf,nf,cf,pq,mq,cq,by rw [st.out]; rfl,pb,fun d' hd=>by rw [st.out] at hd; cases hd⟩
         · rw [hN] at fn st;replace st:Hid (stepM d seen [kDev,z]=.ok { d with nm:=z }):=st
           go_wp2_with fail
           refine (fn.out _).mono ?_;rintro e yA ⟨rfl,rfl⟩;clear fn;go_wp2;have LR:(yA.setCell ⟨w.heap.size,0,none⟩ (.string (txt z))).heap[w.heap.size + 1]?=some (.cells dz 25 (0,0)):=(Below.heap_setCell _ _ _ _ (show w.heap.size + 1 ≠ w.heap.size by omega)).trans LM.out.rc;have LB:Below w.heap.size w (yA.setCell ⟨w.heap.size,0,none⟩ (.string (txt z))):=LM.out.b.setCell (p:=⟨w.heap.size,0,none⟩) (Nat.le_refl _) _;generalize (yA.setCell ⟨w.heap.size,0,none⟩ (.string (txt z)))=y2 at *;change bodyPost _ _ _ _ _ (put12 y2 (w.heap.size + 1) (.string (txt z)) (.int .i64 d.st) (.int .i64 d.es) (.int .i64 d.mx) (.int .i64 d.sz) (.string (txt d.sm)) (.slice pf nf cf) (.slice pq mq cq) (.int .i64 d.po) (.int .i64 d.ti) (.int .i64 d.re) (.int .i64 d.ag));have pa:=put12_at (y:=y2) LR (.string (txt z)) (.int .i64 d.st) (.int .i64 d.es) (.int .i64 d.mx) (.int .i64 d.sz) (.string (txt d.sm)) (.slice pf nf cf) (.slice pq mq cq) (.int .i64 d.po) (.int .i64 d.ti) (.int .i64 d.re) (.int .i64 d.ag);have pb:=put12_below LB (show w.heap.size≤w.heap.size + 1 by omega) (.string (txt z)) (.int .i64 d.st) (.int .i64 d.es) (.int .i64 d.mx) (.int .i64 d.sz) (.string (txt d.sm)) (.slice pf nf cf) (.slice pq mq cq) (.int .i64 d.po) (.int .i64 d.ti) (.int .i64 d.re) (.int .i64 d.ag);have FQ2:=fq_put FQ0.out LB (show w.heap.size≤w.heap.size + 1 by omega) (.string (txt z)) (.int .i64 d.st) (.int .i64 d.es) (.int .i64 d.mx) (.int .i64 d.sz) (.string (txt d.sm)) (.slice pf nf cf) (.slice pq mq cq) (.int .i64 d.po) (.int .i64 d.ti) (.int .i64 d.re) (.int .i64 d.ag);generalize put12 y2 (w.heap.size + 1) (.string (txt z)) (.int .i64 d.st) (.int .i64 d.es) (.int .i64 d.mx) (.int .i64 d.sz) (.string (txt d.sm)) (.slice pf nf cf) (.slice pq mq cq) (.int .i64 d.po) (.int .i64 d.ti) (.int .i64 d.re) (.int .i64 d.ag)=yy at *;refine bodyPost_ret (res_dev2 Tryz.results33 rfl rfl pa) rfl ?_;refine ⟨{ d with nm:=z },pf,nf,cf,pq,mq,cq,by rw [st.out]; rfl,pb,fun d' hd=>?_⟩;rw [st.out] at hd
           cases hd
           exact ⟨rfl,FQ2.1,FQ2.2,.inl rfl,.inl rfl⟩
       · have n2:((a.length:Int) + 1 != 2)=true:=bne_iff_ne.2 (by omega);have hm:updM kDev a=none:=mName_len h1 _;rw [hm] at st;replace st:Hid (stepM d seen (kDev :: a)=.error 6):=st;go_wp2;change bodyPost _ _ _ _ _ (putD y (w.heap.size + 1) d (.slice pf nf cf) (.slice pq mq cq));have pa:=putD_at (y:=y) LM.out.rc d (.slice pf nf cf) (.slice pq mq cq);have pb:=putD_below LM.out.b (show w.heap.size≤w.heap.size + 1 by omega) d (.slice pf nf cf) (.slice pq mq cq);generalize putD y (w.heap.size + 1) d (.slice pf nf cf) (.slice pq mq cq)=yy at *;refine bodyPost_ret (res_dev2 Tryz.results33 rfl rfl pa) rfl ?_;exact ⟨d,pf,nf,cf,pq,mq,cq,by rw [st.out]; rfl,pb,fun d' hd=>by rw [st.out] at hd; cases hd⟩
theorem line_sta (a:List Wd) (d:Dv) (pf:Option Addr) (nf cf:Nat) (pq:Option Addr) (mq cq:Nat) (g o cap:Nat) (w:World) (hi:StrsIn w g o (kSta :: a)) (hgw:g < w.heap.size) (hl:(a.length:Int)≤5000) (hz:∀ z ∈ a,(z.length:Int)≤5000) (ps:Option Addr) (cs:Nat) (seen:List Wd) (hs:StrsAt w (.slice ps seen.length cs) seen) (hsl:(seen.length:Int)≤5000) (hfl:FldsAt w (.slice pf nf cf) d.fs) (hrq:BytesAt w (.slice pq mq cq) d.rq) :
 Calls Tryz.prog 33 #[dvV d (.slice pf nf cf) (.slice pq mq cq),.slice (some ⟨g,o,none⟩) (a.length + 1) cap,.slice ps seen.length cs] w (LineQ w d (.slice pf nf cf) (.slice pq mq cq) seen (kSta :: a)):=by
 have m0:=lineM_first w d (.slice pf nf cf) (.slice pq mq cq);have n0:((a.length:Int) + 1 == 0)=false:=beq_eq_false_iff_ne.2 (by omega);have FQ0:Hid (FldsAt w (.slice pf nf cf) d.fs∧BytesAt w (.slice pq mq cq) d.rq):=⟨hfl,hrq⟩;have wi:Hid (StrsIn w g o (kSta :: a)):=hi;replace hs:Hid (StrsAt w (.slice ps seen.length cs) seen):=hs;replace hz:Hid (∀ z ∈ a,(z.length:Int)≤5000):=hz;obtain ⟨sl,hsl2⟩:∃ sl,seen.length=sl:=⟨_,rfl⟩;rw [hsl2] at hs hsl ⊢;replace hsl2:Hid (seen.length=sl):=hsl2;clear hfl hrq hi
 go_enter Tryz.func33,Tryz.ntmps33
 go_upto_region 5 with fail
 change Code.wp Tryz.prog _ _ _ (LineW w d (.slice pf nf cf) (.slice pq mq cq));have LM0:Hid (LineM w (LineW w d (.slice pf nf cf) (.slice pq mq cq)) d (.slice pf nf cf) (.slice pq mq cq)):=m0.1;have lc0:Hid (∀ (i:Nat) (h:i < 11),(LineW w d (.slice pf nf cf) (.slice pq mq cq)).cell? ⟨w.heap.size + 1 + 1,i,none⟩=some (.string (txt (allK[i]'h)))):=fun i h=>(rd_cell m0.2 i).1.trans (allC_at i h)
 have hc0:(LineW w d (.slice pf nf cf) (.slice pq mq cq)).cell? ⟨g,o,none⟩=some (.string ⟨#[115,116,97,114,116]⟩):=kp m0.1.b (wi.out 0 (by simp));clear m0;generalize LineW w d (.slice pf nf cf) (.slice pq mq cq)=x0 at *;go_wp2
 go_loopw [8,10] (fun vk vi wr=>∃ n k:Nat,(k:Int)≤11∧wr=x0.drewN n∧vi=.int .i64 (k:Int)∧vk=.bool (decide (kSta ∈ allK.take k))) (fun vk vi wr=>(11 - intOf vi).toNat)
 case atStart=>exact ⟨0,0,by omega,rfl,rfl,by simp⟩
 case round=>
  obtain ⟨n,k,hk11,rfl,rfl,rfl⟩:=hrel
  by_cases hlt:k < 11
  · have hki:(k:Int) < 11:=by omega
    have st:=allK_step kSta k hlt;have l1:=lc0.out k hlt;have wk:IntKind.i64.wrap ((k:Int) + 1)=(k:Int) + 1:=by simp only [IntKind.wrap_i64]; omega
    have cmp:(txt (allK[k]'hlt) == ⟨#[115,116,97,114,116]⟩)=decide (allK[k]'hlt=kSta):=txt_beq _ kSta;generalize allK[k]'hlt=ak at *;clear lc0 LM0
    cases hd:decide (kSta ∈ allK.take k)
    · rw [hd,Bool.false_or] at st;have c2:((txt ak).toList == [115,116,97,114,116])=decide (ak=kSta):=by
       rw [Bool.eq_iff_iff,decide_eq_true_iff,beq_iff_eq,ByteArray.toList_eq];exact ⟨fun h=>h,fun h=>by rw [h]; rfl⟩
      generalize decide (ak=kSta)=R at *
      go_wp2_with fail
      go_quiet (fail)
      go_wp2;exact ⟨⟨n + nq,k + 1,by omega,rfl,by simp,by rw [st]⟩,by simp [intOf]; omega⟩
    · rw [hd,Bool.true_or] at st
      go_wp2_with fail
      go_quiet (fail)
      go_wp2;exact ⟨⟨n + nq,k + 1,by omega,rfl,by simp,by rw [st]⟩,by simp [intOf]; omega⟩
  · obtain rfl:k=11:=by omega
    rw [allK_mem,show knownB kSta=true from rfl];clear lc0;go_wp2
    go_loopw [11] (fun vi wr=>∃ n k:Nat,(k:Int)≤(sl:Int)∧wr=x0.drewN n∧vi=.int .i64 (k:Int)∧Hid (∀ j (h:j < seen.length),j < k→¬ seen[j]=kSta)) (fun vi wr=>((sl:Int) - intOf vi).toNat)
    case atStart=>exact ⟨n,0,by omega,rfl,rfl,fun j _ h=>(by cases h)⟩
    case round=>
     obtain ⟨n,k,hk,rfl,rfl,no⟩:=hrel
     by_cases hlt:k < sl
     · have hki:(k:Int) < (sl:Int):=by omega
       have hks:k < seen.length:=by have:=hsl2.out; omega
       rcases hs.out with ⟨_,hnil⟩ | ⟨gs,os,cs',e1,hin,hgs⟩
       · rw [hnil] at hks; cases hks
       injection e1 with e1 e2 e3
       subst e1;subst e3;clear e2;have l1:=kp LM0.out.b (hin k hks);have wk:IntKind.i64.wrap ((k:Int) + 1)=(k:Int) + 1:=by simp only [IntKind.wrap_i64]; omega
       obtain ⟨ak,hak⟩:∃ ak,seen[k]=ak:=⟨_,rfl⟩;rw [hak] at l1;have cmp:(txt ak == ⟨#[115,116,97,114,116]⟩)=decide (ak=kSta):=txt_beq _ kSta;have c2:((txt ak).toList == [115,116,97,114,116])=decide (ak=kSta):=by
        rw [Bool.eq_iff_iff,decide_eq_true_iff,beq_iff_eq,ByteArray.toList_eq];exact ⟨fun h=>h,fun h=>by rw [h]; rfl⟩
       cases hd:decide (ak=kSta)
       · rw [hd] at cmp c2;have no2:Hid (∀ j (h:j < seen.length),j < k + 1→¬ seen[j]=kSta):=fun j h hj=>by
          by_cases hjk:j=k
          · subst hjk; rw [hak]; simpa using hd
          · exact no.out j h (by omega)
         clear hin hak no hd LM0
         go_wp2_with fail
         go_quiet (fail)
         go_wp2;exact ⟨⟨n + nq,k + 1,by omega,rfl,by simp,no2⟩,by simp [intOf]; omega⟩
       · rw [hd] at cmp c2;have e8:Hid (stepM d seen (kSta :: a)=.error 8):=by
          have hm:kSta ∈ seen:=by
           have:ak=kSta:=by simpa using hd
           rw [← this,← hak]; exact List.getElem_mem hks
          unfold Hid stepM;simp only [show knownB kSta=true from rfl];rw [if_neg (by decide),if_pos ⟨by decide,hm⟩]
         clear hin hak no hd
         go_wp2_with fail
         go_quiet (fail)
         go_upto_region 15 with fail
         have LM:Hid (LineM w ((x0.drewN n).drewN nq) d (.slice pf nf cf) (.slice pq mq cq)):=LM0.out.below (below_drewN (below_drewN (Below.refl _ _) _) _);generalize (x0.drewN n).drewN nq=y at *;obtain ⟨dc0,df0⟩:=LM.out.cells.1 0 _ rfl;obtain ⟨dc1,df1⟩:=LM.out.cells.1 1 _ rfl;obtain ⟨dc2,df2⟩:=LM.out.cells.1 2 _ rfl;obtain ⟨dc3,df3⟩:=LM.out.cells.1 3 _ rfl;obtain ⟨dc4,df4⟩:=LM.out.cells.1 4 _ rfl;obtain ⟨dc5,df5⟩:=LM.out.cells.1 5 _ rfl;obtain ⟨dc6,df6⟩:=LM.out.cells.1 6 _ rfl;obtain ⟨dc7,df7⟩:=LM.out.cells.1 7 _ rfl;obtain ⟨dc8,df8⟩:=LM.out.cells.1 8 _ rfl;obtain ⟨dc9,df9⟩:=LM.out.cells.1 9 _ rfl;obtain ⟨dc10,df10⟩:=LM.out.cells.1 10 _ rfl;obtain ⟨dc11,df11⟩:=LM.out.cells.1 11 _ rfl;obtain ⟨zc0,zf0⟩:=LM.out.cells.2 0 _ rfl;obtain ⟨zc1,zf1⟩:=LM.out.cells.2 1 _ rfl;obtain ⟨zc2,zf2⟩:=LM.out.cells.2 2 _ rfl;obtain ⟨zc3,zf3⟩:=LM.out.cells.2 3 _ rfl;obtain ⟨zc4,zf4⟩:=LM.out.cells.2 4 _ rfl;obtain ⟨zc5,zf5⟩:=LM.out.cells.2 5 _ rfl;obtain ⟨zc6,zf6⟩:=LM.out.cells.2 6 _ rfl;obtain ⟨zc7,zf7⟩:=LM.out.cells.2 7 _ rfl;obtain ⟨zc8,zf8⟩:=LM.out.cells.2 8 _ rfl;obtain ⟨zc9,zf9⟩:=LM.out.cells.2 9 _ rfl;obtain ⟨zc10,zf10⟩:=LM.out.cells.2 10 _ rfl;obtain ⟨zc11,zf11⟩:=LM.out.cells.2 11 _ rfl;clear LM0;go_wp2;change bodyPost _ _ _ _ _ (putD y (w.heap.size + 1) d (.slice pf nf cf) (.slice pq mq cq));have pa:=putD_at (y:=y) LM.out.rc d (.slice pf nf cf) (.slice pq mq cq);have pb:=putD_below LM.out.b (show w.heap.size≤w.heap.size + 1 by omega) d (.slice pf nf cf) (.slice pq mq cq);generalize putD y (w.heap.size + 1) d (.slice pf nf cf) (.slice pq mq cq)=yy at *;refine bodyPost_ret (res_dev2 Tryz.results33 rfl rfl pa) rfl ?_;exact ⟨d,pf,nf,cf,pq,mq,cq,by rw [e8.out]; rfl,pb,fun d' hd=>by rw [e8.out] at hd; cases hd⟩
     · obtain rfl:k=sl:=by omega
       have hns:¬ kSta ∈ seen:=fun hm=>by
        obtain ⟨j,hj,hj2⟩:=List.mem_iff_getElem.1 hm;exact no.out j hj (by have:=hsl2.out; omega) hj2
       have st:Hid (stepM d seen (kSta :: a)=match updM kSta a with | none=>.error 6 | some u=>.ok (u d)):=step_nf rfl (by decide) hns;have LM:Hid (LineM w (x0.drewN n) d (.slice pf nf cf) (.slice pq mq cq)):=LM0.out.below (below_drewN (Below.refl _ _) _);have hcy:(x0.drewN n).cell? ⟨g,o,none⟩=some (.string ⟨#[115,116,97,114,116]⟩):=hc0;generalize x0.drewN n=y at *;clear LM0 no hns hc0
       by_cases h1:a.length=1
       · obtain ⟨z,rfl⟩:=len_one h1;have hc1:y.cell? ⟨g,o + 1,none⟩=some (.string (txt z)):=kp LM.out.b (wi.out 1 (by simp));have fo:Hid (∀ w,Calls Tryz.prog 67 #[.string (txt z)] w fun e w'=>e=.returned (.int .i64 (octI z))∧Below w.heap.size w w'):=fun w=>roct_any (txt z) w (by rw [txt_size]; have:=hz.out z (by simp); omega)
         have hm:updM kSta [z]=Option.map (fun (b:Nat) (d:Dv)=>{ d with st:=(b:Int) }) (octO z):=rfl;rw [hm] at st
         cases hO:octO z with
         | none=>
          have eO:octI z=-1:=by unfold octI; rw [hO]
          rw [eO] at fo;rw [hO] at st;replace st:Hid (stepM d seen [kSta,z]=.error 6):=st
          go_wp2_with fail
          refine (fo.out _).mono ?_;clear fo;rintro e yA ⟨rfl,hb⟩;replace LM:Hid (LineM w yA d (.slice pf nf cf) (.slice pq mq cq)):=LM.out.below hb;replace hcy:yA.cell? ⟨g,o,none⟩=some (.string ⟨#[115,116,97,114,116]⟩):=kp hb hcy;replace hc1:yA.cell? ⟨g,o + 1,none⟩=some (.string (txt z)):=kp hb hc1;clear hb;obtain ⟨dc0,df0⟩:=LM.out.cells.1 0 _ rfl;obtain ⟨dc1,df1⟩:=LM.out.cells.1 1 _ rfl;obtain ⟨dc2,df2⟩:=LM.out.cells.1 2 _ rfl;obtain ⟨dc3,df3⟩:=LM.out.cells.1 3 _ rfl;obtain ⟨dc4,df4⟩:=LM.out.cells.1 4 _ rfl;obtain ⟨dc5,df5⟩:=LM.out.cells.1 5 _ rfl;obtain ⟨dc6,df6⟩:=LM.out.cells.1 6 _ rfl;obtain ⟨dc7,df7⟩:=LM.out.cells.1 7 _ rfl;obtain ⟨dc8,df8⟩:=LM.out.cells.1 8 _ rfl;obtain ⟨dc9,df9⟩:=LM.out.cells.1 9 _ rfl;obtain ⟨dc10,df10⟩:=LM.out.cells.1 10 _ rfl;obtain ⟨dc11,df11⟩:=LM.out.cells.1 11 _ rfl;obtain ⟨zc0,zf0⟩:=LM.out.cells.2 0 _ rfl;obtain ⟨zc1,zf1⟩:=LM.out.cells.2 1 _ rfl;obtain ⟨zc2,zf2⟩:=LM.out.cells.2 2 _ rfl;obtain ⟨zc3,zf3⟩:=LM.out.cells.2 3 _ rfl;obtain ⟨zc4,zf4⟩:=LM.out.cells.2 4 _ rfl;obtain ⟨zc5,zf5⟩:=LM.out.cells.2 5 _ rfl;obtain ⟨zc6,zf6⟩:=LM.out.cells.2 6 _ rfl;obtain ⟨zc7,zf7⟩:=LM.out.cells.2 7 _ rfl;obtain ⟨zc8,zf8⟩:=LM.out.cells.2 8 _ rfl;obtain ⟨zc9,zf9⟩:=LM.out.cells.2 9 _ rfl;obtain ⟨zc10,zf10⟩:=LM.out.cells.2 10 _ rfl;obtain ⟨zc11,zf11⟩:=LM.out.cells.2 11 _ rfl;replace LM:Hid (LineM w (yA.setCell ⟨w.heap.size,1,none⟩ (.int .i64 (-1))) { d with st:=-1 } (.slice pf nf cf) (.slice pq mq cq)):=LM.out.set 1 (.int .i64 (-1)) rfl;go_wp2;change bodyPost _ _ _ _ _ (LineZ w (yA.setCell ⟨w.heap.size,1,none⟩ (.int .i64 (-1))) { d with st:=-1 } (.slice pf nf cf) (.slice pq mq cq));refine bodyPost_ret (res_dev2 Tryz.results33 rfl rfl LM.out.res) rfl ?_;exact LM.out.quit st.out _ rfl
         | some b=>
          have eO:octI z=(b:Int):=by unfold octI; rw [hO]
          have nb:decide ((b:Int) < 0)=false:=decide_eq_false (by omega);rw [eO] at fo;rw [hO] at st;replace st:Hid (stepM d seen [kSta,z]=.ok { d with st:=(b:Int) }):=st
          go_wp2_with fail
          refine (fo.out _).mono ?_;clear fo;rintro e yA ⟨rfl,hb⟩;replace LM:Hid (LineM w yA d (.slice pf nf cf) (.slice pq mq cq)):=LM.out.below hb;replace hcy:yA.cell? ⟨g,o,none⟩=some (.string ⟨#[115,116,97,114,116]⟩):=kp hb hcy;replace hc1:yA.cell? ⟨g,o + 1,none⟩=some (.string (txt z)):=kp hb hc1;clear hb;obtain ⟨dc0,df0⟩:=LM.out.cells.1 0 _ rfl;obtain ⟨dc1,df1⟩:=LM.out.cells.1 1 _ rfl;obtain ⟨dc2,df2⟩:=LM.out.cells.1 2 _ rfl;obtain ⟨dc3,df3⟩:=LM.out.cells.1 3 _ rfl;obtain ⟨dc4,df4⟩:=LM.out.cells.1 4 _ rfl;obtain ⟨dc5,df5⟩:=LM.out.cells.1 5 _ rfl;obtain ⟨dc6,df6⟩:=LM.out.cells.1 6 _ rfl;obtain ⟨dc7,df7⟩:=LM.out.cells.1 7 _ rfl;obtain ⟨dc8,df8⟩:=LM.out.cells.1 8 _ rfl;obtain ⟨dc9,df9⟩:=LM.out.cells.1 9 _ rfl;obtain ⟨dc10,df10⟩:=LM.out.cells.1 10 _ rfl;obtain ⟨dc11,df11⟩:=LM.out.cells.1 11 _ rfl;obtain ⟨zc0,zf0⟩:=LM.out.cells.2 0 _ rfl;obtain ⟨zc1,zf1⟩:=LM.out.cells.2 1 _ rfl;obtain ⟨zc2,zf2⟩:=LM.out.cells.2 2 _ rfl;obtain ⟨zc3,zf3⟩:=LM.out.cells.2 3 _ rfl;obtain ⟨zc4,zf4⟩:=LM.out.cells.2 4 _ rfl;obtain ⟨zc5,zf5⟩:=LM.out.cells.2 5 _ rfl;obtain ⟨zc6,zf6⟩:=LM.out.cells.2 6 _ rfl;obtain ⟨zc7,zf7⟩:=LM.out.cells.2 7 _ rfl;obtain ⟨zc8,zf8⟩:=LM.out.cells.2 8 _ rfl;obtain ⟨zc9,zf9⟩:=LM.out.cells.2 9 _ rfl;obtain ⟨zc10,zf10⟩:=LM.out.cells.2 10 _ rfl;obtain ⟨zc11,zf11⟩:=LM.out.cells.2 11 _ rfl;replace LM:Hid (LineM w (yA.setCell ⟨w.heap.size,1,none⟩ (.int .i64 (b:Int))) { d with st:=(b:Int) } (.slice pf nf cf) (.slice pq mq cq)):=LM.out.set 1 (.int .i64 (b:Int)) rfl;go_wp2;change bodyPost _ _ _ _ _ (LineZ w (yA.setCell ⟨w.heap.size,1,none⟩ (.int .i64 (b:Int))) { d with st:=(b:Int) } (.slice pf nf cf) (.slice pq mq cq));refine bodyPost_ret (res_dev2 Tryz.results33 rfl rfl LM.out.res) rfl ?_;exact LM.out.done st.out (LM.out.old FQ0.out).1 (LM.out.old FQ0.out).2 (.inl rfl) (.inl rfl)
       · have n2:((a.length:Int) + 1 != 2)=true:=bne_iff_ne.2 (by omega);have hm:updM kSta a=none:=mSta_len h1;rw [hm] at st;replace st:Hid (stepM d seen (kSta :: a)=.error 6):=st;obtain ⟨dc0,df0⟩:=LM.out.cells.1 0 _ rfl;obtain ⟨dc1,df1⟩:=LM.out.cells.1 1 _ rfl;obtain ⟨dc2,df2⟩:=LM.out.cells.1 2 _ rfl;obtain ⟨dc3,df3⟩:=LM.out.cells.1 3 _ rfl;obtain ⟨dc4,df4⟩:=LM.out.cells.1 4 _ rfl;obtain ⟨dc5,df5⟩:=LM.out.cells.1 5 _ rfl;obtain ⟨dc6,df6⟩:=LM.out.cells.1 6 _ rfl;obtain ⟨dc7,df7⟩:=LM.out.cells.1 7 _ rfl;obtain ⟨dc8,df8⟩:=LM.out.cells.1 8 _ rfl;obtain ⟨dc9,df9⟩:=LM.out.cells.1 9 _ rfl;obtain ⟨dc10,df10⟩:=LM.out.cells.1 10 _ rfl;obtain ⟨dc11,df11⟩:=LM.out.cells.1 11 _ rfl;obtain ⟨zc0,zf0⟩:=LM.out.cells.2 0 _ rfl;obtain ⟨zc1,zf1⟩:=LM.out.cells.2 1 _ rfl;obtain ⟨zc2,zf2⟩:=LM.out.cells.2 2 _ rfl;obtain ⟨zc3,zf3⟩:=LM.out.cells.2 3 _ rfl;obtain ⟨zc4,zf4⟩:=LM.out.cells.2 4 _ rfl;obtain ⟨zc5,zf5⟩:=LM.out.cells.2 5 _ rfl;obtain ⟨zc6,zf6⟩:=LM.out.cells.2 6 _ rfl;obtain ⟨zc7,zf7⟩:=LM.out.cells.2 7 _ rfl;obtain ⟨zc8,zf8⟩:=LM.out.cells.2 8 _ rfl;obtain ⟨zc9,zf9⟩:=LM.out.cells.2 9 _ rfl;obtain ⟨zc10,zf10⟩:=LM.out.cells.2 10 _ rfl;obtain ⟨zc11,zf11⟩:=LM.out.cells.2 11 _ rfl;go_wp2;change bodyPost _ _ _ _ _ (LineZ w y d (.slice pf nf cf) (.slice pq mq cq));refine bodyPost_ret (res_dev2 Tryz.results33 rfl rfl LM.out.res) rfl ?_;exact LM.out.quit st.out _ rfl
end Go.Proofs.YthabffjgdhfbmaaGreatDoor
