/-
  Texts that belong together, one behind the other: ShLs, ShAl, ShDvs, UnRef, SnRf, SnRk, SnRa, SnRb. Conditions: as each says.
-/
import Derived.BigQuiet
import Derived.BigRegion
import Derived.ChangeOld
import Derived.Deep.CutRange
import Derived.Deep.QuietTactic
import Derived.Deep.RegionHeld3
import Derived.Great.BuildSlice
import Derived.Laws.BitsAllLaws
import Derived.Laws.OwnMore
import Derived.Laws.Shifts
import Derived.Laws.Tables
import Derived.Lib.QuietBelowIn
import Derived.Maps.AppendAt
import Derived.OpenShut
import Derived.ProofKit
import Derived.RangeFuncCalls
import Derived.ShutString
import Derived.Sort.BigQuietIn
import Derived.Test.YthabffjgdhfbmaaGreatDoorProg
import Derived.WalkKit
import Derived.Test.YthabffjgdhfbmaaGreatDoorJm1
import Derived.Test.YthabffjgdhfbmaaGreatDoorJm2
import Derived.Test.YthabffjgdhfbmaaGreatDoorJm3
import Derived.Test.YthabffjgdhfbmaaGreatDoorJm4
import Derived.Test.YthabffjgdhfbmaaGreatDoorJm5
import Derived.Test.YthabffjgdhfbmaaGreatDoorJm6
import Derived.Test.YthabffjgdhfbmaaGreatDoorJm7
import Derived.Test.YthabffjgdhfbmaaGreatDoorJm8
import Derived.Test.YthabffjgdhfbmaaGreatDoorJm9
import Derived.Test.YthabffjgdhfbmaaGreatDoorJm10
import Derived.Test.YthabffjgdhfbmaaGreatDoorJm11
import Derived.Test.YthabffjgdhfbmaaGreatDoorJm12
import Derived.Test.YthabffjgdhfbmaaGreatDoorJm13
import Derived.Test.YthabffjgdhfbmaaGreatDoorJm14
import Derived.Test.YthabffjgdhfbmaaGreatDoorJm15
import Derived.Test.YthabffjgdhfbmaaGreatDoorJm16
import Derived.Test.YthabffjgdhfbmaaGreatDoorJm17
import Derived.Test.YthabffjgdhfbmaaGreatDoorJm18
import Derived.Test.YthabffjgdhfbmaaGreatDoorJm19
set_option maxRecDepth 100000
set_option maxHeartbeats 32000000
set_option linter.unusedVariables false
namespace Go.Proofs.YthabffjgdhfbmaaGreatDoor
open Go.RowKit
theorem info_dev:(Tryz.prog.info? 33).map (fun i=>(i.zero,i.size,i.bytes))=some (some (.agg dz),12,144):=by kernel_rfl
theorem blk_of {rs:List Lr} {cs:List (List Rn)} (h:BkR rs (outR cs)):blkF rs=outR cs:=by
 have:=blkF_uniq (outR cs) h.ne h.tl h.hd
 rwa [h.flat] at this
theorem cells_new10 (w:World) (vs:Array Value) (T:TypeId):∀ j u,vs.toList[j]?=some u→(w.alloc (.cells vs T)).cell? ((⟨w.heap.size,0,none⟩:Addr).add j)=some u:=by
 intro j u hu;rw [Array.getElem?_toList] at hu;have ea:(⟨w.heap.size,0,none⟩:Addr).add j=⟨w.heap.size,j,none⟩:=by unfold Addr.add; split <;> simp_all
 rw [ea,(rd_cell (World.alloc_heap_new w (.cells vs T)) j).1,hu]
theorem one_dev (d:Dv) {fv qv:Value} (hf:fv.oneCell'=true) (hq:qv.oneCell'=true):∀ u ∈ (dvB d fv qv).toList,u.oneCell'=true:=by
 intro u hu;simp only [List.mem_cons,List.not_mem_nil,or_false] at hu;rcases hu with rfl | rfl | rfl | rfl | rfl | rfl | rfl | rfl | rfl | rfl | rfl | rfl <;> first | rfl | assumption
def RdC10 (bs:List (List Lr)):Prop:=∀ b ∈ bs,∀ (v:Value) (x:World),RowsC x.heap.size x v b→Calls Tryz.prog 40 #[v] x (ReadQ x (readM b))
def TkC10 (gm:Nat):Prop:=∀ (d:Dv) (fv qv:Value) (w:World) (ns:List Wd),DvI d→(∃ p c,qv=.slice p d.rq.length c)→FldsV w fv d.fs→NmAt w gm ns→Calls Tryz.prog 34 #[.map (some gm),dvV d fv qv] w (TkQ w gm ns d)
def PlC10:Prop:=∀ (n:Int) (b:List Lr),b ≠ []→∀ (v:Value) (w:World) (L0:Nat),RowsC L0 w v b→Calls Tryz.prog 41 #[.int .i64 n,v] w fun e y=>e=.returned (.int .i64 (if n=0 then (b.headD (0,[])).1 else n))∧y=w
structure LsSt (w:World) (N N0 gm n:Nat) (p:Option Addr) (cap:Nat) (us:List Value) (cs:List (List Rn)) (T:List Dv × Int × Nat) (x:World) (lv:Value) (ps:List Dn10) (k:Nat):Prop where
 dg:DvsG 33 N x lv ps
 bl:BkL N0 x (.slice p n cap) us cs
 nm:NmAt x gm (namesD (ps.map (·.1)))
 b:Below w.heap.size w x
 sz:N≤x.heap.size
 lf:devsM (ps.map (·.1)) ((outR cs).drop k)=T
 ln:ps.length=k
structure LsN (w:World) (N N0 gm:Nat):Prop where
 g0:w.heap.size≤gm
 g1:gm < N0
 g2:N0≤N
theorem LsSt.bad {w:World} {N N0 gm n:Nat} {p:Option Addr} {cap:Nat} {us:List Value} {cs:List (List Rn)} {T:List Dv × Int × Nat} {x:World} {lv:Value} {ps:List Dn10} {k:Nat} (h:LsSt w N N0 gm n p cap us cs T x lv ps k)
 {b:List Lr} {rest:List (List Lr)} (hb:(outR cs).drop k=b :: rest) {E:Nat} {P:Int} (he:blkE (namesD (ps.map (·.1))) b=E) (h0:¬ E=0) (hp:blkP b=P) {y:World} (hy:Below w.heap.size w y) :
 LinesQ 33 w T (.returned (.tuple #[.slice none 0 0,.int .i64 P,.int .i64 (E:Int)])) y:=by
 have e:=h.lf;rw [hb,devs_bad (by rw [he]; exact h0),he,hp] at e;subst e;exact ⟨_,[],rfl,rfl,DvsAt.nil _ _,hy⟩
theorem LsSt.next {w:World} {N N0 gm n:Nat} {p:Option Addr} {cap:Nat} {us:List Value} {cs:List (List Rn)} {T:List Dv × Int × Nat} {x0:World} {lv0:Value} {ps:List Dn10} {k:Nat} (h:LsSt w N N0 gm n p cap us cs T x0 lv0 ps k)
 {b:List Lr} {rest:List (List Lr)} (hb:(outR cs).drop k=b :: rest) (x:World) (lv fv qv:Value) (he:blkE (namesD (ps.map (·.1))) b=0) (dg:DvsG 33 N x lv (ps ++ [((readM b).1,fv,qv)])) (bl:BkL N0 x (.slice p n cap) us cs)
 (nm:NmAt x gm (namesD (ps.map (·.1)) ++ [(readM b).1.nm])) (b':Below w.heap.size w x) (sz:N≤x.heap.size):LsSt w N N0 gm n p cap us cs T x lv (ps ++ [((readM b).1,fv,qv)]) (k + 1):=by
 have e:=h.lf;rw [hb,devs_ok he] at e;have hr:(outR cs).drop (k + 1)=rest:=by rw [← List.drop_drop,hb]; rfl
 exact ⟨dg,bl,by rw [List.map_append]; unfold namesD at nm ⊢; rw [List.map_append]; exact nm,b',sz,by rw [hr,List.map_append]; exact e,by rw [List.length_append,h.ln]; rfl⟩
theorem lines_any (v:Value) (w:World) (rs:List Lr) (hv:RowsC w.heap.size w v rs) (hn:(rs.length:Int)≤4500) (hwl:∀ r ∈ rs,(r.2.length:Int)≤4500) (hz:∀ r ∈ rs,∀ z ∈ r.2,(z.length:Int)≤5000) :
 Calls Tryz.prog 20 #[v] w (LinesQ 33 w (linesM rs)):=by
 obtain ⟨i0,hi0,hz0,hz1,hz2⟩:=info_parts info_dev;have hmm:=@run_makeMap Tryz.prog;have B1:Below w.heap.size w (w.alloc (.map #[] 0)):=(Below.refl _ _).alloc (Nat.le_refl _) _;have hv1:=(hv.below B1).mono (show w.heap.size≤(w.alloc (.map #[] 0)).heap.size by rw [World.size_alloc]; omega);have bk:Hid (Calls Tryz.prog 39 #[v] (w.alloc (.map #[] 0)) fun e y=>∃ v' us cs,e=.returned v'∧BkSt (w.alloc (.map #[] 0)) y v' us cs∧BkRW rs cs):=blocks_any v _ rs hv1 hn hwl;have N1:Hid (NmAt (w.alloc (.map #[] 0)) w.heap.size []):=⟨_,_,World.alloc_heap_new w _,NmOk.first⟩;have S1:(w.alloc (.map #[] 0)).heap.size=w.heap.size + 1:=World.size_alloc _ _;have rd:Hid (∀ cs,BkR rs (outR cs)→RdC10 (outR cs)):=by
  intro cs hc b hb x z hx;have hs:∀ r ∈ b,r ∈ rs:=fun r hr=>by rw [← hc.flat]; exact List.mem_flatten.2 ⟨b,hb,hr⟩
  obtain ⟨f,hf,rfl⟩:=List.mem_map.1 hb;have hl:=(BkR.cnt hc).2 f hf;exact dread_any _ x z hx (by rw [List.length_map]; omega) (fun r hr=>hwl r (hs r hr)) (fun r hr=>hz r (hs r hr))
 have tk:Hid (∀ gm,TkC10 gm):=fun gm d fv qv w ns h1 h2 h3 h4=>ntake_any d fv qv w gm ns h1 h2 h3 h4
 have pl:Hid PlC10:=fun n b hb v w L0 h=>place_any n b hb v w L0 h
 obtain ⟨T,hT⟩:∃ T,linesM rs=T:=⟨_,rfl⟩;rw [hT];have L0:Hid (∀ cs,BkR rs (outR cs)→devsM [] (outR cs)=T):=by
  intro cs hc;rw [← hT];unfold linesM;rw [blk_of hc]
 have hcn:Hid (∀ cs,BkR rs (outR cs)→(cs.length:Int)≤4500):=fun cs hc=>by have:=(BkR.cnt hc).1; omega
 obtain ⟨pv,cv,rfl⟩:=hv.form;generalize rs.length=nv at *;clear hT hv hv1 hwl hz hn
 go_enter Tryz.func20,Tryz.ntmps20
 go_upto_region 3 with fail
 change Code.wp Tryz.prog _ _ _ (w.alloc (.map #[] 0));generalize w.alloc (.map #[] 0)=w1 at *
 go_wp2_with fail
 refine bk.out.mono ?_;rintro e y ⟨v',us,cs,rfl,st,brw⟩;obtain ⟨p,cap,rfl⟩:=st.l.form;have L1:=L0.out cs brw.r;have R1:Hid (RdC10 (outR cs)):=rd.out cs brw.r;have hc1:Hid ((cs.length:Int)≤4500):=hcn.out cs brw.r;have hne:Hid (∀ b ∈ outR cs,b ≠ []):=brw.r.ne;obtain ⟨n,hn⟩:∃ n,us.length=n:=⟨_,rfl⟩;have NN:Hid (LsN w y.heap.size w1.heap.size w.heap.size):=⟨Nat.le_refl _,by omega,st.b.size⟩;have ST:Hid (LsSt w y.heap.size w1.heap.size w.heap.size n p cap us cs T y (.slice none 0 0) [] 0):=⟨DvsG.first _ _ _,by rw [← hn]; exact st.l,N1.out.below st.b,B1.trans (st.b.mono B1.size),Nat.le_refl _,L1,rfl⟩;have hnc:Hid (cs.length=n):=by have:=st.len; unfold Hid; omega
 have hn45:(n:Int)≤4500:=by have:=hc1.out; have:=hnc.out; omega
 rw [hn];replace hn:Hid (us.length=n):=hn;clear st brw bk N1 S1 B1 L0 hcn L1 rd hc1;generalize y.heap.size=N at *;generalize w1.heap.size=N0 at *;generalize hgm:w.heap.size=gm at *;clear hgm
 go_wp2_with fail
 go_loopw [5,16] (fun vl vk wr=>∃ (k:Nat) (ps:List Dn10),(k:Int)≤(n:Int)∧vk=.int .i64 (k:Int)∧Hid (LsSt w N N0 gm n p cap us cs T wr vl ps k)) (fun vl vk wr=>n - (intOf vk).toNat)
 case atStart=>exact ⟨0,[],by omega,rfl,ST⟩
 case round=>
  obtain ⟨k,ps,hk,rfl,st⟩:=hrel;clear ST
  by_cases hlt:k < n
  · have hki:(k:Int) < (n:Int):=by omega
    have hkc:k < cs.length:=by have:=hnc.out; omega
    have hku:k < us.length:=by have:=hn.out; omega
    obtain ⟨go,rfl,hcap,ck,hr⟩:=st.out.bl.at hn.out hku hkc;have hob:(outR cs)[k]?=some (cs[k].map (·.1)):=by unfold outR; rw [List.getElem?_map,List.getElem?_eq_getElem hkc]; rfl
    have hdr:(outR cs).drop k=cs[k].map (·.1) :: (outR cs).drop (k + 1):=by
     have h2:=(List.getElem?_eq_some_iff.1 hob).1;rw [List.drop_eq_getElem_cons h2,(List.getElem?_eq_some_iff.1 hob).2]
    have hmem:=List.mem_of_getElem? hob;have hb0:=hne.out _ hmem;have rdk:=R1.out _ hmem;have plk:Hid (∀ m x,BkL N0 x (.slice (some ⟨go,0,none⟩) n cap) us cs→Calls Tryz.prog 41 #[.int .i64 m,us[k]] x fun e y=>e=.returned (.int .i64 (if m=0 then ((cs[k].map (·.1)).headD (0,[])).1 else m))∧y=x):=fun m x h=>by
     obtain ⟨_,_,_,_,hr⟩:=h.at hn.out hku hkc;exact place_any m _ hb0 _ x _ hr
    generalize hbk:cs[k].map (·.1)=b at *;generalize us[k]=ub at *;clear hbk hmem hob;obtain ⟨gi,oi,ci,rfl,_⟩:=hr.cons hb0;have rdc:=rdk _ _ hr;replace rdc:Hid (Calls Tryz.prog 40 #[.slice (some ⟨gi,oi,none⟩) b.length ci] wr (ReadQ wr (readM b))):=rdc;have hbE:Hid (∀ ns,blkE ns b=if (readM b).2.2=0 then tkE ns (readM b).1 else (readM b).2.2):=fun ns=>rfl
    have hbP:Hid (blkP b=if (readM b).2.1=0 then (b.headD (0,[])).1 else (readM b).2.1):=rfl;have hSB:Hid (∀ (E:Nat) (P:Int) (y:World),blkE (namesD (ps.map (·.1))) b=E→¬ E=0→blkP b=P→Below w.heap.size w y→LinesQ 33 w T (.returned (.tuple #[.slice none 0 0,.int .i64 P,.int .i64 (E:Int)])) y):=fun E P y h1 h2 h3 h4=>st.out.bad hdr h1 h2 h3 h4
    have hSG:Hid (∀ (x:World) (lv fv qv:Value),blkE (namesD (ps.map (·.1))) b=0→DvsG 33 N x lv (ps ++ [((readM b).1,fv,qv)])→BkL N0 x (.slice (some ⟨go,0,none⟩) n cap) us cs→NmAt x gm (namesD (ps.map (·.1)) ++ [(readM b).1.nm])→Below w.heap.size w x→N≤x.heap.size→LsSt w N N0 gm n (some ⟨go,0,none⟩) cap us cs T x lv (ps ++ [((readM b).1,fv,qv)]) (k + 1)):=fun x lv fv qv h1 h2 h3 h4 h5 h6=>st.out.next hdr x lv fv qv h1 h2 h3 h4 h5 h6
    have hj:=read_j b;have hfs:=read_fs b;generalize readM b=RR at *;obtain ⟨d,lr,en⟩:=RR;simp only at hbE hbP hj hfs hSG;have hdi:=hj.i hfs;have N0':Hid (N≤wr.heap.size):=st.out.sz;have NM:Hid (NmAt wr gm (namesD (ps.map (·.1)))):=st.out.nm;have DG:Hid (DvsG 33 N wr u5 ps):=st.out.dg;have hlen:Hid (ps.length=k):=st.out.ln;have BW:Hid (Below w.heap.size w wr):=st.out.b;have gwr:=NM.out.lt;have BL:Hid (BkL N0 wr (.slice (some ⟨go,0,none⟩) n cap) us cs):=st.out.bl;obtain ⟨hd,hhd⟩:∃ hd,(b.headD (0,[])).1=hd:=⟨_,rfl⟩;rw [hhd] at hbP plk;generalize b.length=bn at *;generalize hns:namesD (ps.map (·.1))=ns at *;clear hns hr hhd st hdr hb0 rdk hj hfs hkc hku
    go_upto_region 6 with fail
    go_wp2_with fail
    refine rdc.out.mono ?_;rintro e z ⟨fv,qv,rfl,hf,hq,hb,fN,qN⟩;have hfv:=hf.v;have hqf:=bytes_form hq;have bz:Below z.heap.size z (z.alloc (.cells (dvB d fv qv) 33)):=(Below.refl _ _).alloc (Nat.le_refl _) _;have NZ:Hid (NmAt (z.alloc (.cells (dvB d fv qv) 33)) gm ns):=(NM.out.below hb).below bz;have tkc:Hid (Calls Tryz.prog 34 #[.map (some gm),dvV d fv qv] (z.alloc (.cells (dvB d fv qv) 33)) (TkQ (z.alloc (.cells (dvB d fv qv) 33)) gm ns d)):=tk.out gm d fv qv _ ns hdi hqf (hfv.below bz) NZ.out;have DZ:Hid ((z.alloc (.cells (dvB d fv qv) 33)).heap[z.heap.size]?=some (.cells (dvB d fv qv) 33 (0,0))):=World.alloc_heap_new z _;have BZ:Hid (Below wr.heap.size wr (z.alloc (.cells (dvB d fv qv) 33))):=hb.trans (bz.mono hb.size);have fz:Hid (FldsAt (z.alloc (.cells (dvB d fv qv) 33)) fv d.fs):=hf.below bz;have qz:Hid (BytesAt (z.alloc (.cells (dvB d fv qv) 33)) qv d.rq):=hq.below bz;have zl:wr.heap.size≤z.heap.size:=hb.size;obtain ⟨pf,nf,cf,rfl⟩:=hf.form;obtain ⟨pq,nq,cq,rfl⟩:=hq.form';replace fN:Hid (∀ g,(Value.slice pf nf cf).ownBlock=some g→wr.heap.size≤g):=fN;replace qN:Hid (∀ g,(Value.slice pq nq cq).ownBlock=some g→wr.heap.size≤g):=qN;clear hfv hqf bz hf hq hb NM tk
    by_cases he:en=0
    · subst he
      go_wp2_with fail
      change Calls Tryz.prog _ _ (z.alloc (.cells (dvB d (.slice pf nf cf) (.slice pq nq cq)) 33)) _;have Z1:(z.alloc (.cells (dvB d (.slice pf nf cf) (.slice pq nq cq)) 33)).heap.size=z.heap.size + 1:=World.size_alloc _ _;generalize z.alloc (.cells (dvB d (.slice pf nf cf) (.slice pq nq cq)) 33)=z1 at *;refine tkc.out.mono ?_;rintro e y ⟨rfl,gr,ok,no⟩;have hbE0:Hid (blkE ns b=tkE ns d):=by unfold Hid; rw [hbE.out]; simp
      have BLy:Hid (BkL N0 y (.slice (some ⟨go,0,none⟩) n cap) us cs):=(BL.out.on (grown_below BZ.out _) NN.out.g1).on gr NN.out.g1;have BWy:Hid (Below w.heap.size w y):=(BW.out.trans (BZ.out.mono BW.out.size)).grown gr (by have:=BW.out.size; omega) (fun k e=>by injection e with e; have:=NN.out.g0; omega);have gmN:gm < N:=by have:=NN.out.g1; have:=NN.out.g2; omega
      have DGy:Hid (DvsG 33 N y u5 ps):=(DG.out.on (grown_below BZ.out _) gmN).on gr gmN;have fy:Hid (FldsAt y (.slice pf nf cf) d.fs):=fz.out.on fun g e=>gr.block g (fz.out.lt g e) fun e'=>by injection e' with e'; have:=fN.out g e; omega
      have qy:Hid (BytesAt y (.slice pq nq cq) d.rq):=qz.out.on fun g e=>gr.block g (qz.out.lt g e) fun e'=>by injection e' with e'; have:=qN.out g e; omega
      have DY:Hid (y.heap[z.heap.size]?=some (.cells (dvB d (.slice pf nf cf) (.slice pq nq cq)) 33 (0,0))):=(gr.block _ (by omega) fun e'=>by injection e' with e'; omega).trans DZ.out;have ysz:=gr.size;replace ok:Hid (tkE ns d=0→NmAt y gm (ns ++ [d.nm])):=ok;have DGw:=DG;clear no tkc BZ fz qz DZ NZ BL BW rdc hbE DG;generalize hE:tkE ns d=E at *
      by_cases hE0:E=0
      · subst hE0;have by4:Below y.heap.size y (y.alloc (.cells (dvB d (.slice pf nf cf) (.slice pq nq cq)) 33)):=(Below.refl _ _).alloc (Nat.le_refl _) _;have DG4:=DGy.out.on (grown_below by4 _) gmN;have BL4:=BLy.out.on (grown_below by4 _) NN.out.g1;have f4:=fy.out.below by4;have q4:=qy.out.below by4;have N4:=(ok.out rfl).below by4;have B4:=BWy.out.trans (by4.mono BWy.out.size);have u5l:∀ g,u5.ownBlock=some g→N≤g∧g < wr.heap.size:=fun g e=>⟨(World.ownsRow.lt DGw.out.own g e).1,(World.ownsRow.lt DGw.out.own g e).2⟩
        have own4:Hid ((y.alloc (.cells (dvB d (.slice pf nf cf) (.slice pq nq cq)) 33)).ownsRow N 33 12 u5 k (dvCs ps)):=by have h:=DG4.own; rwa [hlen.out] at h
        have fin:Hid (∀ (g cp:Nat) (yq:World),yq.ownsRow N 33 12 (.slice (some ⟨g,0,none⟩) (k + 1) cp) (k + 1) (dvCs ps ++ (dvB d (.slice pf nf cf) (.slice pq nq cq)).toList)→(y.alloc (.cells (dvB d (.slice pf nf cf) (.slice pq nq cq)) 33)).grownBy yq u5.ownBlock→(u5.ownBlock=some g ∨ g=(y.alloc (.cells (dvB d (.slice pf nf cf) (.slice pq nq cq)) 33)).heap.size) →
         LsSt w N N0 gm n (some ⟨go,0,none⟩) cap us cs T yq (.slice (some ⟨g,0,none⟩) (k + 1) cp) (ps ++ [(d,.slice pf nf cf,.slice pq nq cq)]) (k + 1)):=by
         intro g cp yq h1 h2 h3;have h1':=h1;rw [← hlen.out] at h1;have P4:=DG4.push f4 q4 (fun g e=>by
          have:wr.heap.size≤g:=by
           rcases e with e | e
           · exact fN.out g e
           · exact qN.out g e
          have:=N0'.out;exact ⟨by omega,fun e'=>by have:=(u5l g e').2; omega⟩) h1 h2 h3
         rw [hlen.out] at P4;have hsz:=h2.size;have b4:=by4.size;have h0':=N0'.out;exact hSG.out yq _ _ _ hbE0.out P4 (BL4.kept DG4.own h2) (N4.kept (h2.block _ N4.lt fun e=>by have:=(u5l _ e.symm).1; omega)) (B4.grown h2 B4.size (fun k e=>by have:=(u5l k e).1; have:=NN.out.g0; omega)) (by omega)
        have hone:=one_dev d (fv:=.slice pf nf cf) (qv:=.slice pq nq cq) rfl rfl;have hcn:=cells_new10 y (dvB d (.slice pf nf cf) (.slice pq nq cq)) 33;have h63:k + 1≤maxLen:=by unfold maxLen; omega
        have hby:(k + 1) * 144≤140737488355328:=by omega
        have hbs:Hid (N≤y.heap.size):=by have:=N0'.out; unfold Hid; omega
        obtain ⟨x0,w0,x1,w1,x2,w2,x3,w3,x4,w4,x5,w5,x6,w6,x7,w7,x8,w8,x9,w9,x10,w10,x11,w11⟩:=rd12 DY.out;have wk:IntKind.i64.wrap ((k:Int) + 1)=(k:Int) + 1:=by simp only [IntKind.wrap_i64]; omega
        clear plk hSB hSG BLy BWy DGy fy qy DY ok hbP hbE0 hE ck by4 DG4 BL4 f4 q4 N4 B4 u5l hlen DGw Z1 ysz gr
        go_upto_region 12 with (at_builtin; refine wpList_append_lies _ rfl _ _ 47 rfl N 33 i0 (.agg dz) 12 144 Tryz.underlying47 hi0 hz0 hz1 hz2 rfl (by decide) _ k (dvCs ps) rfl own4.out ⟨y.heap.size,0,none⟩ 1 1 (dvB d (.slice pf nf cf) (.slice pq nq cq)).toList rfl rfl hcn hone (by decide) h63 hby (by have:=hbs.out; rw [World.size_alloc]; omega) (y.alloc (.cells (dvB d (.slice pf nf cf) (.slice pq nq cq)) 33)).heap.size rfl ?_; intro g2 cap2 yq hO gO hat hlt2; have ST2:Hid (LsSt w N N0 gm n (some ⟨go,0,none⟩) cap us cs T yq (.slice (some ⟨g2,0,none⟩) (k + 1) cap2) (ps ++ [(d,.slice pf nf cf,.slice pq nq cq)]) (k + 1)):=fin.out g2 cap2 yq hO gO hat; clear hO gO hat hlt2)
        clear fin own4 hcn hone;go_wp2;refine ⟨⟨k + 1,_,by omega,rfl,ST2⟩,?_⟩;show n - (intOf (.int .i64 ((k:Int) + 1))).toNat < n - (intOf (.int .i64 (k:Int))).toNat;simp only [intOf];omega
      · have e0:((E:Int) == 0)=false:=beq_eq_false_iff_ne.2 (by omega);have e1:((E:Int) != 0)=true:=by rw [bne,e0]; rfl
        have pc:Hid (Calls Tryz.prog 41 #[.int .i64 lr,.slice (some ⟨gi,oi,none⟩) bn ci] y fun e x=>e=.returned (.int .i64 (if lr=0 then hd else lr))∧x=y):=plk.out lr _ BLy.out;have fin:=hSB.out E _ y hbE0.out hE0 hbP.out BWy.out;replace fin:Hid (LinesQ 33 w T (.returned (.tuple #[.slice none 0 0,.int .i64 (if lr=0 then hd else lr),.int .i64 (E:Int)])) y):=fin;clear plk hSB hSG BLy BWy DGy fy qy DY ok hbP hbE0 hE ck;generalize (if lr=0 then hd else lr)=P at *
        go_wp2_with fail
        refine pc.out.mono ?_;rintro e x ⟨rfl,rfl⟩;go_wp2
        try simp only [Exit.inBlock,Exit.then]
        refine bodyPost_ret (results_tmp3 rfl _ _ _) rfl ?_;exact fin.out
    · have e0:((en:Int) == 0)=false:=beq_eq_false_iff_ne.2 (by omega);have e1:((en:Int) != 0)=true:=by rw [bne,e0]; rfl
      have pc:Hid (Calls Tryz.prog 41 #[.int .i64 lr,.slice (some ⟨gi,oi,none⟩) bn ci] (z.alloc (.cells (dvB d (.slice pf nf cf) (.slice pq nq cq)) 33)) fun e y=>e=.returned (.int .i64 (if lr=0 then hd else lr))∧y=(z.alloc (.cells (dvB d (.slice pf nf cf) (.slice pq nq cq)) 33))):=plk.out lr _ (BL.out.on (grown_below BZ.out _) NN.out.g1);have fin:=hSB.out en _ (z.alloc (.cells (dvB d (.slice pf nf cf) (.slice pq nq cq)) 33)) (by rw [hbE.out,if_neg he]) he hbP.out (BW.out.trans (BZ.out.mono BW.out.size));replace fin:Hid (LinesQ 33 w T (.returned (.tuple #[.slice none 0 0,.int .i64 (if lr=0 then hd else lr),.int .i64 (en:Int)])) (z.alloc (.cells (dvB d (.slice pf nf cf) (.slice pq nq cq)) 33))):=fin;clear plk hSB hSG BL BW DG fz qz DZ NZ tkc hbP hbE ck BZ;generalize (if lr=0 then hd else lr)=P at *
      go_wp2_with fail
      refine pc.out.mono ?_;rintro e x ⟨rfl,rfl⟩;go_wp2
      try simp only [Exit.inBlock,Exit.then]
      refine bodyPost_ret (results_tmp3 rfl _ _ _) rfl ?_;exact fin.out
  · have hki:(k:Int)=(n:Int):=by omega
    have hT:Hid (T=(ps.map (·.1),0,0)):=by
     unfold Hid;rw [← st.out.lf,List.drop_of_length_le (by unfold outR; rw [List.length_map,hnc.out]; omega)];rfl
    rw [hki];go_wp2
    try simp only [Exit.inBlock,Exit.then]
    refine bodyPost_ret (results_tmp3 rfl _ _ _) rfl ?_;exact ⟨_,ps,by rw [hT.out]; rfl,by rw [hT.out],st.out.dg.at,st.out.b⟩
def AllQ (w:World) (T:Wd × Nat) (e:Ending) (y:World):Prop:=e=.returned (.tuple #[.string (txt T.1),.int .i64 ((T.2:Nat):Int)])∧Below w.heap.size w y
structure AlSt (w:World) (b gm:Nat) (L:List Dv) (T:Wd × Nat) (x:World) (k:Nat) (acc:Wd):Prop where
 bl:BldF b b acc x
 nm:NmAt x gm (namesD (L.take k))
 be:Below w.heap.size w x
 lf:allM (namesD (L.take k)) acc (L.drop k)=T
 ac:acc.length≤4000
def AlBlC (b:Nat):Prop:=∀ l x,BldF b b l x→Calls Tryz.prog 35 #[.pointer (some ⟨b,0,none⟩)] x fun e y=>e=.returned (.int .i64 (l.length:Int))∧y=x
def AlWsC (b:Nat):Prop:=∀ (l:List UInt8) (s:ByteArray) (x:World),BldF b b l x→l.length≤1000000000→s.size≤1000000000→Calls Tryz.prog 36 #[.pointer (some ⟨b,0,none⟩),.string s] x fun e y=>e=.returned (.tuple #[.int .i64 (s.size:Int),.nilIface])∧BldF b b (l ++ s.data.toList) y∧Below b x y∧Lib.OthersKept 5 (some b) x y
def AlStC (b:Nat):Prop:=∀ l x,BldF b b l x→Calls Tryz.prog 37 #[.pointer (some ⟨b,0,none⟩)] x fun e y=>e=.returned (.string (txt l))∧Below b x y
def AlWrC (w:World) (d:Dv) (fv qv:Value):Prop:=∀ x,Below w.heap.size w x→Calls Tryz.prog 23 #[dvV d fv qv] x fun e y=>e=.returned (.string (txt (textD d)))∧Below x.heap.size x y
theorem all_any (v:Value) (w:World) (ps:List Dn10) (hv:DvsR w v ps) (hi:∀ p ∈ ps,DvI p.1∧AllBytes p.1.rq) (hn:(ps.length:Int)≤9223372036854775807) :
 Calls Tryz.prog 18 #[v] w (AllQ w (allM [] [] (ps.map (·.1)))):=by
 obtain ⟨p,cap,rfl⟩:=hv.form;obtain ⟨n,hlen⟩:∃ n,ps.length=n:=⟨_,rfl⟩;rw [hlen] at hn hv ⊢;have hmm:=@run_makeMap Tryz.prog;obtain ⟨T,hT⟩:∃ T,allM [] [] (ps.map (·.1))=T:=⟨_,rfl⟩;rw [hT];obtain ⟨L,hL⟩:∃ L,ps.map (·.1)=L:=⟨_,rfl⟩;rw [hL] at hT;have A1:Below w.heap.size w (w.alloc (.cells #[.pointer none,.slice none 0 0] 82)):=(Below.refl _ _).alloc (Nat.le_refl _) _;have S1:(w.alloc (.cells #[.pointer none,.slice none 0 0] 82)).heap.size=w.heap.size + 1:=World.size_alloc _ _;have A2:Below (w.alloc (.cells #[.pointer none,.slice none 0 0] 82)).heap.size (w.alloc (.cells #[.pointer none,.slice none 0 0] 82)) ((w.alloc (.cells #[.pointer none,.slice none 0 0] 82)).alloc (.map #[] 0)):=(Below.refl _ _).alloc (Nat.le_refl _) _;have ST:Hid (AlSt w w.heap.size (w.heap.size + 1) L T ((w.alloc (.cells #[.pointer none,.slice none 0 0] 82)).alloc (.map #[] 0)) 0 []):=
  ⟨(BldF.new w).below A2,by rw [← S1]; exact ⟨_,_,World.alloc_heap_new _ _,NmOk.first⟩,A1.trans (A2.mono (by rw [S1]; omega)),hT,by simp⟩
 have hvw:Hid (∀ x,Below w.heap.size w x→DvsR x (.slice p n cap) ps):=fun x hx=>hv.below hx
 have hi':Hid (∀ p ∈ ps,DvI p.1∧AllBytes p.1.rq):=hi;have hlen':Hid (ps.length=n):=hlen;have hL':Hid (ps.map (·.1)=L):=hL;have blc:Hid (AlBlC w.heap.size):=fun l x h=>blnK_any _ _ l x h
 have wsc:Hid (AlWsC w.heap.size):=fun l s x h h1 h2=>bwsK_any _ _ l s x h h1 h2
 have stc:Hid (AlStC w.heap.size):=fun l x h=>bstK_any _ _ l x h
 have tk:Hid (TkC10 (w.heap.size + 1)):=fun d fv qv w ns h1 h2 h3 h4=>ntake_any d fv qv w _ ns h1 h2 h3 h4
 clear hT hL hlen hi hv A1 A2
 go_enter Tryz.func18,Tryz.ntmps18
 go_upto_region 3 with fail
 change Code.wp Tryz.prog _ _ _ ((w.alloc (.cells #[.pointer none,.slice none 0 0] 82)).alloc (.map #[] 0));generalize (w.alloc (.cells #[.pointer none,.slice none 0 0] 82)).alloc (.map #[] 0)=w2 at *;clear S1;obtain ⟨b,hb⟩:∃ b,w.heap.size=b:=⟨_,rfl⟩;obtain ⟨gm,hg⟩:∃ gm,w.heap.size + 1=gm:=⟨_,rfl⟩;have hgb:Hid (b < gm):=by unfold Hid; omega
 have hbw:Hid (w.heap.size=b):=hb;rw [hg] at ST tk ⊢;rw [hb] at ST blc wsc stc ⊢;clear hb hg
 go_wp2_with fail
 go_loopw [7,8,9,13] (fun v7 v8 v9 vk wr=>∃ (k:Nat) (acc:Wd),(k:Int)≤(n:Int)∧vk=.int .i64 (k:Int)∧Hid (AlSt w b gm L T wr k acc)) (fun v7 v8 v9 vk wr=>n - (intOf vk).toNat)
 case atStart=>exact ⟨0,[],by omega,rfl,ST⟩
 case round=>
  obtain ⟨k,acc,hk,rfl,st⟩:=hrel;clear ST
  by_cases hlt:k < n
  · have hki:(k:Int) < (n:Int):=by omega
    have hkp:k < ps.length:=by have:=hlen'.out; omega
    have DR:=hvw.out wr st.out.be;obtain ⟨g,o,rfl,hcap,hgl,x1,hfl,hrq⟩:=DR.at hlen'.out hkp;obtain ⟨hdi,hab⟩:=hi'.out _ (List.getElem_mem hkp);have hkL:k < L.length:=by rw [← hL'.out,List.length_map]; exact hkp
    have eL:L[k]=ps[k].1:=by simp only [← hL'.out,List.getElem_map]
    have eD:L.drop k=ps[k].1 :: L.drop (k + 1):=by rw [List.drop_eq_getElem_cons hkL,eL]
    have eN:namesD (L.take (k + 1))=namesD (L.take k) ++ [ps[k].1.nm]:=by rw [names_take hkL,eL]
    have lf:=st.out.lf;rw [eD] at lf;have flw:=(hvw.out w (Below.refl _ _)).fl _ (List.getElem_mem hkp);have wrc:Hid (ckE ps[k].1=0→AlWrC w ps[k].1 ps[k].2.1 ps[k].2.2):=fun h0 x hx=>
     shwritten_any _ _ _ x (hdi.snd h0 hab).ok (flw.1.below hx) ((flw.2.at (fun e=>by have:=(hdi.snd h0 hab).ok.rq.1; rw [e] at this; simp at this)).below hx)
    have t3k:Hid (ckE ps[k].1=0→(textD ps[k].1).length≤3000):=fun h0=>(hdi.snd h0 hab).ok.len
    have hNext:Hid (∀ y,tkE (namesD (L.take k)) ps[k].1=0→¬ 4000 < acc.length + (textD ps[k].1).length→BldF b b (acc ++ textD ps[k].1) y→NmAt y gm (namesD (L.take k) ++ [ps[k].1.nm])→Below w.heap.size w y→AlSt w b gm L T y (k + 1) (acc ++ textD ps[k].1)):=fun y h1 h2 h3 h4 h5=>
     ⟨h3,by rw [eN]; exact h4,h5,by rw [eN,← all_next h1 h2]; exact lf,by rw [List.length_append]; omega⟩
    have hBad:Hid (∀ y,¬ tkE (namesD (L.take k)) ps[k].1=0→Below w.heap.size w y→AllQ w T (.returned (.tuple #[.string ⟨#[]⟩,.int .i64 ((tkE (namesD (L.take k)) ps[k].1:Nat):Int)])) y):=fun y h1 h2=>by
     rw [all_twice h1] at lf;subst lf;exact ⟨rfl,h2⟩
    have hLong:Hid (∀ y,tkE (namesD (L.take k)) ps[k].1=0→4000 < acc.length + (textD ps[k].1).length→Below w.heap.size w y→AllQ w T (.returned (.tuple #[.string ⟨#[]⟩,.int .i64 7])) y):=fun y h1 h2 h3=>by
     rw [all_long h1 h2] at lf;subst lf;exact ⟨rfl,h3⟩
    have NM:Hid (NmAt wr gm (namesD (L.take k))):=st.out.nm;have BL:Hid (BldF b b acc wr):=st.out.bl;have BW:Hid (Below w.heap.size w wr):=st.out.be;have hac:Hid (acc.length≤4000):=st.out.ac;have gl:=NM.out.lt;generalize namesD (L.take k)=ns at *;clear lf eD eL eN DR hkL st flw hab;generalize ps[k]=pk at *;obtain ⟨d,fv,qv⟩:=pk;simp only at x1 hfl hrq hdi wrc t3k hNext hBad hLong;obtain ⟨pf,cf,rfl⟩:=hfl.form;obtain ⟨pq,cq,rfl⟩:=hrq.form;obtain ⟨l0,l1,l2,l3,l4,l5,l6,l7,l8,l9,l10,l11⟩:=row12 x1;have bz:Below wr.heap.size wr (wr.alloc (.cells (dvB d (.slice pf d.fs.length cf) (.slice pq d.rq.length cq)) 33)):=(Below.refl _ _).alloc (Nat.le_refl _) _;have NZ:=NM.out.below bz;have BLZ:Hid (BldF b b acc (wr.alloc (.cells (dvB d (.slice pf d.fs.length cf) (.slice pq d.rq.length cq)) 33))):=BL.out.below bz;have tkc:Hid (Calls Tryz.prog 34 #[.map (some gm),dvV d (.slice pf d.fs.length cf) (.slice pq d.rq.length cq)] (wr.alloc (.cells (dvB d (.slice pf d.fs.length cf) (.slice pq d.rq.length cq)) 33)) (TkQ (wr.alloc (.cells (dvB d (.slice pf d.fs.length cf) (.slice pq d.rq.length cq)) 33)) gm ns d)):=
     tk.out d _ _ _ ns hdi ⟨_,_,rfl⟩ (hfl.below bz) NZ
    have DZ:Hid ((wr.alloc (.cells (dvB d (.slice pf d.fs.length cf) (.slice pq d.rq.length cq)) 33)).heap[wr.heap.size]?=some (.cells (dvB d (.slice pf d.fs.length cf) (.slice pq d.rq.length cq)) 33 (0,0))):=World.alloc_heap_new wr _;have BZ:Hid (Below w.heap.size w (wr.alloc (.cells (dvB d (.slice pf d.fs.length cf) (.slice pq d.rq.length cq)) 33))):=BW.out.trans (bz.mono BW.out.size);have NZh:Hid (NmAt (wr.alloc (.cells (dvB d (.slice pf d.fs.length cf) (.slice pq d.rq.length cq)) 33)) gm ns):=NZ;have ZS:(wr.alloc (.cells (dvB d (.slice pf d.fs.length cf) (.slice pq d.rq.length cq)) 33)).heap.size=wr.heap.size + 1:=World.size_alloc _ _;generalize d.fs.length=nf at *;generalize d.rq.length=nq at *;clear x1 hfl hrq hdi bz NZ BL NM hvw hi'
    go_upto_region 6 with fail
    change Code.wp Tryz.prog _ _ _ (wr.alloc (.cells (dvB d (.slice pf nf cf) (.slice pq nq cq)) 33));generalize wr.alloc (.cells (dvB d (.slice pf nf cf) (.slice pq nq cq)) 33)=z at *;clear l0 l1 l2 l3 l4 l5 l6 l7 l8 l9 l10 l11;obtain ⟨⟨l0,l1,l2,l3,l4,l5,l6,l7,l8,l9,l10,l11⟩,_⟩:=blk12 DZ.out
    go_wp2_with fail
    refine tkc.out.mono ?_;rintro e y ⟨rfl,gr,ok,no⟩;clear l0 l1 l2 l3 l4 l5 l6 l7 l8 l9 l10 l11;have BLy:Hid (BldF b b acc y):=BLZ.out.on NZh.out gr;have BWy:Hid (Below w.heap.size w y):=BZ.out.grown gr (by have:=BZ.out.size; omega) (fun q e=>by injection e with e; have:=hgb.out; have:=hbw.out; omega);have DY:Hid (y.heap[wr.heap.size]?=some (.cells (dvB d (.slice pf nf cf) (.slice pq nq cq)) 33 (0,0))):=(gr.block _ (by omega) fun e'=>by injection e' with e'; omega).trans DZ.out;replace ok:Hid (tkE ns d=0→NmAt y gm (ns ++ [d.nm])):=ok;clear no tkc BLZ BZ DZ NZh gr ZS;have hck:Hid (tkE ns d=0→ckE d=0):=fun h=>(tk_0.1 h).1
    obtain ⟨E,hE⟩:∃ E,tkE ns d=E:=⟨_,rfl⟩;rw [hE] at hBad hNext hLong ok hck ⊢;clear hE
    by_cases h0:E=0
    · subst h0;have wrd:=wrc.out (hck.out rfl);have t3:=t3k.out (hck.out rfl);have nm1:=ok.out rfl;replace wrd:Hid (AlWrC w d (.slice pf nf cf) (.slice pq nq cq)):=wrd;replace nm1:Hid (NmAt y gm (ns ++ [d.nm])):=nm1;have hNext2:Hid (∀ y,¬ 4000 < acc.length + (textD d).length→BldF b b (acc ++ textD d) y→NmAt y gm (ns ++ [d.nm])→Below w.heap.size w y→AlSt w b gm L T y (k + 1) (acc ++ textD d)):=fun y h=>hNext.out y rfl h
      have hLong2:Hid (∀ y,4000 < acc.length + (textD d).length→Below w.heap.size w y→AllQ w T (.returned (.tuple #[.string ⟨#[]⟩,.int .i64 7])) y):=fun y h=>hLong.out y rfl h
      have wry:Hid (Calls Tryz.prog 23 #[dvV d (.slice pf nf cf) (.slice pq nq cq)] y fun e z=>e=.returned (.string (txt (textD d)))∧Below y.heap.size y z):=wrd.out y BWy.out;clear hNext hLong hBad ok hck wrc t3k wrd;obtain ⟨⟨l0,l1,l2,l3,l4,l5,l6,l7,l8,l9,l10,l11⟩,_⟩:=blk12 DY.out
      go_wp2_with fail
      refine wry.out.mono ?_;rintro e y2 ⟨rfl,hb2⟩;have BL2:Hid (BldF b b acc y2):=BLy.out.below hb2;have NM2:Hid (NmAt y2 gm (ns ++ [d.nm])):=nm1.out.below hb2;have BW2:Hid (Below w.heap.size w y2):=BWy.out.trans (hb2.mono BWy.out.size);clear l0 l1 l2 l3 l4 l5 l6 l7 l8 l9 l10 l11 hb2 BLy nm1 BWy wry DY;have blc2:Hid (Calls Tryz.prog 35 #[.pointer (some ⟨b,0,none⟩)] y2 fun e y=>e=.returned (.int .i64 (acc.length:Int))∧y=y2):=blc.out acc y2 BL2.out;have wsc2:Hid (Calls Tryz.prog 36 #[.pointer (some ⟨b,0,none⟩),.string (txt (textD d))] y2 fun e y=>e=.returned (.tuple #[.int .i64 ((txt (textD d)).size:Int),.nilIface])∧BldF b b (acc ++ (txt (textD d)).data.toList) y∧Below b y2 y∧Lib.OthersKept 5 (some b) y2 y):=
       wsc.out acc (txt (textD d)) y2 BL2.out (by have:=hac.out; omega) (by rw [txt_size]; omega)
      have zs:=txt_size (textD d);have zl:(txt (textD d)).data.toList=textD d:=rfl;rw [zl] at wsc2;have ac0:=hac.out;generalize textD d=tl at *;obtain ⟨al,hal⟩:∃ al,acc.length=al:=⟨_,rfl⟩;rw [hal] at blc2 ac0;have wk:IntKind.i64.wrap ((al:Int) + ((txt tl).size:Int))=(al:Int) + ((txt tl).size:Int):=by simp only [IntKind.wrap_i64]; omega
      by_cases h4:4000 < acc.length + tl.length
      · have hb4:decide ((4000:Int) < (al:Int) + ((txt tl).size:Int))=true:=decide_eq_true (by omega);have fin:Hid (AllQ w T (.returned (.tuple #[.string ⟨#[]⟩,.int .i64 7])) y2):=hLong2.out y2 h4 BW2.out;clear hLong2 hNext2 wsc2 BL2 NM2 zl zs hal;generalize txt tl=S at *
        go_wp2_with fail
        refine blc2.out.mono ?_;rintro e y3 ⟨rfl,rfl⟩;go_wp2
        try simp only [Exit.inBlock,Exit.then]
        refine bodyPost_ret (results_tmp2 rfl _ _ _) rfl ?_;exact fin.out
      · have hb4:decide ((4000:Int) < (al:Int) + ((txt tl).size:Int))=false:=decide_eq_false (by omega);have nx:Hid (∀ y,BldF b b (acc ++ tl) y→NmAt y gm (ns ++ [d.nm])→Below w.heap.size w y→AlSt w b gm L T y (k + 1) (acc ++ tl)):=fun y=>hNext2.out y h4
        clear hLong2 hNext2 zl zs hal h4;generalize txt tl=S at *
        go_wp2_with fail
        refine blc2.out.mono ?_;rintro e y3 ⟨rfl,hy3⟩;replace hy3:=hy3.symm;subst hy3
        go_wp2_with fail
        refine wsc2.out.mono ?_;rintro e y3 ⟨rfl,bl3,be3,ok3⟩;have st2:Hid (AlSt w b gm L T y3 (k + 1) (acc ++ tl)):=nx.out y3 bl3 (NM2.out.others ok3 (by have:=hgb.out; omega)) (BW2.out.trans (by have h:=be3; rw [← hbw.out] at h; exact h));clear nx wsc2 blc2 BL2 NM2 BW2 bl3 be3 ok3;go_wp2;exact ⟨⟨k + 1,_,by omega,by simp,st2⟩,by simp [intOf]; omega⟩
    · have e0:((E:Int) == 0)=false:=beq_eq_false_iff_ne.2 (by omega);have e1:((E:Int) != 0)=true:=by rw [bne,e0]; rfl
      have fin:Hid (AllQ w T (.returned (.tuple #[.string ⟨#[]⟩,.int .i64 ((E:Nat):Int)])) y):=hBad.out y h0 BWy.out;clear hBad hNext hLong ok hck wrc t3k;go_wp2
      try simp only [Exit.inBlock,Exit.then]
      refine bodyPost_ret (results_tmp2 rfl _ _ _) rfl ?_;exact fin.out
  · obtain rfl:k=n:=by omega
    have hLn:L.length=k:=by rw [← hL'.out,List.length_map]; exact hlen'.out
    have hT:T=(acc,0):=by rw [← st.out.lf,List.drop_of_length_le (by omega)]; rfl
    have BW:Hid (Below w.heap.size w wr):=st.out.be;have stc2:Hid (Calls Tryz.prog 37 #[.pointer (some ⟨b,0,none⟩)] wr fun e y=>e=.returned (.string (txt acc))∧Below b wr y):=stc.out acc wr st.out.bl;subst hT;clear st
    go_wp2_with fail
    refine stc2.out.mono ?_;rintro e y ⟨rfl,hb⟩;have BF:Hid (Below w.heap.size w y):=BW.out.trans (by have h:=hb; rw [← hbw.out] at h; exact h);clear hb stc2 BW;go_wp2
    try simp only [Exit.inBlock,Exit.then]
    refine bodyPost_ret (results_tmp2 rfl _ _ _) rfl ?_;exact ⟨rfl,BF.out⟩
def devicesM (l:List UInt8):List Dv × Int × Nat:=if lexErr l=0 then linesM (lrOf (lexRows l)) else ([],(lexLine l:Int),lexErr l)
theorem devices_any (s:ByteArray) (w:World) (T7:Tab7 w):Calls Tryz.prog 19 #[.string s] w (LinesQ 33 w (devicesM s.data.toList)):=by
 have hR:Hid (Calls Tryz.prog 38 #[.string s] w fun e w'=>∃ v,e=.returned (.tuple #[v,.int .i64 ((lexLine s.data.toList:Nat):Int),.int .i64 ((lexErr s.data.toList:Nat):Int)])∧RowsAtC w' v (lexRows s.data.toList)∧Below w.heap.size w w'):=HRC s w T7;clear T7
 by_cases he:lexErr s.data.toList=0
 · have eT:devicesM s.data.toList=linesM (lrOf (lexRows s.data.toList)):=by unfold devicesM; rw [if_pos he]
   rw [eT];rw [he] at hR;have bd:=lines_bd s.data.toList;generalize lexRows s.data.toList=rs at *;have rd:Hid (∀ (x:World) (v:Value),RowsC x.heap.size x v (lrOf rs)→Calls Tryz.prog 20 #[v] x (LinesQ 33 x (linesM (lrOf rs)))):=fun x v h=>lines_any v x (lrOf rs) h bd.1 bd.2.1 bd.2.2
   clear he eT bd;generalize ((lexLine s.data.toList:Nat):Int)=L at *
   go_enter Tryz.func19,Tryz.ntmps19
   go_wp2_with fail
   refine hR.out.mono ?_;rintro e w1 ⟨v,rfl,hv,hb1⟩;have rc:=rd.out w1 v hv.rowsC;generalize linesM (lrOf rs)=T at *;replace rc:Hid (Calls Tryz.prog 20 #[v] w1 (LinesQ 33 w1 T)):=rc;replace hb1:Hid (Below w.heap.size w w1):=hb1;clear hv hR rd
   go_wp2_with fail
   refine rc.out.mono ?_;rintro e y ⟨lv,ps,rfl,h1,h2,h3⟩;replace h2:Hid (DvsAt 33 y lv ps):=h2;replace h3:Hid (Below w.heap.size w y):=hb1.out.trans (h3.mono hb1.out.size);replace h1:Hid (ps.map (·.1)=T.1):=h1;go_wp2
   try simp only [Exit.inBlock,Exit.then]
   refine bodyPost_ret (results_tmp3 rfl _ _ _) rfl ?_;exact ⟨lv,ps,rfl,h1.out,h2.out,h3.out⟩
 · have eT:devicesM s.data.toList=([],(lexLine s.data.toList:Int),lexErr s.data.toList):=by unfold devicesM; rw [if_neg he]
   rw [eT];have e0:(((lexErr s.data.toList:Nat):Int) == 0)=false:=beq_eq_false_iff_ne.2 (by omega);have hne:(((lexErr s.data.toList:Nat):Int) != 0)=true:=by rw [bne,e0]; rfl
   generalize lexRows s.data.toList=rs at *;generalize lexErr s.data.toList=E at *;generalize lexLine s.data.toList=L at *;clear he eT
   go_enter Tryz.func19,Tryz.ntmps19
   go_wp2_with fail
   refine hR.out.mono ?_;rintro e w1 ⟨v,rfl,hv,hb1⟩;replace hb1:Hid (Below w.heap.size w w1):=hb1;clear hv hR;go_wp2
   try simp only [Exit.inBlock,Exit.then]
   refine bodyPost_ret (results_tmp3 rfl _ _ _) rfl ?_;exact ⟨_,[],rfl,rfl,DvsAt.nil _ _,hb1.out⟩
def namesA:Array Value:=(tab.map (fun u=>Value.string u.nm)).toArray
def codesA:Array Value:=(tab.map (fun u=>Value.int .i64 u.code)).toArray
def dimsA:Array Value:=(tab.flatMap (fun u=>[.int .i64 u.m,.int .i64 u.l,.int .i64 u.t,.int .i64 u.k])).toArray
def numsA:Array Value:=(tab.flatMap (fun u=>[.int .i64 u.fn,.int .i64 u.fd,.int .i64 u.on,.int .i64 u.od])).toArray
theorem names_at:∀ (k:Nat) (h:k < tab.length),namesA[k]?=some (.string tab[k].nm)
 | 0,_=>by kernel_rfl
 | 1,_=>by kernel_rfl
 | 2,_=>by kernel_rfl
 | 3,_=>by kernel_rfl
 | 4,_=>by kernel_rfl
 | 5,_=>by kernel_rfl
 | 6,_=>by kernel_rfl
 | 7,_=>by kernel_rfl
 | 8,_=>by kernel_rfl
 | 9,_=>by kernel_rfl
 | 10,_=>by kernel_rfl
 | 11,_=>by kernel_rfl
 | 12,_=>by kernel_rfl
 | 13,_=>by kernel_rfl
 | 14,_=>by kernel_rfl
 | 15,_=>by kernel_rfl
 | 16,_=>by kernel_rfl
 | 17,_=>by kernel_rfl
 | 18,_=>by kernel_rfl
 | 19,_=>by kernel_rfl
 | 20,_=>by kernel_rfl
 | 21,_=>by kernel_rfl
 | 22,_=>by kernel_rfl
 | 23,_=>by kernel_rfl
 | 24,_=>by kernel_rfl
 | k + 25,h=>by exfalso; have:=tab_len; omega
theorem codes_at:∀ (k:Nat) (h:k < tab.length),codesA[k]?=some (.int .i64 tab[k].code)
 | 0,_=>by kernel_rfl
 | 1,_=>by kernel_rfl
 | 2,_=>by kernel_rfl
 | 3,_=>by kernel_rfl
 | 4,_=>by kernel_rfl
 | 5,_=>by kernel_rfl
 | 6,_=>by kernel_rfl
 | 7,_=>by kernel_rfl
 | 8,_=>by kernel_rfl
 | 9,_=>by kernel_rfl
 | 10,_=>by kernel_rfl
 | 11,_=>by kernel_rfl
 | 12,_=>by kernel_rfl
 | 13,_=>by kernel_rfl
 | 14,_=>by kernel_rfl
 | 15,_=>by kernel_rfl
 | 16,_=>by kernel_rfl
 | 17,_=>by kernel_rfl
 | 18,_=>by kernel_rfl
 | 19,_=>by kernel_rfl
 | 20,_=>by kernel_rfl
 | 21,_=>by kernel_rfl
 | 22,_=>by kernel_rfl
 | 23,_=>by kernel_rfl
 | 24,_=>by kernel_rfl
 | k + 25,h=>by exfalso; have:=tab_len; omega
theorem dims_at:∀ (k:Nat) (h:k < tab.length),dimsA[k * 4]?=some (.int .i64 tab[k].m)∧dimsA[k * 4 + 1]?=some (.int .i64 tab[k].l)∧dimsA[k * 4 + 2]?=some (.int .i64 tab[k].t)∧dimsA[k * 4 + 3]?=some (.int .i64 tab[k].k)
 | 0,_=>⟨by kernel_rfl,by kernel_rfl,by kernel_rfl,by kernel_rfl⟩
 | 1,_=>⟨by kernel_rfl,by kernel_rfl,by kernel_rfl,by kernel_rfl⟩
 | 2,_=>⟨by kernel_rfl,by kernel_rfl,by kernel_rfl,by kernel_rfl⟩
 | 3,_=>⟨by kernel_rfl,by kernel_rfl,by kernel_rfl,by kernel_rfl⟩
 | 4,_=>⟨by kernel_rfl,by kernel_rfl,by kernel_rfl,by kernel_rfl⟩
 | 5,_=>⟨by kernel_rfl,by kernel_rfl,by kernel_rfl,by kernel_rfl⟩
 | 6,_=>⟨by kernel_rfl,by kernel_rfl,by kernel_rfl,by kernel_rfl⟩
 | 7,_=>⟨by kernel_rfl,by kernel_rfl,by kernel_rfl,by kernel_rfl⟩
 | 8,_=>⟨by kernel_rfl,by kernel_rfl,by kernel_rfl,by kernel_rfl⟩
 | 9,_=>⟨by kernel_rfl,by kernel_rfl,by kernel_rfl,by kernel_rfl⟩
 | 10,_=>⟨by kernel_rfl,by kernel_rfl,by kernel_rfl,by kernel_rfl⟩
 | 11,_=>⟨by kernel_rfl,by kernel_rfl,by kernel_rfl,by kernel_rfl⟩
 | 12,_=>⟨by kernel_rfl,by kernel_rfl,by kernel_rfl,by kernel_rfl⟩
 | 13,_=>⟨by kernel_rfl,by kernel_rfl,by kernel_rfl,by kernel_rfl⟩
 | 14,_=>⟨by kernel_rfl,by kernel_rfl,by kernel_rfl,by kernel_rfl⟩
 | 15,_=>⟨by kernel_rfl,by kernel_rfl,by kernel_rfl,by kernel_rfl⟩
 | 16,_=>⟨by kernel_rfl,by kernel_rfl,by kernel_rfl,by kernel_rfl⟩
 | 17,_=>⟨by kernel_rfl,by kernel_rfl,by kernel_rfl,by kernel_rfl⟩
 | 18,_=>⟨by kernel_rfl,by kernel_rfl,by kernel_rfl,by kernel_rfl⟩
 | 19,_=>⟨by kernel_rfl,by kernel_rfl,by kernel_rfl,by kernel_rfl⟩
 | 20,_=>⟨by kernel_rfl,by kernel_rfl,by kernel_rfl,by kernel_rfl⟩
 | 21,_=>⟨by kernel_rfl,by kernel_rfl,by kernel_rfl,by kernel_rfl⟩
 | 22,_=>⟨by kernel_rfl,by kernel_rfl,by kernel_rfl,by kernel_rfl⟩
 | 23,_=>⟨by kernel_rfl,by kernel_rfl,by kernel_rfl,by kernel_rfl⟩
 | 24,_=>⟨by kernel_rfl,by kernel_rfl,by kernel_rfl,by kernel_rfl⟩
 | k + 25,h=>by exfalso; have:=tab_len; omega
theorem nums_at:∀ (k:Nat) (h:k < tab.length),numsA[k * 4]?=some (.int .i64 tab[k].fn)∧numsA[k * 4 + 1]?=some (.int .i64 tab[k].fd)∧numsA[k * 4 + 2]?=some (.int .i64 tab[k].on)∧numsA[k * 4 + 3]?=some (.int .i64 tab[k].od)
 | 0,_=>⟨by kernel_rfl,by kernel_rfl,by kernel_rfl,by kernel_rfl⟩
 | 1,_=>⟨by kernel_rfl,by kernel_rfl,by kernel_rfl,by kernel_rfl⟩
 | 2,_=>⟨by kernel_rfl,by kernel_rfl,by kernel_rfl,by kernel_rfl⟩
 | 3,_=>⟨by kernel_rfl,by kernel_rfl,by kernel_rfl,by kernel_rfl⟩
 | 4,_=>⟨by kernel_rfl,by kernel_rfl,by kernel_rfl,by kernel_rfl⟩
 | 5,_=>⟨by kernel_rfl,by kernel_rfl,by kernel_rfl,by kernel_rfl⟩
 | 6,_=>⟨by kernel_rfl,by kernel_rfl,by kernel_rfl,by kernel_rfl⟩
 | 7,_=>⟨by kernel_rfl,by kernel_rfl,by kernel_rfl,by kernel_rfl⟩
 | 8,_=>⟨by kernel_rfl,by kernel_rfl,by kernel_rfl,by kernel_rfl⟩
 | 9,_=>⟨by kernel_rfl,by kernel_rfl,by kernel_rfl,by kernel_rfl⟩
 | 10,_=>⟨by kernel_rfl,by kernel_rfl,by kernel_rfl,by kernel_rfl⟩
 | 11,_=>⟨by kernel_rfl,by kernel_rfl,by kernel_rfl,by kernel_rfl⟩
 | 12,_=>⟨by kernel_rfl,by kernel_rfl,by kernel_rfl,by kernel_rfl⟩
 | 13,_=>⟨by kernel_rfl,by kernel_rfl,by kernel_rfl,by kernel_rfl⟩
 | 14,_=>⟨by kernel_rfl,by kernel_rfl,by kernel_rfl,by kernel_rfl⟩
 | 15,_=>⟨by kernel_rfl,by kernel_rfl,by kernel_rfl,by kernel_rfl⟩
 | 16,_=>⟨by kernel_rfl,by kernel_rfl,by kernel_rfl,by kernel_rfl⟩
 | 17,_=>⟨by kernel_rfl,by kernel_rfl,by kernel_rfl,by kernel_rfl⟩
 | 18,_=>⟨by kernel_rfl,by kernel_rfl,by kernel_rfl,by kernel_rfl⟩
 | 19,_=>⟨by kernel_rfl,by kernel_rfl,by kernel_rfl,by kernel_rfl⟩
 | 20,_=>⟨by kernel_rfl,by kernel_rfl,by kernel_rfl,by kernel_rfl⟩
 | 21,_=>⟨by kernel_rfl,by kernel_rfl,by kernel_rfl,by kernel_rfl⟩
 | 22,_=>⟨by kernel_rfl,by kernel_rfl,by kernel_rfl,by kernel_rfl⟩
 | 23,_=>⟨by kernel_rfl,by kernel_rfl,by kernel_rfl,by kernel_rfl⟩
 | 24,_=>⟨by kernel_rfl,by kernel_rfl,by kernel_rfl,by kernel_rfl⟩
 | k + 25,h=>by exfalso; have:=tab_len; omega
def refW (w:World):World:=((((w.alloc (.cells #[.string ⟨#[]⟩,.int .i64 0,.int .i64 0,.int .i64 0,.int .i64 0,.int .i64 0,.int .i64 0,.int .i64 0,.int .i64 0,.int .i64 0] 115)).alloc (.cells namesA 9)).alloc (.cells dimsA 113)).alloc (.cells numsA 160)).alloc (.cells codesA 3)
theorem wp_at {P:Program} {Q:Exit→Act→World→Prop} {c:Code} {a:Act} {w w':World} (h:w=w') (k:c.wp P Q a w'):c.wp P Q a w:=h ▸ k
theorem rfind_any (s:ByteArray) (w:World) :
 Calls Tryz.prog 63 #[.string s] w fun e w'=>e=.returned (.tuple #[encU (atU s),.bool (isU s)])∧Below w.heap.size w w':=by
 go_enter Tryz.func63,Tryz.ntmps63
 go_wp2;refine wp_at (w':=refW w) (by kernel_rfl) ?_;unfold refW
 go_loop [8] (fun i=>∃ k:Nat,i=.int .i64 (k:Int)∧k≤25∧Hid (∀ j (h:j < tab.length),j < k→tab[j].nm ≠ s)) (fun i=>25 - (intOf i).toNat)
 case atStart=>exact ⟨0,rfl,by omega,fun j h hj=>by omega⟩
 case round=>
  obtain ⟨k,rfl,hk,hno⟩:=hrel
  by_cases hlt:(k:Int) < 25
  · have hkl:k < tab.length:=by rw [tab_len]; omega
    have hnm:=names_at k hkl;have hcd:=codes_at k hkl;obtain ⟨d0,d1,d2,d3⟩:=dims_at k hkl;obtain ⟨n0,n1,n2,n3⟩:=nums_at k hkl;have hyes:Hid (tab[k].nm=s→isU s=true∧atU s=tab[k]):=fun h=>atU_first (pre:=tab.take k) (rest:=tab.drop (k + 1)) (by rw [← List.drop_eq_getElem_cons,List.take_append_drop]) (fun x hx=>by
     obtain ⟨j,hj,rfl⟩:=List.mem_iff_getElem.1 hx;rw [List.length_take] at hj;rw [List.getElem_take];exact hno.out j (by omega) (by omega)) h
    have hnext:Hid (tab[k].nm ≠ s→∀ j (h:j < tab.length),j < k + 1→tab[j].nm ≠ s):=fun h j hj hjk=>by
     by_cases e:j=k
     · subst e; exact h
     · exact hno.out j hj (by omega)
    clear hno;generalize tab[k]=u at *;clear hkl;obtain ⟨nm,um,ul,ut,uk,fn,fd,on,od,code⟩:=u;simp only at hnm hcd d0 d1 d2 d3 n0 n1 n2 n3 hyes hnext
    by_cases hs:nm=s
    · have hq:=nm_yes hs;have Y:Hid (isU s=true∧atU s=⟨s,um,ul,ut,uk,fn,fd,on,od,code⟩):=by
       have:=hyes.out hs;rw [hs] at this;exact this
      clear hs hyes hnext;go_wp2
      go_region
      go_wp2;go_returns;exact ⟨by rw [Y.out.1,Y.out.2],by go_grown⟩
    · have hq:=nm_no hs;have hn2:Hid (∀ j (h:j < tab.length),j < k + 1→tab[j].nm ≠ s):=hnext.out hs;clear hs hyes hnext;go_wp2;exact ⟨⟨k + 1,by simp,by omega,hn2⟩,by simp [intOf]; omega⟩
  · obtain rfl:k=25:=by omega
    have hz:Hid (isU s=false∧atU s=noU):=isU_not (s:=s) (fun u hu=>by
     obtain ⟨j,hj,rfl⟩:=List.mem_iff_getElem.1 hu;exact hno.out j hj (by rw [tab_len] at hj; exact hj))
    clear hno;go_wp2;go_returns;exact ⟨by rw [hz.out.1,hz.out.2]; rfl,by go_grown⟩
theorem fldE_k {sz:Int} {f:Fd} {T:Int} (h:fldE sz f=T) (hk:gdK f=false):6=T:=by rw [← h,fldE_form,if_neg (by rw [hk]; decide)]
theorem fldE_p {sz:Int} {f:Fd} {T:Int} (h:fldE sz f=T) (hk:gdK f=true) (hp:gdP sz f=false):11=T:=by rw [← h,fldE_form,if_pos hk,if_neg (by rw [hp]; decide)]
theorem fldE_r {sz:Int} {f:Fd} {T:Int} (h:fldE sz f=T) (hk:gdK f=true) (hp:gdP sz f=true) (hr:gdR f=false):1=T:=by rw [← h,fldE_form,if_pos hk,if_pos hp,if_neg (by rw [hr]; decide)]
theorem fldE_u {sz:Int} {f:Fd} {T:Int} (h:fldE sz f=T) (hk:gdK f=true) (hp:gdP sz f=true) (hr:gdR f=true) (hu:gdU f=false):4=T:=by rw [← h,fldE_form,if_pos hk,if_pos hp,if_pos hr,if_neg (by rw [hu]; decide)]
theorem fldE_ok {sz:Int} {f:Fd} {T:Int} (h:fldE sz f=T) (hk:gdK f=true) (hp:gdP sz f=true) (hr:gdR f=true) (hu:gdU f=true):0=T:=by rw [← h,fldE_form,if_pos hk,if_pos hp,if_pos hr,if_pos hu]
theorem gdK_wd {f:Fd} (h:gdK f=true):1≤f.wd∧f.wd≤8:=by
 unfold gdK at h;rw [Bool.and_eq_true] at h;rcases rgt_cases h.2 with k | k <;> omega
theorem gdP_yes {sz:Int} {f:Fd} (hk:gdK f=true) (h0:0≤f.pl) (h:f.pl + f.wd≤sz):gdP sz f=true:=by
 have:=gdK_wd hk;unfold gdP;simp only [Bool.and_eq_true,decide_eq_true_eq];omega
theorem gdP_low {sz:Int} {f:Fd} (h0:f.pl < 0):gdP sz f=false:=by
 unfold gdP;rw [decide_eq_false (by omega)]; rfl
theorem gdP_high {sz:Int} {f:Fd} (h:sz < f.pl + f.wd):gdP sz f=false:=by
 unfold gdP;rw [decide_eq_false (by omega:¬ f.wd≤sz - f.pl)]; simp
theorem gdP_far {sz:Int} {f:Fd} (h:sz≤f.pl):gdP sz f=false:=by
 unfold gdP;rw [decide_eq_false (by omega:¬ f.pl < sz)]; simp
theorem rfield_any (sz:Int) (f:Fd) (w:World) (hi:FdI f) (hz:I64 sz) (hs:sz≤1000000):Calls Tryz.prog 27 #[.int .i64 sz,fdV f] w (QA w (fldE sz f)):=by
 have nc:Hid (∀ x,Calls Tryz.prog 25 #[.string (txt f.nm)] x fun e w'=>e=.returned (.bool (nameB f.nm))∧Below x.heap.size x w'):=fun x=>same_b (rname_any (txt f.nm) x)
 have rc:Hid (∀ x,Calls Tryz.prog 61 #[.string (txt f.kd),.int .i64 f.wd] x fun e w'=>e=.returned (.bool (rgtB (kindI (txt f.kd)) f.wd))∧Below x.heap.size x w'):=fun x=>same_b (bright_any (txt f.kd) f.wd x hi.wd)
 have r1:Hid (∀ x,Calls Tryz.prog 62 #[rv f.sn f.sd] x fun e w'=>e=.returned (.bool (rightB f.sn f.sd))∧Below x.heap.size x w'):=fun x=>rright_any f.sn f.sd x hi.sn hi.sd
 have r2:Hid (∀ x,Calls Tryz.prog 62 #[rv f.on f.od] x fun e w'=>e=.returned (.bool (rightB f.on f.od))∧Below x.heap.size x w'):=fun x=>rright_any f.on f.od x hi.on hi.od
 have fd:Hid (∀ x,Calls Tryz.prog 63 #[.string (txt f.un)] x fun e w'=>e=.returned (.tuple #[encU (atU (txt f.un)),.bool (gdU f)])∧Below x.heap.size x w'):=fun x=>rfind_any (txt f.un) x
 have F0:Hid (FdB (w.alloc (.cells #[.string (txt f.nm),.int .i64 f.pl,.string (txt f.kd),.int .i64 f.wd,.int .i64 f.sn,.int .i64 f.sd,.int .i64 f.on,.int .i64 f.od,.string (txt f.un)] 64)) w.heap.size f):=FdB.new w f _;have B0:Hid (Below w.heap.size w (w.alloc (.cells #[.string (txt f.nm),.int .i64 f.pl,.string (txt f.kd),.int .i64 f.wd,.int .i64 f.sn,.int .i64 f.sd,.int .i64 f.on,.int .i64 f.od,.string (txt f.un)] 64))):=(Below.refl _ _).alloc (Nat.le_refl _) _;obtain ⟨T,hT⟩:∃ T,fldE sz f=T:=⟨_,rfl⟩;rw [hT];replace hT:Hid (fldE sz f=T):=hT;obtain ⟨A,hA⟩:∃ A,nameB f.nm=A:=⟨_,rfl⟩;obtain ⟨K,hK⟩:∃ K,rgtB (kindI (txt f.kd)) f.wd=K:=⟨_,rfl⟩;obtain ⟨R1,hR1⟩:∃ R,rightB f.sn f.sd=R:=⟨_,rfl⟩;obtain ⟨R2,hR2⟩:∃ R,rightB f.on f.od=R:=⟨_,rfl⟩;obtain ⟨U,hU⟩:∃ U,gdU f=U:=⟨_,rfl⟩;rw [hA] at nc;rw [hK] at rc;rw [hR1] at r1;rw [hR2] at r2;rw [hU] at fd;have hGK:Hid (gdK f=(A && K)):=by unfold Hid gdK; rw [hA,hK]
 have hGR:Hid (gdR f=(R1 && R2)):=by unfold Hid gdR; rw [hR1,hR2]
 replace hU:Hid (gdU f=U):=hU;obtain ⟨hz1,hz2⟩:=hz;obtain ⟨hp1,hp2⟩:=hi.pl;clear hi hA hK hR1 hR2;generalize atU (txt f.un)=uu at *
 go_enter Tryz.func27,Tryz.ntmps27
 go_wp2_with fail
 refine (nc.out _).mono ?_;rintro e y1 ⟨rfl,hb⟩;have F1:Hid (FdB y1 w.heap.size f):=F0.out.below hb;have B1:Hid (Below w.heap.size w y1):=B0.out.trans (hb.mono B0.out.size);clear hb F0 B0 nc
 cases A
 · have fin:Hid (6=T):=fldE_k hT.out hGK.out;clear rc r1 r2 fd hT hGK hGR hU F1;go_wp2;go_ret;exact ⟨ret_int fin.out,B1.out⟩
 obtain ⟨_,_,c2,c3,_⟩:=F1.out.cells
 go_wp2_with fail
 refine (rc.out _).mono ?_;rintro e y2 ⟨rfl,hb⟩;have F2:Hid (FdB y2 w.heap.size f):=F1.out.below hb;have B2:Hid (Below w.heap.size w y2):=B1.out.trans (hb.mono B1.out.size);clear hb F1 B1 rc c2 c3
 cases K
 · have fin:Hid (6=T):=fldE_k hT.out hGK.out;clear r1 r2 fd hT hGK hGR hU F2;go_wp2;go_ret;exact ⟨ret_int fin.out,B2.out⟩
 have hk:gdK f=true:=hGK.out;obtain ⟨hw1,hw2⟩:=gdK_wd hk;replace hk:Hid (gdK f=true):=hk;clear hGK;obtain ⟨_,c1,_,c3,_⟩:=F2.out.cells
 by_cases q1:f.pl < 0
 · have fin:Hid (11=T):=fldE_p hT.out hk.out (gdP_low q1);clear r1 r2 fd hT hk hGR hU F2;generalize f.pl=pl at *;generalize f.wd=wd at *;go_wp2;go_ret;exact ⟨ret_int fin.out,B2.out⟩
 by_cases q2:1000000 < f.pl
 · have fin:Hid (11=T):=fldE_p hT.out hk.out (gdP_far (by omega));clear r1 r2 fd hT hk hGR hU F2;generalize f.pl=pl at *;generalize f.wd=wd at *;go_wp2;go_ret;exact ⟨ret_int fin.out,B2.out⟩
 by_cases q3:sz < f.pl + f.wd
 · have fin:Hid (11=T):=fldE_p hT.out hk.out (gdP_high q3);clear r1 r2 fd hT hk hGR hU F2;generalize f.pl=pl at *;generalize f.wd=wd at *;go_wp2;go_ret;exact ⟨ret_int fin.out,B2.out⟩
 have hp:Hid (gdP sz f=true):=gdP_yes hk.out (by omega) (by omega);obtain ⟨_,_,_,_,c4,c5,_⟩:=F2.out.cells
 go_wp2_with fail
 refine (r1.out _).mono ?_;rintro e y3 ⟨rfl,hb⟩;have F3:Hid (FdB y3 w.heap.size f):=F2.out.below hb;have B3:Hid (Below w.heap.size w y3):=B2.out.trans (hb.mono B2.out.size);clear hb F2 B2 r1 c1 c3 c4 c5 q1 q2 q3 hw1 hw2 hp1 hp2
 cases R1
 · have fin:Hid (1=T):=fldE_r hT.out hk.out hp.out hGR.out;clear r2 fd hT hk hGR hU hp F3;go_wp2;go_ret;exact ⟨ret_int fin.out,B3.out⟩
 obtain ⟨_,_,_,_,_,_,c6,c7,_⟩:=F3.out.cells
 go_wp2_with fail
 refine (r2.out _).mono ?_;rintro e y4 ⟨rfl,hb⟩;have F4:Hid (FdB y4 w.heap.size f):=F3.out.below hb;have B4:Hid (Below w.heap.size w y4):=B3.out.trans (hb.mono B3.out.size);clear hb F3 B3 r2 c6 c7
 cases R2
 · have fin:Hid (1=T):=fldE_r hT.out hk.out hp.out hGR.out;clear fd hT hk hGR hU hp F4;go_wp2;go_ret;exact ⟨ret_int fin.out,B4.out⟩
 have c8:=F4.out.c 8 _ rfl;clear F4
 go_wp2_with fail
 refine (fd.out _).mono ?_;rintro e y5 ⟨rfl,hb⟩;have B5:Hid (∀ o,Below w.heap.size w (y5.alloc o)):=fun o=>(B4.out.trans (hb.mono B4.out.size)).alloc (Nat.le_trans B4.out.size hb.size) o
 clear hb fd c8 B4
 cases U
 · have fin:Hid (4=T):=fldE_u hT.out hk.out hp.out hGR.out hU.out;clear hT hk hGR hU hp;go_wp2;go_ret;exact ⟨ret_int fin.out,B5.out _⟩
 · have fin:Hid (0=T):=fldE_ok hT.out hk.out hp.out hGR.out hU.out;clear hT hk hGR hU hp;go_wp2;go_ret;exact ⟨ret_int fin.out,B5.out _⟩
theorem gdN_iff {d:Dv}:gdN d=true ↔ (0≤d.st∧d.st≤255)∧(0≤d.es∧d.es≤255)∧(0≤d.mx∧d.mx≤255)∧(1≤d.sz∧d.sz≤32)∧(1≤d.po∧d.po≤1000)∧(1≤d.ti∧d.ti≤1000)∧(1≤d.ag∧d.ag≤1000)∧(0≤d.re∧d.re≤10)∧(1≤(d.rq.length:Int)∧(d.rq.length:Int)≤16)∧(0≤(d.fs.length:Int)∧(d.fs.length:Int)≤8):=by
 unfold gdN gd1 gd2 gd3 gd4 gd5 gd6 inB;simp only [Bool.and_eq_true,decide_eq_true_eq];omega
theorem ck_6 {d:Dv} {T:Int} (h:ckE d=T) (hk:¬ (nameB d.nm=true∧gdN d=true)):6=T:=by rw [← h,ckE_form,if_neg hk]
theorem ck_4 {d:Dv} {T:Int} (h:ckE d=T) (h1:nameB d.nm=true) (h2:gdN d=true) (h3:isSum (txt d.sm)=false):4=T:=by rw [← h,ckE_form,if_pos ⟨h1,h2⟩,if_neg (by rw [h3]; decide)]
theorem ck_10 {d:Dv} {T:Int} (h:ckE d=T) (h1:nameB d.nm=true) (h2:gdN d=true) (h3:isSum (txt d.sm)=true) (h4:gdC d=false):10=T:=by rw [← h,ckE_form,if_pos ⟨h1,h2⟩,if_pos h3,if_neg (by rw [h4]; decide)]
theorem ck_11 {d:Dv} {T:Int} (h:ckE d=T) (h1:nameB d.nm=true) (h2:gdN d=true) (h3:isSum (txt d.sm)=true) (h4:gdC d=true) (h5:gdT d=false):11=T:=by rw [← h,ckE_form,if_pos ⟨h1,h2⟩,if_pos h3,if_pos h4,if_neg (by rw [h5]; decide)]
theorem ck_fs {d:Dv} {T:Int} (h:ckE d=T) (h1:nameB d.nm=true) (h2:gdN d=true) (h3:isSum (txt d.sm)=true) (h4:gdC d=true) (h5:gdT d=true):FsI d.sz [] d.fs T:=by unfold FsI; rw [← h,ckE_form,if_pos ⟨h1,h2⟩,if_pos h3,if_pos h4,if_pos h5]
theorem FsI.err {sz:Int} {seen:List Wd} {f:Fd} {l:List Fd} {T:Int} (h:FsI sz seen (f :: l) T) (h0:¬ fldE sz f=0):fldE sz f=T:=by unfold FsI at h; rw [flds_cons,if_neg h0] at h; exact h
theorem FsI.twice {sz:Int} {seen:List Wd} {f:Fd} {l:List Fd} {T:Int} (h:FsI sz seen (f :: l) T) (h0:fldE sz f=0) (hm:f.nm ∈ seen):8=T:=by unfold FsI at h; rw [flds_cons,if_pos h0,if_pos hm] at h; exact h
theorem FsI.go {sz:Int} {seen:List Wd} {f:Fd} {l:List Fd} {T:Int} (h:FsI sz seen (f :: l) T) (h0:fldE sz f=0) (hm:¬ f.nm ∈ seen):FsI sz (seen ++ [f.nm]) l T:=by unfold FsI at *; rw [flds_cons,if_pos h0,if_neg hm] at h; exact h
theorem rck_a (d:Dv) (pf pq:Option Addr) (nf cf nq cq:Nat) (w:World) (hf:d.fs.length=nf) (hq:d.rq.length=nq) (hfv:FldsV w (.slice pf nf cf) d.fs) (hbad:¬ nameB d.nm=true ∨ d.st < 0 ∨ 255 < d.st ∨ d.es < 0 ∨ 255 < d.es ∨ d.mx < 0 ∨ 255 < d.mx ∨ d.sz < 1 ∨ 32 < d.sz ∨ 8 < (nf:Int) ∨ (nq:Int) < 1 ∨ 16 < (nq:Int)):Calls Tryz.prog 12 #[dvV d (.slice pf nf cf) (.slice pq nq cq)] w (QA w 6):=by
 have nc:Hid (∀ x,Calls Tryz.prog 25 #[.string (txt d.nm)] x fun e w'=>e=.returned (.bool (nameB d.nm))∧Below x.heap.size x w'):=fun x=>same_b (rname_any (txt d.nm) x)
 have D0:Hid (DevB (w.alloc (.cells #[.string (txt d.nm),.int .i64 d.st,.int .i64 d.es,.int .i64 d.mx,.int .i64 d.sz,.string (txt d.sm),.slice pf nf cf,.slice pq nq cq,.int .i64 d.po,.int .i64 d.ti,.int .i64 d.re,.int .i64 d.ag] 25)) w.heap.size d (.slice pf nf cf) (.slice pq nq cq)):=DevB.new hfv _;have B0:Hid (Below w.heap.size w (w.alloc (.cells #[.string (txt d.nm),.int .i64 d.st,.int .i64 d.es,.int .i64 d.mx,.int .i64 d.sz,.string (txt d.sm),.slice pf nf cf,.slice pq nq cq,.int .i64 d.po,.int .i64 d.ti,.int .i64 d.re,.int .i64 d.ag] 25))):=(Below.refl _ _).alloc (Nat.le_refl _) _;clear hf hq hfv
 go_enter Tryz.func12,Tryz.ntmps12
 go_wp2_with fail
 refine (nc.out _).mono ?_;rintro e y1 ⟨rfl,hb⟩;have D1:Hid (DevB y1 w.heap.size d (.slice pf nf cf) (.slice pq nq cq)):=D0.out.below hb;have B1:Hid (Below w.heap.size w y1):=B0.out.trans (hb.mono B0.out.size);clear hb D0 B0 nc
 cases hA:nameB d.nm
 · clear hbad hA D1;go_wp2;go_ret;exact ⟨rfl,B1.out⟩
 replace hbad:=hbad.resolve_left (by simp [hA]);obtain ⟨_,z1,z2,z3,z4,z5,z6,z7,z8,z9,z10,z11⟩:=D1.out.cells;clear D1 hA;generalize d.st=st_ at *;generalize d.es=es_ at *;generalize d.mx=mx_ at *;generalize d.sz=sz_ at *;generalize d.po=po_ at *;generalize d.ti=ti_ at *;generalize d.re=re_ at *;generalize d.ag=ag_ at *
 by_cases q0:st_ < 0
 · clear hbad;go_wp2;go_ret;exact ⟨rfl,B1.out⟩
 replace hbad:=hbad.resolve_left q0
 by_cases q1:255 < st_
 · clear hbad;go_wp2;go_ret;exact ⟨rfl,B1.out⟩
 replace hbad:=hbad.resolve_left q1
 by_cases q2:es_ < 0
 · clear hbad;go_wp2;go_ret;exact ⟨rfl,B1.out⟩
 replace hbad:=hbad.resolve_left q2
 by_cases q3:255 < es_
 · clear hbad;go_wp2;go_ret;exact ⟨rfl,B1.out⟩
 replace hbad:=hbad.resolve_left q3
 by_cases q4:mx_ < 0
 · clear hbad;go_wp2;go_ret;exact ⟨rfl,B1.out⟩
 replace hbad:=hbad.resolve_left q4
 by_cases q5:255 < mx_
 · clear hbad;go_wp2;go_ret;exact ⟨rfl,B1.out⟩
 replace hbad:=hbad.resolve_left q5
 by_cases q6:sz_ < 1
 · clear hbad;go_wp2;go_ret;exact ⟨rfl,B1.out⟩
 replace hbad:=hbad.resolve_left q6
 by_cases q7:32 < sz_
 · clear hbad;go_wp2;go_ret;exact ⟨rfl,B1.out⟩
 replace hbad:=hbad.resolve_left q7
 by_cases q8:8 < (nf:Int)
 · clear hbad;go_wp2;go_ret;exact ⟨rfl,B1.out⟩
 replace hbad:=hbad.resolve_left q8
 by_cases q9:(nq:Int) < 1
 · clear hbad;go_wp2;go_ret;exact ⟨rfl,B1.out⟩
 replace hbad:=hbad.resolve_left q9
 by_cases q10:16 < (nq:Int)
 · clear hbad;go_wp2;go_ret;exact ⟨rfl,B1.out⟩
 exact absurd hbad q10
theorem rck_b (d:Dv) (pf pq:Option Addr) (nf cf nq cq:Nat) (w:World) (hf:d.fs.length=nf) (hq:d.rq.length=nq) (hfv:FldsV w (.slice pf nf cf) d.fs) (hn:nameB d.nm=true) (h1:¬ d.st < 0∧¬ 255 < d.st∧¬ d.es < 0∧¬ 255 < d.es∧¬ d.mx < 0∧¬ 255 < d.mx∧¬ d.sz < 1∧¬ 32 < d.sz∧¬ 8 < (nf:Int)∧¬ (nq:Int) < 1∧¬ 16 < (nq:Int)) (hbad:d.po < 1 ∨ 1000 < d.po ∨ d.ti < 1 ∨ 1000 < d.ti ∨ d.ag < 1 ∨ 1000 < d.ag ∨ d.re < 0 ∨ 10 < d.re):Calls Tryz.prog 12 #[dvV d (.slice pf nf cf) (.slice pq nq cq)] w (QA w 6):=by
 have nc:Hid (∀ x,Calls Tryz.prog 25 #[.string (txt d.nm)] x fun e w'=>e=.returned (.bool (nameB d.nm))∧Below x.heap.size x w'):=fun x=>same_b (rname_any (txt d.nm) x)
 have D0:Hid (DevB (w.alloc (.cells #[.string (txt d.nm),.int .i64 d.st,.int .i64 d.es,.int .i64 d.mx,.int .i64 d.sz,.string (txt d.sm),.slice pf nf cf,.slice pq nq cq,.int .i64 d.po,.int .i64 d.ti,.int .i64 d.re,.int .i64 d.ag] 25)) w.heap.size d (.slice pf nf cf) (.slice pq nq cq)):=DevB.new hfv _;have B0:Hid (Below w.heap.size w (w.alloc (.cells #[.string (txt d.nm),.int .i64 d.st,.int .i64 d.es,.int .i64 d.mx,.int .i64 d.sz,.string (txt d.sm),.slice pf nf cf,.slice pq nq cq,.int .i64 d.po,.int .i64 d.ti,.int .i64 d.re,.int .i64 d.ag] 25))):=(Below.refl _ _).alloc (Nat.le_refl _) _;rw [hn] at nc;clear hf hq hfv hn;obtain ⟨p0,p1,p2,p3,p4,p5,p6,p7,p8,p9,p10⟩:=h1
 go_enter Tryz.func12,Tryz.ntmps12
 go_wp2_with fail
 refine (nc.out _).mono ?_;rintro e y1 ⟨rfl,hb⟩;have D1:Hid (DevB y1 w.heap.size d (.slice pf nf cf) (.slice pq nq cq)):=D0.out.below hb;have B1:Hid (Below w.heap.size w y1):=B0.out.trans (hb.mono B0.out.size);clear hb D0 B0 nc;obtain ⟨_,z1,z2,z3,z4,z5,z6,z7,z8,z9,z10,z11⟩:=D1.out.cells;clear D1;generalize d.st=st_ at *;generalize d.es=es_ at *;generalize d.mx=mx_ at *;generalize d.sz=sz_ at *;generalize d.po=po_ at *;generalize d.ti=ti_ at *;generalize d.re=re_ at *;generalize d.ag=ag_ at *
 by_cases q0:po_ < 1
 · clear hbad;go_wp2;go_ret;exact ⟨rfl,B1.out⟩
 replace hbad:=hbad.resolve_left q0
 by_cases q1:1000 < po_
 · clear hbad;go_wp2;go_ret;exact ⟨rfl,B1.out⟩
 replace hbad:=hbad.resolve_left q1
 by_cases q2:ti_ < 1
 · clear hbad;go_wp2;go_ret;exact ⟨rfl,B1.out⟩
 replace hbad:=hbad.resolve_left q2
 by_cases q3:1000 < ti_
 · clear hbad;go_wp2;go_ret;exact ⟨rfl,B1.out⟩
 replace hbad:=hbad.resolve_left q3
 by_cases q4:ag_ < 1
 · clear hbad;go_wp2;go_ret;exact ⟨rfl,B1.out⟩
 replace hbad:=hbad.resolve_left q4
 by_cases q5:1000 < ag_
 · clear hbad;go_wp2;go_ret;exact ⟨rfl,B1.out⟩
 replace hbad:=hbad.resolve_left q5
 by_cases q6:re_ < 0
 · clear hbad;go_wp2;go_ret;exact ⟨rfl,B1.out⟩
 replace hbad:=hbad.resolve_left q6
 by_cases q7:10 < re_
 · clear hbad;go_wp2;go_ret;exact ⟨rfl,B1.out⟩
 exact absurd hbad q7
end Go.Proofs.YthabffjgdhfbmaaGreatDoor
