/-
  Texts that belong together, one behind the other: DsBk. Conditions: as each says.
-/
import Derived.BigQuiet
import Derived.Deep.CutRange
import Derived.Deep.QuietTactic
import Derived.Deep.RegionHeld3
import Derived.Lib.QuietBelowIn
import Derived.Maps.AppendAt
import Derived.RangeFuncCalls
import Derived.Sort.BigQuietIn
import Derived.Test.YthabffjgdhfbmaaGreatDoorProg
import Derived.Test.YthabffjgdhfbmaaGreatDoorJm1
import Derived.Test.YthabffjgdhfbmaaGreatDoorJm2
import Derived.Test.YthabffjgdhfbmaaGreatDoorJm3
import Derived.Test.YthabffjgdhfbmaaGreatDoorJm4
import Derived.Test.YthabffjgdhfbmaaGreatDoorJm5
import Derived.Test.YthabffjgdhfbmaaGreatDoorJm6
import Derived.Test.YthabffjgdhfbmaaGreatDoorJm7
import Derived.Test.YthabffjgdhfbmaaGreatDoorJm8
import Derived.Test.YthabffjgdhfbmaaGreatDoorJm11
set_option maxRecDepth 100000
set_option maxHeartbeats 32000000
set_option linter.unusedVariables false
namespace Go.Proofs.YthabffjgdhfbmaaGreatDoor
open Go.RowKit
theorem kpB {wq z:World} {a:Addr} {v:Value} (h:Below wq.heap.size wq z) (hc:wq.cell? a=some v):z.cell? a=some v:=(h.cell (p:=a) (block_lt_of_cell hc)).trans hc
theorem BkA.ro {w wq:World} {u:Value} {c:List Rn} {ln:Int} {ws:List Wd} {m:Nat} {γ:BkG} {z3:World} (h:BkA w wq u c ln ws m γ z3) {go K N capo:Nat} {us0:List Value} {cs0:List (List Rn)} (st:BkSt w wq (.slice (some ⟨go,0,none⟩) N capo) (us0 ++ [u]) (cs0 ++ [c])) (hK:us0.length=K) :
 z3.cell? ⟨go,K,none⟩=some u∧z3.frozen? ⟨go,K,none⟩=false:=by
 obtain ⟨z2,hb,hg,_⟩:=h.z;have s2:=st.below hb;have hu:=s2.inn us0.length (by simp) (by have:=s2.len; simp at this; simp; omega);have e1:(us0 ++ [u])[us0.length]'(by simp)=u:=by simp
 rw [e1] at hu;have nn:N=us0.length + 1:=by
  rcases st.ro.2 with ⟨e,_⟩ | ⟨g,cap,cur,e,_⟩
  · cases e
  · injection e with _ e _; simpa using e
 have ro3:=World.ownsRow.kept s2.ro hg (own_apart s2.ro hu (by decide));rw [show (us0 ++ [u]).length=us0.length + 1 by simp] at ro3;subst nn;subst hK;refine ⟨?_,World.ownsRow.frozenAt ro3 _⟩;rw [World.ownsRow.cellAt ro3 _ (by omega)];simp
def ClnC (N:Nat) (wq:World) (v:Value) (ws:List Wd) (m:Nat):Prop:=∀ x,Below wq.heap.size wq x→Calls Tryz.prog 74 #[v] x fun e y=>∃ p c,e=.returned (.slice p m c)∧Below x.heap.size x y∧WcAt N y (.slice p m c) ws
theorem clnC {wq:World} {v:Value} {ws:List Wd} {L0:Nat} (hv:WdsAt L0 wq v ws) (hl:(ws.length:Int)≤4500) (h0:L0≤wq.heap.size) {m:Nat} (hm:ws.length=m):ClnC L0 wq v ws m:=fun x hb=>by
 subst hm;refine (clone_any v x ws (((hv.up h0).below hb).up hb.size) hl).mono ?_;rintro e y ⟨p,c,h1,h2,h3⟩;exact ⟨p,c,h1,h2,h3.base (Nat.le_trans h0 hb.size)⟩
def WdR (cs:List (List Rn)):Prop:=∀ c ∈ cs,∀ f ∈ c,∃ p cc,f.2=.slice p f.1.2.length cc
structure BkRW (rs:List Lr) (cs:List (List Rn)):Prop where
 r:BkR rs (outR cs)
 w:WdR cs
def NxR (rs:List Lr) (k m:Nat) (cs0:List (List Rn)) (c:List Rn) (r:Lr):Prop:=∀ p cc,BkRW (rs.take (k + 1)) (cs0 ++ [c ++ [(r,.slice p m cc)]])
theorem wd_more {cs0:List (List Rn)} {c:List Rn} {f:Rn} (h0:WdR cs0) (hc:∀ f ∈ c,∃ p cc,f.2=.slice p f.1.2.length cc) (hf:∃ p cc,f.2=.slice p f.1.2.length cc):WdR (cs0 ++ [c ++ [f]]):=by
 intro d hd q hq;rcases List.mem_append.1 hd with hd | hd
 · exact h0 d hd q hq
 · rw [List.mem_singleton.1 hd] at hq;rcases List.mem_append.1 hq with hq | hq
   · exact hc q hq
   · rw [List.mem_singleton.1 hq]; exact hf
theorem nx_new {rs:List Lr} {k m:Nat} {cs:List (List Rn)} {r:Lr} (h:BkRW (rs.take k) cs) (hr:rs[k]?=some r) (hn:cs=[] ∨ isDev r=true) (hm:r.2.length=m):NxR rs k m cs [] r:=fun p cc=>by
 refine ⟨?_,wd_more h.w (fun f hf=>by cases hf) ⟨p,cc,by rw [hm]⟩⟩;rw [List.take_add_one,hr];have e:outR (cs ++ [ [] ++ [(r,.slice p m cc)] ])=outR cs ++ [ [r] ]:=by unfold outR; simp
 rw [e];exact h.r.new (hn.imp (fun e=>by rw [e]; rfl) id)
theorem nx_old {rs:List Lr} {k m:Nat} {cs0:List (List Rn)} {c:List Rn} {r:Lr} (h:BkRW (rs.take k) (cs0 ++ [c])) (hr:rs[k]?=some r) (hn:isDev r=false) (hm:r.2.length=m):NxR rs k m cs0 c r:=fun p cc=>by
 refine ⟨?_,wd_more (fun d hd=>h.w d (by simp [hd])) (fun f hf=>h.w c (by simp) f hf) ⟨p,cc,by rw [hm]⟩⟩;have h:=h.r;rw [List.take_add_one,hr];have e:outR (cs0 ++ [c ++ [(r,.slice p m cc)] ])=outR cs0 ++ [c.map (·.1) ++ [r] ]:=by unfold outR; simp
 have e2:outR (cs0 ++ [c])=outR cs0 ++ [c.map (·.1)]:=by unfold outR; simp
 rw [e2] at h;rw [e];exact h.old hn
theorem BkR.cnt {rs:List Lr} {cs:List (List Rn)} (h:BkR rs (outR cs)):cs.length≤rs.length∧∀ c ∈ cs,c.length≤rs.length:=by
 have e:(outR cs).flatten.length=rs.length:=by rw [h.flat]
 have ne:∀ c ∈ cs,c ≠ []:=fun c hc e=>h.ne (c.map (·.1)) (List.mem_map.2 ⟨c,hc,rfl⟩) (by rw [e]; rfl)
 clear h
 induction cs generalizing rs with
 | nil=>exact ⟨Nat.zero_le _,fun c hc=>by cases hc⟩
 | cons d cs ih=>
  have e1:(outR (d :: cs)).flatten=d.map (·.1) ++ (outR cs).flatten:=rfl;rw [e1,List.length_append,List.length_map] at e;have k:=ih (rs:=(outR cs).flatten) rfl (fun c hc=>ne c (by simp [hc]));have hd:0 < d.length:=List.length_pos_iff.2 (ne d (by simp));refine ⟨by rw [List.length_cons]; omega,fun c hc=>?_⟩;rcases List.mem_cons.1 hc with rfl | hc
  · omega
  · have:=k.2 c hc; omega
theorem gd_no {x:Array Bool} {j:Nat} (h:x.getD j false=false) (h':x[j]?.getD false=true):False:=by
 rw [Array.getD_eq_getD_getElem?,h'] at h; cases h
theorem BkR.none' {cs:List (List Rn)} (h:BkR [] (outR cs)):cs=[]:=by
 cases cs with
 | nil=>rfl
 | cons c cs=>
  exfalso
  have e:=h.flat;have e1:(outR (c :: cs)).flatten=c.map (·.1) ++ (outR cs).flatten:=rfl;rw [e1] at e;exact h.ne (c.map (·.1)) (by simp [outR]) (List.append_eq_nil_iff.1 e).1
theorem wds_on {w x y:World} {v:Value} {ws:List Wd} (h:WdsAt w.heap.size x v ws) (hx:Below w.heap.size w x) (hy:Below w.heap.size w y):WdsAt w.heap.size y v ws:=by
 rcases h with h | ⟨g,o,cap,h1,h2,h3,h4⟩
 · exact .inl h
 · exact .inr ⟨g,o,cap,h1,h2,fun j hj=>(hy.cell (p:=⟨g,o + j,none⟩) h4).trans ((hx.cell (p:=⟨g,o + j,none⟩) h4).symm.trans (h3 j hj)),h4⟩
theorem WdsAt.cons2' {L0:Nat} {x:World} {v:Value} {z:Wd} {ws:List Wd} (h:WdsAt L0 x v (z :: ws)):∃ g o cap,v=.slice (some ⟨g,o,none⟩) (ws.length + 1) cap∧StrsIn x g o (z :: ws)∧g < L0:=by
 obtain ⟨g,o,cap,h1,h2,h3,_⟩:=h.cons;exact ⟨g,o,cap,h1,h2,h3⟩
theorem BkSt.cell {w x:World} {go N capo K:Nat} {us0:List Value} {u:Value} {cs0:List (List Rn)} {c:List Rn} (st:BkSt w x (.slice (some ⟨go,0,none⟩) N capo) (us0 ++ [u]) (cs0 ++ [c])) (hK:us0.length=K):x.cell? ⟨go,K,none⟩=some u:=by
 have nn:N=us0.length + 1:=by
  rcases st.ro.2 with ⟨e,_⟩ | ⟨g,cap,cur,e,_⟩
  · cases e
  · injection e with _ e _; simpa using e
 have ro:=st.ro;rw [show (us0 ++ [u]).length=us0.length + 1 by simp] at ro;subst nn;subst hK;rw [World.ownsRow.cellAt ro _ (by omega)];simp
theorem BkSt.last {w x:World} {vo:Value} {us0:List Value} {u:Value} {cs0:List (List Rn)} {c:List Rn} (st:BkSt w x vo (us0 ++ [u]) (cs0 ++ [c])):x.ownsRow w.heap.size 56 2 u c.length (rnC c):=by
 have ln:us0.length=cs0.length:=by have:=st.len; simpa using this
 have h:=st.inn us0.length (by simp) (by simp [ln]);have e1:(us0 ++ [u])[us0.length]'(by simp)=u:=by simp
 have e2:(cs0 ++ [c])[us0.length]'(by simp [ln])=c:=by simp [ln]
 rwa [e1,e2] at h
structure BkQ (w wq:World) (rb:Nat) (ln:Int) (pw vo:Value) (us:List Value) (cs:List (List Rn)):Prop where
 st:BkSt w wq vo us cs
 cL:wq.cell? ⟨rb,0,none⟩=some (.int .i64 ln)
 cW:wq.cell? ⟨rb,1,none⟩=some pw
theorem BkQ.of {w wr:World} {vo:Value} {us:List Value} {cs:List (List Rn)} (h:BkSt w wr vo us cs) (ln:Int) (pw:Value):BkQ w (wr.alloc (.cells #[.int .i64 ln,pw] 56)) wr.heap.size ln pw vo us cs:=
 ⟨h.below ((Below.refl _ _).alloc (Nat.le_refl _) _),by simp,by simp⟩
theorem BkQ.push {w wx y:World} {rb:Nat} {ln:Int} {pw vo vo':Value} {us:List Value} {cs:List (List Rn)} {o:Obj} (h:BkQ w wx rb ln pw vo us cs) (hne:vo.ownBlock ≠ some rb) (hown:y.ownsRow w.heap.size 55 1 vo' (us.length + 1) (us ++ [.slice none 0 0])) (hg:(wx.alloc o).grownBy y vo.ownBlock) :
 BkQ w y rb ln pw vo' (us ++ [.slice none 0 0]) (cs ++ [ [] ]):=by
 have ba:Below wx.heap.size wx (wx.alloc o):=(Below.refl _ _).alloc (Nat.le_refl _) _;refine ⟨(h.st.below ba).push hown hg,?_,?_⟩
 · exact hg.cell (kpB ba h.cL) (fun e=>hne e.symm)
 · exact hg.cell (kpB ba h.cW) (fun e=>hne e.symm)
theorem blocks_any (v:Value) (w:World) (rs:List Lr) (hv:RowsC w.heap.size w v rs) (hn:(rs.length:Int)≤4500) (hwl:∀ r ∈ rs,(r.2.length:Int)≤4500) :
 Calls Tryz.prog 39 #[v] w fun e y=>∃ v' us cs,e=.returned v'∧BkSt w y v' us cs∧BkRW rs cs:=by
 obtain ⟨i0,hi0,hz0,hz1,hz2⟩:=info_parts info_rws;obtain ⟨r0,hri,hr0,hr1,hr2⟩:=info_parts info_row8p;obtain ⟨p,cap,rfl⟩:=hv.form;obtain ⟨len,hlen⟩:∃ len,rs.length=len:=⟨_,rfl⟩;rw [hlen] at hn hv ⊢;replace hlen:Hid (rs.length=len):=hlen;replace hv:Hid (RowsC w.heap.size w (.slice p len cap) rs):=hv;replace hwl:Hid (∀ r ∈ rs,(r.2.length:Int)≤4500):=hwl
 go_enter Tryz.func39,Tryz.ntmps39
 go_wp2
 go_loopw [3,4,5,6,9] (fun vb vi vr vl vk wr=>∃ (k:Nat) (us:List Value) (cs:List (List Rn)),(k:Int)≤(len:Int)∧vk=.int .i64 (k:Int)∧Hid (BkSt w wr vb us cs)∧Hid (BkRW (rs.take k) cs)) (fun vb vi vr vl vk wr=>len - (intOf vk).toNat)
 case atStart=>exact ⟨0,[],[],by omega,rfl,BkSt.first _,⟨BkR.nil,fun c h=>(by cases h)⟩⟩
 case round=>
  obtain ⟨k,us,cs,hk,rfl,st,lf⟩:=hrel
  by_cases hlt:k < len
  · have hki:(k:Int) < (len:Int):=by omega
    have hkr:k < rs.length:=by have:=hlen.out; omega
    obtain ⟨g,o,pu,cu,rfl,hg,c0,c1,hw⟩:=hv.out.at hlen.out st.out.b hlt;have hrk:rs[k]?=some (rs[k]'hkr):=List.getElem?_eq_getElem hkr;have hl:=hwl.out _ (List.getElem_mem hkr);generalize (rs[k]'hkr)=r at *;obtain ⟨ln,ws⟩:=r;simp only at c0 c1 hw hl;replace hrk:Hid (rs[k]?=some (ln,ws)):=hrk;obtain ⟨m,hm⟩:∃ m,ws.length=m:=⟨_,rfl⟩;rw [hm] at c1 hw hl;replace hm:Hid (ws.length=m):=hm;have cnt:=BkR.cnt lf.out.r;have ctl:(rs.take k).length≤4500:=by rw [List.length_take]; omega
    have cl1:Hid (us.length≤4500):=by have:=st.out.len; have:=cnt.1; unfold Hid; omega
    have cl2:Hid (∀ c ∈ cs,c.length≤4500):=fun c hc=>by have:=cnt.2 c hc; omega
    have q:Hid (BkQ w (wr.alloc (.cells #[.int .i64 ln,.slice pu m cu] 56)) wr.heap.size ln (.slice pu m cu) u3 us cs):=BkQ.of st.out ln _;have hne:Hid (u3.ownBlock ≠ some wr.heap.size):=fun e=>by have:=(World.ownsRow.lt st.out.ro _ e).2; omega
    have bx:Below wr.heap.size wr (wr.alloc (.cells #[.int .i64 ln,.slice pu m cu] 56)):=(Below.refl _ _).alloc (Nat.le_refl _) _;have hwx:Hid (WdsAt w.heap.size (wr.alloc (.cells #[.int .i64 ln,.slice pu m cu] 56)) (.slice pu m cu) ws):=hw.below (bx.mono st.out.b.size);have wk:IntKind.i64.wrap ((k:Int) + 1)=(k:Int) + 1:=by simp only [IntKind.wrap_i64]; omega
    clear cnt ctl hw bx st hkr
    go_upto_region 5 with fail
    change Code.wp Tryz.prog _ _ _ (wr.alloc (.cells #[.int .i64 ln,.slice pu m cu] 56));generalize wr.alloc (.cells #[.int .i64 ln,.slice pu m cu] 56)=wx at *;generalize wr.heap.size=rb at *;clear c0 c1;have bL:=q.out.cL;have bW:=q.out.cW
    by_cases hk0:k=0
    · have hk0i:((k:Int) == 0)=true:=beq_iff_eq.2 (by omega);have hcs:Hid (cs=[] ∨ isDev (ln,ws)=true):=.inl (BkR.none' (by have h:=lf.out.r; rwa [hk0,List.take_zero] at h));clear hk0;have nx:Hid (NxR rs k m cs [] (ln,ws)):=nx_new lf.out hrk.out hcs.out hm.out;have us63:us.length + 1≤maxLen:=by have:=cl1.out; unfold maxLen; omega
      have usby:(us.length + 1) * 24≤140737488355328:=by have:=cl1.out; omega
      have wxs:Hid (w.heap.size≤wx.heap.size):=q.out.st.b.size;have own1:Hid ((wx.alloc (.cells #[.slice none 0 0] 55)).ownsRow w.heap.size 55 1 u3 us.length us):=World.ownsRow.alloc q.out.st.ro _;clear lf hrk hcs cl2
      go_upto_region 7 with (at_builtin; refine wpList_append_lies _ rfl _ _ 93 rfl w.heap.size 55 i0 (.slice none 0 0) 1 24 Tryz.underlying93 hi0 hz0 hz1 hz2 rfl (by decide) _ us.length us rfl own1.out ⟨wx.heap.size,0,none⟩ 1 1 [.slice none 0 0] rfl rfl (cell_one_new _ _ _) (by simp [Value.oneCell']) (by decide) us63 usby (by have:=wxs.out; simp; omega) (wx.heap.size + 1) (by simp) ?_; intro go capo wq hO gO hat hlt2; have qq:Hid (BkQ w wq rb ln (.slice pu m cu) (.slice (some ⟨go,0,none⟩) (us.length + 1) capo) (us ++ [.slice none 0 0]) (cs ++ [ [] ])):=BkQ.push q.out hne.out hO gO; clear hO gO hat hlt2)
      clear own1 us63 usby wxs bL bW;have hwq:Hid (WdsAt w.heap.size wq (.slice pu m cu) ws):=wds_on hwx.out q.out.st.b qq.out.st.b;clear q hwx;obtain ⟨us0,hus0⟩:∃ us0,us=us0:=⟨_,rfl⟩;obtain ⟨cs0,hcs0⟩:∃ cs0,cs=cs0:=⟨_,rfl⟩;rw [hus0] at qq cl1 ⊢;rw [hcs0] at qq nx;clear hus0 hcs0 us cs;obtain ⟨u,hu⟩:∃ u:Value,u=.slice none 0 0:=⟨_,rfl⟩;obtain ⟨c,hc⟩:∃ c:List Rn,c=[]:=⟨_,rfl⟩;rw [← hu,← hc] at qq;rw [← hc] at nx;have kL:(c.length:Int)≤4500:=by rw [hc]; simp
      clear hu hc;obtain ⟨K,hK⟩:∃ K,us0.length=K:=⟨_,rfl⟩;obtain ⟨N,hN⟩:∃ N,K + 1=N:=⟨_,rfl⟩;rw [hK] at cl1;rw [hK,hN] at qq ⊢;obtain ⟨stq,cL,cW⟩:=qq.out;have cO:Hid (wq.cell? ⟨go,K,none⟩=some u):=stq.cell hK;have uo:Hid (wq.ownsRow w.heap.size 56 2 u c.length (rnC c)):=stq.last;have cln:Hid (ClnC w.heap.size wq (.slice pu m cu) ws m):=clnC hwq.out (by rw [hm.out]; exact hl) stq.b.size hm.out;have wqs:Hid (w.heap.size≤wq.heap.size):=stq.b.size;replace stq:Hid (BkSt w wq (.slice (some ⟨go,0,none⟩) N capo) (us0 ++ [u]) (cs0 ++ [c])):=stq;replace cL:Hid (wq.cell? ⟨rb,0,none⟩=some (.int .i64 ln)):=cL;replace cW:Hid (wq.cell? ⟨rb,1,none⟩=some (.slice pu m cu)):=cW;have Kl:(K:Int) < (N:Int):=by omega
      have wN:IntKind.i64.wrap ((N:Int) - 1)=(K:Int):=by have:=cl1.out; simp only [IntKind.wrap_i64]; omega
      replace hK:Hid (us0.length=K):=hK;clear hN qq hwq cl1 hne hl hm
      go_upto_region 8 with fail
      refine region_props4 (fun γ i v=>BkP go K capo N rb u ln pu m cu c.length γ i v) (BkW w wq go K u c ln ws m) ⟨none,0,0,0,0⟩ (by kernel_rfl) (by kernel_rfl) ?_ ?_ ⟨fun _=>Below.drew (Below.refl _ _),fun h=>(by cases h),fun h=>(by cases h),fun h=>(by cases h)⟩
      · intro γ x a z i op ho hI haf hcl hx hxi hW;have hi:i < 16:=(List.getElem?_eq_some_iff.1 ho).1;have xi:=getD_false hxi
        match i,hi with
        | 0,_=>
         obtain rfl:=Option.some.inj ho;have e1:a.tmps.getD 3 undef=.slice (some ⟨go,0,none⟩) N capo:=(hI.was (by kernel_rfl)).trans rfl;go_simp;exact ⟨_,rfl,γ,rfl,fun j v _ h=>h,hW.other (by decide) (by decide) (by decide) (by decide)⟩
        | 1,_=>
         obtain rfl:=Option.some.inj ho;have e1:a.tmps.getD 6 undef=.int .i64 (K:Int):=(hI.was (by kernel_rfl)).trans rfl;go_simp;exact ⟨_,rfl,γ,rfl,fun j v _ h=>h,hW.other (by decide) (by decide) (by decide) (by decide)⟩
        | 2,_=>
         obtain rfl:=Option.some.inj ho;have e1:a.tmps.getD 3 undef=.slice (some ⟨go,0,none⟩) N capo:=(hI.was (by kernel_rfl)).trans rfl;go_simp;exact ⟨_,rfl,γ,rfl,fun j v _ h=>h,hW.other (by decide) (by decide) (by decide) (by decide)⟩
        | 3,_=>
         obtain rfl:=Option.some.inj ho;have e1:a.tmps.getD 6 undef=.int .i64 (K:Int):=(hI.was (by kernel_rfl)).trans rfl;go_simp;exact ⟨_,rfl,γ,rfl,fun j v _ h=>h,hW.other (by decide) (by decide) (by decide) (by decide)⟩
        | 4,_=>
         obtain rfl:=Option.some.inj ho;have e1:a.tmps.getD 37 undef=.slice (some ⟨go,0,none⟩) N capo:=Eq.trans (hI.val 2 _ 37 rfl rfl (dep_at haf (by kernel_rfl))) rfl;have e2:a.tmps.getD 38 undef=.int .i64 (K:Int):=Eq.trans (hI.val 3 _ 38 rfl rfl (dep_at haf (by kernel_rfl))) rfl;go_simp;exact ⟨_,rfl,γ,rfl,fun j v _ h=>h,hW.other (by decide) (by decide) (by decide) (by decide)⟩
        | 5,_=>
         obtain rfl:=Option.some.inj ho;have e1:a.tmps.getD 39 undef=.pointer (some ⟨go,K,none⟩):=Eq.trans (hI.val 4 _ 39 rfl rfl (dep_at haf (by kernel_rfl))) rfl;have x13:x.getD 13 false=false:=no_bit xi fun h=>hcl.at (j:=13) rfl (k:=5) (by kernel_rfl) h
         have m0:=kpB (hW.a x13) cO.out;go_simp;exact ⟨_,rfl,γ,rfl,fun j v _ h=>h,hW.other (by decide) (by decide) (by decide) (by decide)⟩
        | 6,_=>
         obtain rfl:=Option.some.inj ho;have e1:a.tmps.getD 5 undef=.pointer (some ⟨rb,0,none⟩):=(hI.was (by kernel_rfl)).trans rfl;go_simp;exact ⟨_,rfl,γ,rfl,fun j v _ h=>h,hW.other (by decide) (by decide) (by decide) (by decide)⟩
        | 7,_=>
         obtain rfl:=Option.some.inj ho;have e1:a.tmps.getD 41 undef=.pointer (some ⟨rb,0,none⟩):=Eq.trans (hI.val 6 _ 41 rfl rfl (dep_at haf (by kernel_rfl))) rfl;have x13:x.getD 13 false=false:=no_bit xi fun h=>hcl.at (j:=11) rfl (k:=7) (by kernel_rfl) (hcl.at (j:=12) rfl (k:=11) (by kernel_rfl) (hcl.at (j:=13) rfl (k:=12) (by kernel_rfl) h))
         have m0:=kpB (hW.a x13) cL.out;go_simp;exact ⟨_,rfl,γ,rfl,fun j v _ h=>h,hW.other (by decide) (by decide) (by decide) (by decide)⟩
        | 8,_=>
         obtain rfl:=Option.some.inj ho;have e1:a.tmps.getD 5 undef=.pointer (some ⟨rb,0,none⟩):=(hI.was (by kernel_rfl)).trans rfl;go_simp;exact ⟨_,rfl,γ,rfl,fun j v _ h=>h,hW.other (by decide) (by decide) (by decide) (by decide)⟩
        | 9,_=>
         obtain rfl:=Option.some.inj ho;have e1:a.tmps.getD 43 undef=.pointer (some ⟨rb,1,none⟩):=Eq.trans (hI.val 8 _ 43 rfl rfl (dep_at haf (by kernel_rfl))) rfl;have x13:x.getD 13 false=false:=no_bit xi fun h=>hcl.at (j:=10) rfl (k:=9) (by kernel_rfl) (hcl.at (j:=13) rfl (k:=10) (by kernel_rfl) h)
         have m0:=kpB (hW.a x13) cW.out;go_simp;exact ⟨_,rfl,γ,rfl,fun j v _ h=>h,hW.other (by decide) (by decide) (by decide) (by decide)⟩
        | 10,_=>
         obtain rfl:=Option.some.inj ho;have e1:a.tmps.getD 44 undef=.slice pu m cu:=Eq.trans (hI.val 9 _ 44 rfl rfl (dep_at haf (by kernel_rfl))) rfl;have x13:x.getD 13 false=false:=no_bit xi fun h=>hcl.at (j:=13) rfl (k:=10) (by kernel_rfl) h
         have x12:x.getD 12 false=false:=no_bit xi fun h=>hcl.at (j:=11) rfl (k:=10) (by kernel_rfl) (hcl.at (j:=12) rfl (k:=11) (by kernel_rfl) h)
         have x11:x.getD 11 false=false:=no_bit xi fun h=>hcl.at (j:=11) rfl (k:=10) (by kernel_rfl) h
         go_simp;refine (cln.out z (hW.a x13)).mono ?_;rintro e z' ⟨p,cc,rfl,hb,hwc⟩;refine ⟨_,rfl,⟨p,cc,γ.b,γ.g,γ.cap⟩,rfl,fun j v hj h=>Eq.trans h (bkV_pc (fun e=>?_) (fun e=>?_)),hW.call x12 x13 hb p cc hwc⟩
         · subst e; exact gd_no xi hj
         · subst e; exact gd_no x11 hj
        | 11,_=>
         obtain rfl:=Option.some.inj ho;have e1:a.tmps.getD 42 undef=.int .i64 ln:=Eq.trans (hI.val 7 _ 42 rfl rfl (dep_at haf (by kernel_rfl))) rfl;have e2:a.tmps.getD 45 undef=.slice γ.p m γ.c:=Eq.trans (hI.val 10 _ 45 rfl rfl (dep_at haf (by kernel_rfl))) rfl;go_simp;simp only [← Array.getD_eq_getD_getElem?,e1,e2];go_simp;exact ⟨_,rfl,γ,rfl,fun j v _ h=>h,hW.other (by decide) (by decide) (by decide) (by decide)⟩
        | 12,_=>
         obtain rfl:=Option.some.inj ho;have e1:a.tmps.getD 46 undef=.agg #[.int .i64 ln,.slice γ.p m γ.c]:=Eq.trans (hI.val 11 _ 46 rfl rfl (dep_at haf (by kernel_rfl))) rfl;have x13:x.getD 13 false=false:=no_bit xi fun h=>hcl.at (j:=13) rfl (k:=12) (by kernel_rfl) h
         go_simp;simp only [← Array.getD_eq_getD_getElem?,e1];go_simp;refine ⟨_,rfl,⟨γ.p,γ.c,z.heap.size,γ.g,γ.cap⟩,rfl,fun j v hj h=>Eq.trans h (bkV_b (fun e=>?_)),hW.block x13⟩;subst e; exact gd_no xi hj
        | 13,_=>
         obtain rfl:=Option.some.inj ho;have e1:a.tmps.getD 40 undef=u:=Eq.trans (hI.val 5 _ 40 rfl rfl (dep_at haf (by kernel_rfl))) rfl;have e2:a.tmps.getD 47 undef=.slice (some ⟨γ.b,0,none⟩) 1 1:=Eq.trans (hI.val 12 _ 47 rfl rfl (dep_at haf (by kernel_rfl))) rfl;have x12:x.getD 12 false=true:=dep_at haf (by kernel_rfl);have x10:x.getD 10 false=true:=hcl.at (j:=11) rfl (k:=10) (by kernel_rfl) (hcl.at (j:=12) rfl (k:=11) (by kernel_rfl) x12);have x15:x.getD 15 false=false:=no_bit xi fun h=>hcl.at (j:=15) rfl (k:=13) (by kernel_rfl) h
         have hbl:=hW.bl x12 xi;have low:=hW.a xi;refine wp_append_lies _ (.tmp 40) (.tmp 47) 55 rfl w.heap.size 56 r0 (.agg #[.int .i64 0,.slice none 0 0]) 2 32 Tryz.underlying55 hri hr0 hr1 hr2 rfl (by omega) u c.length (rnC c) e1 (own_below uo.out low)
          ⟨γ.b,0,none⟩ 1 1 [.int .i64 ln,.slice γ.p m γ.c] e2 rfl (World.news_of_block (cs:=#[.int .i64 ln,.slice γ.p m γ.c]) hbl) (by simp [Value.oneCell'])
          (by omega) (by unfold maxLen; omega) (by omega) (Nat.le_trans wqs.out low.size) z.heap.size rfl ?_
         intro gg cap' z' hO gO hat hlt2;refine ⟨_,⟨γ.p,γ.c,γ.b,gg,cap'⟩,rfl,fun d hd=>rfl,fun j v hj h=>Eq.trans h (bkV_g (fun e=>?_)),hW.appd x10 xi x15 (by rw [hx]; decide) gO hat hO⟩;subst e; rw [xi] at hj; cases hj
        | 14,_=>
         obtain rfl:=Option.some.inj ho;have e1:a.tmps.getD 35 undef=.slice (some ⟨go,0,none⟩) N capo:=Eq.trans (hI.val 0 _ 35 rfl rfl (dep_at haf (by kernel_rfl))) rfl;have e2:a.tmps.getD 36 undef=.int .i64 (K:Int):=Eq.trans (hI.val 1 _ 36 rfl rfl (dep_at haf (by kernel_rfl))) rfl;go_simp;exact ⟨_,rfl,γ,rfl,fun j v _ h=>h,hW.other (by decide) (by decide) (by decide) (by decide)⟩
        | 15,_=>
         obtain rfl:=Option.some.inj ho;have e1:a.tmps.getD 49 undef=.pointer (some ⟨go,K,none⟩):=Eq.trans (hI.val 14 _ 49 rfl rfl (dep_at haf (by kernel_rfl))) rfl;have e2:a.tmps.getD 48 undef=.slice (some ⟨γ.g,0,none⟩) (c.length + 1) γ.cap:=Eq.trans (hI.val 13 _ 48 rfl rfl (dep_at haf (by kernel_rfl))) rfl;have x13:x.getD 13 false=true:=dep_at haf (by kernel_rfl);have hput:=hW.put x13 xi (by rw [hx]; decide);obtain ⟨z3,h1,h2,h3⟩:=hW.ap x13;obtain rfl:=h2 xi;have k:=h1.ro (K:=K) (N:=N) (capo:=capo) stq.out hK.out;have m0:=k.1;have m1:=k.2;clear h1 h2 h3 k;replace hput:Hid (BkW w wq go K u c ln ws m γ (x.setIfInBounds 15 true) (z.setCell ⟨go,K,none⟩ (.slice (some ⟨γ.g,0,none⟩) (c.length + 1) γ.cap))):=hput;go_simp;exact ⟨γ,fun j v _ h=>h,hput⟩
      · intro γ x a z hx hall hI hW;have fin:=hW.fin (hall 13 (by decide)) (hall 15 (by decide)) hK.out stq.out;have ha:=RegI.tmps (V:=bkV go K capo N rb u ln pu m cu c.length γ) hI (by kernel_rfl) hall;simp only [putsL,bkV,List.setIfInBounds_toArray,List.set_cons_zero,List.set_cons_succ] at ha;subst ha;replace fin:Hid (BkSt w z (.slice (some ⟨go,0,none⟩) N capo) (us0 ++ [.slice (some ⟨γ.g,0,none⟩) (c.length + 1) γ.cap]) (cs0 ++ [c ++ [((ln,ws),.slice γ.p m γ.c)]])):=fin;have nx':Hid (BkRW (rs.take (k + 1)) (cs0 ++ [c ++ [((ln,ws),.slice γ.p m γ.c)]])):=nx.out γ.p γ.c;clear hI hW hall hx stq cO cL cW cln uo nx kL hK wqs;go_wp2;exact ⟨⟨k + 1,_,_,by omega,by simp,fin,nx'⟩,by simp [intOf]; omega⟩
    · have hk0i:((k:Int) == 0)=false:=beq_eq_false_iff_ne.2 (by omega)
      by_cases hm0:m=0
      · have hm0i:¬ (0:Int) < (m:Int):=by omega
        have hd:Hid (isDev (ln,ws)=false):=by
         have:ws=[]:=List.length_eq_zero_iff.1 (hm.out.trans hm0);subst this; rfl
        clear hm0;obtain ⟨cs0,c,rfl⟩:∃ cs0 c,cs=cs0 ++ [c]:=by
         rcases List.eq_nil_or_concat cs with h | ⟨a,b,h⟩
         · exact absurd h (BkR.some lf.out.r (by intro e; have:=List.take_eq_nil_iff.1 e; rcases this with h | h; exact hk0 h; have:=hlen.out; rw [h] at this; simp at this; omega))
         · exact ⟨a,b,by rw [h,List.concat_eq_append]⟩
        obtain ⟨us0,u,rfl⟩:∃ us0 u,us=us0 ++ [u]:=by
         rcases List.eq_nil_or_concat us with h | ⟨a,b,h⟩
         · have:=q.out.st.len; rw [h] at this; simp at this
         · exact ⟨a,b,by rw [h,List.concat_eq_append]⟩
        have nx:Hid (NxR rs k m cs0 c (ln,ws)):=nx_old lf.out hrk.out hd.out hm.out;have kL:(c.length:Int)≤4500:=by have:=cl2.out c (by simp); omega
        replace cl1:Hid (us0.length≤4500):=by have:=cl1.out; simp at this; unfold Hid; omega
        obtain ⟨go,capo,e3,x1,x2⟩:=World.ownsRow.form q.out.st.ro (by simp);clear x1 x2 lf hrk hd cl2;rw [show (us0 ++ [u]).length=us0.length + 1 by simp] at e3;subst e3
        go_upto_region 7 with fail
        clear bL bW hm0i;have qq:Hid (BkQ w wx rb ln (.slice pu m cu) (.slice (some ⟨go,0,none⟩) (us0.length + 1) capo) (us0 ++ [u]) (cs0 ++ [c])):=q.out;have hwq:=hwx;clear q hwx;generalize wx=wq at *;obtain ⟨K,hK⟩:∃ K,us0.length=K:=⟨_,rfl⟩;obtain ⟨N,hN⟩:∃ N,K + 1=N:=⟨_,rfl⟩;rw [hK] at cl1;rw [hK,hN] at qq ⊢;obtain ⟨stq,cL,cW⟩:=qq.out;have cO:Hid (wq.cell? ⟨go,K,none⟩=some u):=stq.cell hK;have uo:Hid (wq.ownsRow w.heap.size 56 2 u c.length (rnC c)):=stq.last;have cln:Hid (ClnC w.heap.size wq (.slice pu m cu) ws m):=clnC hwq.out (by rw [hm.out]; exact hl) stq.b.size hm.out;have wqs:Hid (w.heap.size≤wq.heap.size):=stq.b.size;replace stq:Hid (BkSt w wq (.slice (some ⟨go,0,none⟩) N capo) (us0 ++ [u]) (cs0 ++ [c])):=stq;replace cL:Hid (wq.cell? ⟨rb,0,none⟩=some (.int .i64 ln)):=cL;replace cW:Hid (wq.cell? ⟨rb,1,none⟩=some (.slice pu m cu)):=cW;have Kl:(K:Int) < (N:Int):=by omega
        have wN:IntKind.i64.wrap ((N:Int) - 1)=(K:Int):=by have:=cl1.out; simp only [IntKind.wrap_i64]; omega
        replace hK:Hid (us0.length=K):=hK;clear hN qq hwq cl1 hne hl hm
        go_upto_region 8 with fail
        refine region_props4 (fun γ i v=>BkP go K capo N rb u ln pu m cu c.length γ i v) (BkW w wq go K u c ln ws m) ⟨none,0,0,0,0⟩ (by kernel_rfl) (by kernel_rfl) ?_ ?_ ⟨fun _=>Below.drew (Below.refl _ _),fun h=>(by cases h),fun h=>(by cases h),fun h=>(by cases h)⟩
        · intro γ x a z i op ho hI haf hcl hx hxi hW;have hi:i < 16:=(List.getElem?_eq_some_iff.1 ho).1;have xi:=getD_false hxi
          match i,hi with
          | 0,_=>
           obtain rfl:=Option.some.inj ho;have e1:a.tmps.getD 3 undef=.slice (some ⟨go,0,none⟩) N capo:=(hI.was (by kernel_rfl)).trans rfl;go_simp;exact ⟨_,rfl,γ,rfl,fun j v _ h=>h,hW.other (by decide) (by decide) (by decide) (by decide)⟩
          | 1,_=>
           obtain rfl:=Option.some.inj ho;have e1:a.tmps.getD 6 undef=.int .i64 (K:Int):=(hI.was (by kernel_rfl)).trans rfl;go_simp;exact ⟨_,rfl,γ,rfl,fun j v _ h=>h,hW.other (by decide) (by decide) (by decide) (by decide)⟩
          | 2,_=>
           obtain rfl:=Option.some.inj ho;have e1:a.tmps.getD 3 undef=.slice (some ⟨go,0,none⟩) N capo:=(hI.was (by kernel_rfl)).trans rfl;go_simp;exact ⟨_,rfl,γ,rfl,fun j v _ h=>h,hW.other (by decide) (by decide) (by decide) (by decide)⟩
          | 3,_=>
           obtain rfl:=Option.some.inj ho;have e1:a.tmps.getD 6 undef=.int .i64 (K:Int):=(hI.was (by kernel_rfl)).trans rfl;go_simp;exact ⟨_,rfl,γ,rfl,fun j v _ h=>h,hW.other (by decide) (by decide) (by decide) (by decide)⟩
          | 4,_=>
           obtain rfl:=Option.some.inj ho;have e1:a.tmps.getD 37 undef=.slice (some ⟨go,0,none⟩) N capo:=Eq.trans (hI.val 2 _ 37 rfl rfl (dep_at haf (by kernel_rfl))) rfl;have e2:a.tmps.getD 38 undef=.int .i64 (K:Int):=Eq.trans (hI.val 3 _ 38 rfl rfl (dep_at haf (by kernel_rfl))) rfl;go_simp;exact ⟨_,rfl,γ,rfl,fun j v _ h=>h,hW.other (by decide) (by decide) (by decide) (by decide)⟩
          | 5,_=>
           obtain rfl:=Option.some.inj ho;have e1:a.tmps.getD 39 undef=.pointer (some ⟨go,K,none⟩):=Eq.trans (hI.val 4 _ 39 rfl rfl (dep_at haf (by kernel_rfl))) rfl;have x13:x.getD 13 false=false:=no_bit xi fun h=>hcl.at (j:=13) rfl (k:=5) (by kernel_rfl) h
           have m0:=kpB (hW.a x13) cO.out;go_simp;exact ⟨_,rfl,γ,rfl,fun j v _ h=>h,hW.other (by decide) (by decide) (by decide) (by decide)⟩
          | 6,_=>
           obtain rfl:=Option.some.inj ho;have e1:a.tmps.getD 5 undef=.pointer (some ⟨rb,0,none⟩):=(hI.was (by kernel_rfl)).trans rfl;go_simp;exact ⟨_,rfl,γ,rfl,fun j v _ h=>h,hW.other (by decide) (by decide) (by decide) (by decide)⟩
          | 7,_=>
           obtain rfl:=Option.some.inj ho;have e1:a.tmps.getD 41 undef=.pointer (some ⟨rb,0,none⟩):=Eq.trans (hI.val 6 _ 41 rfl rfl (dep_at haf (by kernel_rfl))) rfl;have x13:x.getD 13 false=false:=no_bit xi fun h=>hcl.at (j:=11) rfl (k:=7) (by kernel_rfl) (hcl.at (j:=12) rfl (k:=11) (by kernel_rfl) (hcl.at (j:=13) rfl (k:=12) (by kernel_rfl) h))
           have m0:=kpB (hW.a x13) cL.out;go_simp;exact ⟨_,rfl,γ,rfl,fun j v _ h=>h,hW.other (by decide) (by decide) (by decide) (by decide)⟩
          | 8,_=>
           obtain rfl:=Option.some.inj ho;have e1:a.tmps.getD 5 undef=.pointer (some ⟨rb,0,none⟩):=(hI.was (by kernel_rfl)).trans rfl;go_simp;exact ⟨_,rfl,γ,rfl,fun j v _ h=>h,hW.other (by decide) (by decide) (by decide) (by decide)⟩
          | 9,_=>
           obtain rfl:=Option.some.inj ho;have e1:a.tmps.getD 43 undef=.pointer (some ⟨rb,1,none⟩):=Eq.trans (hI.val 8 _ 43 rfl rfl (dep_at haf (by kernel_rfl))) rfl;have x13:x.getD 13 false=false:=no_bit xi fun h=>hcl.at (j:=10) rfl (k:=9) (by kernel_rfl) (hcl.at (j:=13) rfl (k:=10) (by kernel_rfl) h)
           have m0:=kpB (hW.a x13) cW.out;go_simp;exact ⟨_,rfl,γ,rfl,fun j v _ h=>h,hW.other (by decide) (by decide) (by decide) (by decide)⟩
          | 10,_=>
           obtain rfl:=Option.some.inj ho;have e1:a.tmps.getD 44 undef=.slice pu m cu:=Eq.trans (hI.val 9 _ 44 rfl rfl (dep_at haf (by kernel_rfl))) rfl;have x13:x.getD 13 false=false:=no_bit xi fun h=>hcl.at (j:=13) rfl (k:=10) (by kernel_rfl) h
           have x12:x.getD 12 false=false:=no_bit xi fun h=>hcl.at (j:=11) rfl (k:=10) (by kernel_rfl) (hcl.at (j:=12) rfl (k:=11) (by kernel_rfl) h)
           have x11:x.getD 11 false=false:=no_bit xi fun h=>hcl.at (j:=11) rfl (k:=10) (by kernel_rfl) h
           go_simp;refine (cln.out z (hW.a x13)).mono ?_;rintro e z' ⟨p,cc,rfl,hb,hwc⟩;refine ⟨_,rfl,⟨p,cc,γ.b,γ.g,γ.cap⟩,rfl,fun j v hj h=>Eq.trans h (bkV_pc (fun e=>?_) (fun e=>?_)),hW.call x12 x13 hb p cc hwc⟩
           · subst e; exact gd_no xi hj
           · subst e; exact gd_no x11 hj
          | 11,_=>
           obtain rfl:=Option.some.inj ho;have e1:a.tmps.getD 42 undef=.int .i64 ln:=Eq.trans (hI.val 7 _ 42 rfl rfl (dep_at haf (by kernel_rfl))) rfl;have e2:a.tmps.getD 45 undef=.slice γ.p m γ.c:=Eq.trans (hI.val 10 _ 45 rfl rfl (dep_at haf (by kernel_rfl))) rfl;go_simp;simp only [← Array.getD_eq_getD_getElem?,e1,e2];go_simp;exact ⟨_,rfl,γ,rfl,fun j v _ h=>h,hW.other (by decide) (by decide) (by decide) (by decide)⟩
          | 12,_=>
           obtain rfl:=Option.some.inj ho;have e1:a.tmps.getD 46 undef=.agg #[.int .i64 ln,.slice γ.p m γ.c]:=Eq.trans (hI.val 11 _ 46 rfl rfl (dep_at haf (by kernel_rfl))) rfl;have x13:x.getD 13 false=false:=no_bit xi fun h=>hcl.at (j:=13) rfl (k:=12) (by kernel_rfl) h
           go_simp;simp only [← Array.getD_eq_getD_getElem?,e1];go_simp;refine ⟨_,rfl,⟨γ.p,γ.c,z.heap.size,γ.g,γ.cap⟩,rfl,fun j v hj h=>Eq.trans h (bkV_b (fun e=>?_)),hW.block x13⟩;subst e; exact gd_no xi hj
          | 13,_=>
           obtain rfl:=Option.some.inj ho;have e1:a.tmps.getD 40 undef=u:=Eq.trans (hI.val 5 _ 40 rfl rfl (dep_at haf (by kernel_rfl))) rfl;have e2:a.tmps.getD 47 undef=.slice (some ⟨γ.b,0,none⟩) 1 1:=Eq.trans (hI.val 12 _ 47 rfl rfl (dep_at haf (by kernel_rfl))) rfl;have x12:x.getD 12 false=true:=dep_at haf (by kernel_rfl);have x10:x.getD 10 false=true:=hcl.at (j:=11) rfl (k:=10) (by kernel_rfl) (hcl.at (j:=12) rfl (k:=11) (by kernel_rfl) x12);have x15:x.getD 15 false=false:=no_bit xi fun h=>hcl.at (j:=15) rfl (k:=13) (by kernel_rfl) h
           have hbl:=hW.bl x12 xi;have low:=hW.a xi;refine wp_append_lies _ (.tmp 40) (.tmp 47) 55 rfl w.heap.size 56 r0 (.agg #[.int .i64 0,.slice none 0 0]) 2 32 Tryz.underlying55 hri hr0 hr1 hr2 rfl (by omega) u c.length (rnC c) e1 (own_below uo.out low)
            ⟨γ.b,0,none⟩ 1 1 [.int .i64 ln,.slice γ.p m γ.c] e2 rfl (World.news_of_block (cs:=#[.int .i64 ln,.slice γ.p m γ.c]) hbl) (by simp [Value.oneCell'])
            (by omega) (by unfold maxLen; omega) (by omega) (Nat.le_trans wqs.out low.size) z.heap.size rfl ?_
           intro gg cap' z' hO gO hat hlt2;refine ⟨_,⟨γ.p,γ.c,γ.b,gg,cap'⟩,rfl,fun d hd=>rfl,fun j v hj h=>Eq.trans h (bkV_g (fun e=>?_)),hW.appd x10 xi x15 (by rw [hx]; decide) gO hat hO⟩;subst e; rw [xi] at hj; cases hj
          | 14,_=>
           obtain rfl:=Option.some.inj ho;have e1:a.tmps.getD 35 undef=.slice (some ⟨go,0,none⟩) N capo:=Eq.trans (hI.val 0 _ 35 rfl rfl (dep_at haf (by kernel_rfl))) rfl;have e2:a.tmps.getD 36 undef=.int .i64 (K:Int):=Eq.trans (hI.val 1 _ 36 rfl rfl (dep_at haf (by kernel_rfl))) rfl;go_simp;exact ⟨_,rfl,γ,rfl,fun j v _ h=>h,hW.other (by decide) (by decide) (by decide) (by decide)⟩
          | 15,_=>
           obtain rfl:=Option.some.inj ho;have e1:a.tmps.getD 49 undef=.pointer (some ⟨go,K,none⟩):=Eq.trans (hI.val 14 _ 49 rfl rfl (dep_at haf (by kernel_rfl))) rfl;have e2:a.tmps.getD 48 undef=.slice (some ⟨γ.g,0,none⟩) (c.length + 1) γ.cap:=Eq.trans (hI.val 13 _ 48 rfl rfl (dep_at haf (by kernel_rfl))) rfl;have x13:x.getD 13 false=true:=dep_at haf (by kernel_rfl);have hput:=hW.put x13 xi (by rw [hx]; decide);obtain ⟨z3,h1,h2,h3⟩:=hW.ap x13;obtain rfl:=h2 xi;have k:=h1.ro (K:=K) (N:=N) (capo:=capo) stq.out hK.out;have m0:=k.1;have m1:=k.2;clear h1 h2 h3 k;replace hput:Hid (BkW w wq go K u c ln ws m γ (x.setIfInBounds 15 true) (z.setCell ⟨go,K,none⟩ (.slice (some ⟨γ.g,0,none⟩) (c.length + 1) γ.cap))):=hput;go_simp;exact ⟨γ,fun j v _ h=>h,hput⟩
        · intro γ x a z hx hall hI hW;have fin:=hW.fin (hall 13 (by decide)) (hall 15 (by decide)) hK.out stq.out;have ha:=RegI.tmps (V:=bkV go K capo N rb u ln pu m cu c.length γ) hI (by kernel_rfl) hall;simp only [putsL,bkV,List.setIfInBounds_toArray,List.set_cons_zero,List.set_cons_succ] at ha;subst ha;replace fin:Hid (BkSt w z (.slice (some ⟨go,0,none⟩) N capo) (us0 ++ [.slice (some ⟨γ.g,0,none⟩) (c.length + 1) γ.cap]) (cs0 ++ [c ++ [((ln,ws),.slice γ.p m γ.c)]])):=fin;have nx':Hid (BkRW (rs.take (k + 1)) (cs0 ++ [c ++ [((ln,ws),.slice γ.p m γ.c)]])):=nx.out γ.p γ.c;clear hI hW hall hx stq cO cL cW cln uo nx kL hK wqs;go_wp2;exact ⟨⟨k + 1,_,_,by omega,by simp,fin,nx'⟩,by simp [intOf]; omega⟩
      · obtain ⟨f,a,hfa⟩:=List.exists_cons_of_ne_nil (fun e:ws=[]=>hm0 (by rw [← hm.out,e]; rfl));obtain ⟨gp,op,cp1,ep,hip,x1⟩:=(hfa ▸ hwx.out:WdsAt w.heap.size wx (.slice pu m cu) (f :: a)).cons2';clear x1;injection ep with ep1 ep2 ep3
        subst ep1;clear ep2 ep3;have k2:wx.cell? ⟨gp,op,none⟩=some (.string (txt f)):=hip 0 (by simp);have t1:(txt f == ⟨#[100,101,118,105,99,101]⟩)=decide (f=kDev):=txt_beq f kDev;have w1:((txt f).toList == [100,101,118,105,99,101])=decide (f=kDev):=by
         rw [Bool.eq_iff_iff,decide_eq_true_iff,beq_iff_eq,ByteArray.toList_eq];exact ⟨fun h=>h,fun h=>by rw [h]; rfl⟩
        have u1:0 < (m:Int):=by omega
        have hdv:isDev (ln,ws)=decide (f=kDev):=by rw [hfa]; rfl
        clear hip hfa;generalize decide (f=kDev)=D at *;generalize txt f=S at *
        cases D with
        | true=>
         have hcs:Hid (cs=[] ∨ isDev (ln,ws)=true):=.inr hdv;clear hdv;have nx:Hid (NxR rs k m cs [] (ln,ws)):=nx_new lf.out hrk.out hcs.out hm.out;have us63:us.length + 1≤maxLen:=by have:=cl1.out; unfold maxLen; omega
         have usby:(us.length + 1) * 24≤140737488355328:=by have:=cl1.out; omega
         have wxs:Hid (w.heap.size≤wx.heap.size):=q.out.st.b.size;have own1:Hid ((wx.alloc (.cells #[.slice none 0 0] 55)).ownsRow w.heap.size 55 1 u3 us.length us):=World.ownsRow.alloc q.out.st.ro _;clear lf hrk hcs cl2
         go_upto_region 7 with (at_builtin; refine wpList_append_lies _ rfl _ _ 93 rfl w.heap.size 55 i0 (.slice none 0 0) 1 24 Tryz.underlying93 hi0 hz0 hz1 hz2 rfl (by decide) _ us.length us rfl own1.out ⟨wx.heap.size,0,none⟩ 1 1 [.slice none 0 0] rfl rfl (cell_one_new _ _ _) (by simp [Value.oneCell']) (by decide) us63 usby (by have:=wxs.out; simp; omega) (wx.heap.size + 1) (by simp) ?_; intro go capo wq hO gO hat hlt2; have qq:Hid (BkQ w wq rb ln (.slice (some ⟨gp,op,none⟩) m cu) (.slice (some ⟨go,0,none⟩) (us.length + 1) capo) (us ++ [.slice none 0 0]) (cs ++ [ [] ])):=BkQ.push q.out hne.out hO gO; clear hO gO hat hlt2)
         clear own1 us63 usby wxs bL bW k2 t1 w1 u1;have hwq:Hid (WdsAt w.heap.size wq (.slice (some ⟨gp,op,none⟩) m cu) ws):=wds_on hwx.out q.out.st.b qq.out.st.b;clear q hwx;obtain ⟨us0,hus0⟩:∃ us0,us=us0:=⟨_,rfl⟩;obtain ⟨cs0,hcs0⟩:∃ cs0,cs=cs0:=⟨_,rfl⟩;rw [hus0] at qq cl1 ⊢;rw [hcs0] at qq nx;clear hus0 hcs0 us cs;obtain ⟨u,hu⟩:∃ u:Value,u=.slice none 0 0:=⟨_,rfl⟩;obtain ⟨c,hc⟩:∃ c:List Rn,c=[]:=⟨_,rfl⟩;rw [← hu,← hc] at qq;rw [← hc] at nx;have kL:(c.length:Int)≤4500:=by rw [hc]; simp
         clear hu hc;obtain ⟨K,hK⟩:∃ K,us0.length=K:=⟨_,rfl⟩;obtain ⟨N,hN⟩:∃ N,K + 1=N:=⟨_,rfl⟩;rw [hK] at cl1;rw [hK,hN] at qq ⊢;obtain ⟨stq,cL,cW⟩:=qq.out;have cO:Hid (wq.cell? ⟨go,K,none⟩=some u):=stq.cell hK;have uo:Hid (wq.ownsRow w.heap.size 56 2 u c.length (rnC c)):=stq.last;have cln:Hid (ClnC w.heap.size wq (.slice (some ⟨gp,op,none⟩) m cu) ws m):=clnC hwq.out (by rw [hm.out]; exact hl) stq.b.size hm.out;have wqs:Hid (w.heap.size≤wq.heap.size):=stq.b.size;replace stq:Hid (BkSt w wq (.slice (some ⟨go,0,none⟩) N capo) (us0 ++ [u]) (cs0 ++ [c])):=stq;replace cL:Hid (wq.cell? ⟨rb,0,none⟩=some (.int .i64 ln)):=cL;replace cW:Hid (wq.cell? ⟨rb,1,none⟩=some (.slice (some ⟨gp,op,none⟩) m cu)):=cW;have Kl:(K:Int) < (N:Int):=by omega
         have wN:IntKind.i64.wrap ((N:Int) - 1)=(K:Int):=by have:=cl1.out; simp only [IntKind.wrap_i64]; omega
         replace hK:Hid (us0.length=K):=hK;clear hN qq hwq cl1 hne hl hm
         go_upto_region 8 with fail
         refine region_props4 (fun γ i v=>BkP go K capo N rb u ln (some ⟨gp,op,none⟩) m cu c.length γ i v) (BkW w wq go K u c ln ws m) ⟨none,0,0,0,0⟩ (by kernel_rfl) (by kernel_rfl) ?_ ?_ ⟨fun _=>Below.drew (Below.refl _ _),fun h=>(by cases h),fun h=>(by cases h),fun h=>(by cases h)⟩
         · intro γ x a z i op ho hI haf hcl hx hxi hW;have hi:i < 16:=(List.getElem?_eq_some_iff.1 ho).1;have xi:=getD_false hxi
           match i,hi with
           | 0,_=>
            obtain rfl:=Option.some.inj ho;have e1:a.tmps.getD 3 undef=.slice (some ⟨go,0,none⟩) N capo:=(hI.was (by kernel_rfl)).trans rfl;go_simp;exact ⟨_,rfl,γ,rfl,fun j v _ h=>h,hW.other (by decide) (by decide) (by decide) (by decide)⟩
           | 1,_=>
            obtain rfl:=Option.some.inj ho;have e1:a.tmps.getD 6 undef=.int .i64 (K:Int):=(hI.was (by kernel_rfl)).trans rfl;go_simp;exact ⟨_,rfl,γ,rfl,fun j v _ h=>h,hW.other (by decide) (by decide) (by decide) (by decide)⟩
           | 2,_=>
            obtain rfl:=Option.some.inj ho;have e1:a.tmps.getD 3 undef=.slice (some ⟨go,0,none⟩) N capo:=(hI.was (by kernel_rfl)).trans rfl;go_simp;exact ⟨_,rfl,γ,rfl,fun j v _ h=>h,hW.other (by decide) (by decide) (by decide) (by decide)⟩
           | 3,_=>
            obtain rfl:=Option.some.inj ho;have e1:a.tmps.getD 6 undef=.int .i64 (K:Int):=(hI.was (by kernel_rfl)).trans rfl;go_simp;exact ⟨_,rfl,γ,rfl,fun j v _ h=>h,hW.other (by decide) (by decide) (by decide) (by decide)⟩
           | 4,_=>
            obtain rfl:=Option.some.inj ho;have e1:a.tmps.getD 37 undef=.slice (some ⟨go,0,none⟩) N capo:=Eq.trans (hI.val 2 _ 37 rfl rfl (dep_at haf (by kernel_rfl))) rfl;have e2:a.tmps.getD 38 undef=.int .i64 (K:Int):=Eq.trans (hI.val 3 _ 38 rfl rfl (dep_at haf (by kernel_rfl))) rfl;go_simp;exact ⟨_,rfl,γ,rfl,fun j v _ h=>h,hW.other (by decide) (by decide) (by decide) (by decide)⟩
           | 5,_=>
            obtain rfl:=Option.some.inj ho;have e1:a.tmps.getD 39 undef=.pointer (some ⟨go,K,none⟩):=Eq.trans (hI.val 4 _ 39 rfl rfl (dep_at haf (by kernel_rfl))) rfl;have x13:x.getD 13 false=false:=no_bit xi fun h=>hcl.at (j:=13) rfl (k:=5) (by kernel_rfl) h
            have m0:=kpB (hW.a x13) cO.out;go_simp;exact ⟨_,rfl,γ,rfl,fun j v _ h=>h,hW.other (by decide) (by decide) (by decide) (by decide)⟩
           | 6,_=>
            obtain rfl:=Option.some.inj ho;have e1:a.tmps.getD 5 undef=.pointer (some ⟨rb,0,none⟩):=(hI.was (by kernel_rfl)).trans rfl;go_simp;exact ⟨_,rfl,γ,rfl,fun j v _ h=>h,hW.other (by decide) (by decide) (by decide) (by decide)⟩
           | 7,_=>
            obtain rfl:=Option.some.inj ho;have e1:a.tmps.getD 41 undef=.pointer (some ⟨rb,0,none⟩):=Eq.trans (hI.val 6 _ 41 rfl rfl (dep_at haf (by kernel_rfl))) rfl;have x13:x.getD 13 false=false:=no_bit xi fun h=>hcl.at (j:=11) rfl (k:=7) (by kernel_rfl) (hcl.at (j:=12) rfl (k:=11) (by kernel_rfl) (hcl.at (j:=13) rfl (k:=12) (by kernel_rfl) h))
            have m0:=kpB (hW.a x13) cL.out;go_simp;exact ⟨_,rfl,γ,rfl,fun j v _ h=>h,hW.other (by decide) (by decide) (by decide) (by decide)⟩
           | 8,_=>
            obtain rfl:=Option.some.inj ho;have e1:a.tmps.getD 5 undef=.pointer (some ⟨rb,0,none⟩):=(hI.was (by kernel_rfl)).trans rfl;go_simp;exact ⟨_,rfl,γ,rfl,fun j v _ h=>h,hW.other (by decide) (by decide) (by decide) (by decide)⟩
           | 9,_=>
            obtain rfl:=Option.some.inj ho;have e1:a.tmps.getD 43 undef=.pointer (some ⟨rb,1,none⟩):=Eq.trans (hI.val 8 _ 43 rfl rfl (dep_at haf (by kernel_rfl))) rfl;have x13:x.getD 13 false=false:=no_bit xi fun h=>hcl.at (j:=10) rfl (k:=9) (by kernel_rfl) (hcl.at (j:=13) rfl (k:=10) (by kernel_rfl) h)
            have m0:=kpB (hW.a x13) cW.out;go_simp;exact ⟨_,rfl,γ,rfl,fun j v _ h=>h,hW.other (by decide) (by decide) (by decide) (by decide)⟩
           | 10,_=>
            obtain rfl:=Option.some.inj ho;have e1:a.tmps.getD 44 undef=.slice (some ⟨gp,op,none⟩) m cu:=Eq.trans (hI.val 9 _ 44 rfl rfl (dep_at haf (by kernel_rfl))) rfl;have x13:x.getD 13 false=false:=no_bit xi fun h=>hcl.at (j:=13) rfl (k:=10) (by kernel_rfl) h
            have x12:x.getD 12 false=false:=no_bit xi fun h=>hcl.at (j:=11) rfl (k:=10) (by kernel_rfl) (hcl.at (j:=12) rfl (k:=11) (by kernel_rfl) h)
            have x11:x.getD 11 false=false:=no_bit xi fun h=>hcl.at (j:=11) rfl (k:=10) (by kernel_rfl) h
            go_simp;refine (cln.out z (hW.a x13)).mono ?_;rintro e z' ⟨p,cc,rfl,hb,hwc⟩;refine ⟨_,rfl,⟨p,cc,γ.b,γ.g,γ.cap⟩,rfl,fun j v hj h=>Eq.trans h (bkV_pc (fun e=>?_) (fun e=>?_)),hW.call x12 x13 hb p cc hwc⟩
            · subst e; exact gd_no xi hj
            · subst e; exact gd_no x11 hj
           | 11,_=>
            obtain rfl:=Option.some.inj ho;have e1:a.tmps.getD 42 undef=.int .i64 ln:=Eq.trans (hI.val 7 _ 42 rfl rfl (dep_at haf (by kernel_rfl))) rfl;have e2:a.tmps.getD 45 undef=.slice γ.p m γ.c:=Eq.trans (hI.val 10 _ 45 rfl rfl (dep_at haf (by kernel_rfl))) rfl;go_simp;simp only [← Array.getD_eq_getD_getElem?,e1,e2];go_simp;exact ⟨_,rfl,γ,rfl,fun j v _ h=>h,hW.other (by decide) (by decide) (by decide) (by decide)⟩
           | 12,_=>
            obtain rfl:=Option.some.inj ho;have e1:a.tmps.getD 46 undef=.agg #[.int .i64 ln,.slice γ.p m γ.c]:=Eq.trans (hI.val 11 _ 46 rfl rfl (dep_at haf (by kernel_rfl))) rfl;have x13:x.getD 13 false=false:=no_bit xi fun h=>hcl.at (j:=13) rfl (k:=12) (by kernel_rfl) h
            go_simp;simp only [← Array.getD_eq_getD_getElem?,e1];go_simp;refine ⟨_,rfl,⟨γ.p,γ.c,z.heap.size,γ.g,γ.cap⟩,rfl,fun j v hj h=>Eq.trans h (bkV_b (fun e=>?_)),hW.block x13⟩;subst e; exact gd_no xi hj
           | 13,_=>
            obtain rfl:=Option.some.inj ho;have e1:a.tmps.getD 40 undef=u:=Eq.trans (hI.val 5 _ 40 rfl rfl (dep_at haf (by kernel_rfl))) rfl;have e2:a.tmps.getD 47 undef=.slice (some ⟨γ.b,0,none⟩) 1 1:=Eq.trans (hI.val 12 _ 47 rfl rfl (dep_at haf (by kernel_rfl))) rfl;have x12:x.getD 12 false=true:=dep_at haf (by kernel_rfl);have x10:x.getD 10 false=true:=hcl.at (j:=11) rfl (k:=10) (by kernel_rfl) (hcl.at (j:=12) rfl (k:=11) (by kernel_rfl) x12);have x15:x.getD 15 false=false:=no_bit xi fun h=>hcl.at (j:=15) rfl (k:=13) (by kernel_rfl) h
            have hbl:=hW.bl x12 xi;have low:=hW.a xi;refine wp_append_lies _ (.tmp 40) (.tmp 47) 55 rfl w.heap.size 56 r0 (.agg #[.int .i64 0,.slice none 0 0]) 2 32 Tryz.underlying55 hri hr0 hr1 hr2 rfl (by omega) u c.length (rnC c) e1 (own_below uo.out low)
             ⟨γ.b,0,none⟩ 1 1 [.int .i64 ln,.slice γ.p m γ.c] e2 rfl (World.news_of_block (cs:=#[.int .i64 ln,.slice γ.p m γ.c]) hbl) (by simp [Value.oneCell'])
             (by omega) (by unfold maxLen; omega) (by omega) (Nat.le_trans wqs.out low.size) z.heap.size rfl ?_
            intro gg cap' z' hO gO hat hlt2;refine ⟨_,⟨γ.p,γ.c,γ.b,gg,cap'⟩,rfl,fun d hd=>rfl,fun j v hj h=>Eq.trans h (bkV_g (fun e=>?_)),hW.appd x10 xi x15 (by rw [hx]; decide) gO hat hO⟩;subst e; rw [xi] at hj; cases hj
           | 14,_=>
            obtain rfl:=Option.some.inj ho;have e1:a.tmps.getD 35 undef=.slice (some ⟨go,0,none⟩) N capo:=Eq.trans (hI.val 0 _ 35 rfl rfl (dep_at haf (by kernel_rfl))) rfl;have e2:a.tmps.getD 36 undef=.int .i64 (K:Int):=Eq.trans (hI.val 1 _ 36 rfl rfl (dep_at haf (by kernel_rfl))) rfl;go_simp;exact ⟨_,rfl,γ,rfl,fun j v _ h=>h,hW.other (by decide) (by decide) (by decide) (by decide)⟩
           | 15,_=>
            obtain rfl:=Option.some.inj ho;have e1:a.tmps.getD 49 undef=.pointer (some ⟨go,K,none⟩):=Eq.trans (hI.val 14 _ 49 rfl rfl (dep_at haf (by kernel_rfl))) rfl;have e2:a.tmps.getD 48 undef=.slice (some ⟨γ.g,0,none⟩) (c.length + 1) γ.cap:=Eq.trans (hI.val 13 _ 48 rfl rfl (dep_at haf (by kernel_rfl))) rfl;have x13:x.getD 13 false=true:=dep_at haf (by kernel_rfl);have hput:=hW.put x13 xi (by rw [hx]; decide);obtain ⟨z3,h1,h2,h3⟩:=hW.ap x13;obtain rfl:=h2 xi;have k:=h1.ro (K:=K) (N:=N) (capo:=capo) stq.out hK.out;have m0:=k.1;have m1:=k.2;clear h1 h2 h3 k;replace hput:Hid (BkW w wq go K u c ln ws m γ (x.setIfInBounds 15 true) (z.setCell ⟨go,K,none⟩ (.slice (some ⟨γ.g,0,none⟩) (c.length + 1) γ.cap))):=hput;go_simp;exact ⟨γ,fun j v _ h=>h,hput⟩
         · intro γ x a z hx hall hI hW;have fin:=hW.fin (hall 13 (by decide)) (hall 15 (by decide)) hK.out stq.out;have ha:=RegI.tmps (V:=bkV go K capo N rb u ln (some ⟨gp,op,none⟩) m cu c.length γ) hI (by kernel_rfl) hall;simp only [putsL,bkV,List.setIfInBounds_toArray,List.set_cons_zero,List.set_cons_succ] at ha;subst ha;replace fin:Hid (BkSt w z (.slice (some ⟨go,0,none⟩) N capo) (us0 ++ [.slice (some ⟨γ.g,0,none⟩) (c.length + 1) γ.cap]) (cs0 ++ [c ++ [((ln,ws),.slice γ.p m γ.c)]])):=fin;have nx':Hid (BkRW (rs.take (k + 1)) (cs0 ++ [c ++ [((ln,ws),.slice γ.p m γ.c)]])):=nx.out γ.p γ.c;clear hI hW hall hx stq cO cL cW cln uo nx kL hK wqs;go_wp2;exact ⟨⟨k + 1,_,_,by omega,by simp,fin,nx'⟩,by simp [intOf]; omega⟩
        | false=>
         have hd:Hid (isDev (ln,ws)=false):=hdv;clear hdv;obtain ⟨cs0,c,rfl⟩:∃ cs0 c,cs=cs0 ++ [c]:=by
          rcases List.eq_nil_or_concat cs with h | ⟨a,b,h⟩
          · exact absurd h (BkR.some lf.out.r (by intro e; have:=List.take_eq_nil_iff.1 e; rcases this with h | h; exact hk0 h; have:=hlen.out; rw [h] at this; simp at this; omega))
          · exact ⟨a,b,by rw [h,List.concat_eq_append]⟩
         obtain ⟨us0,u,rfl⟩:∃ us0 u,us=us0 ++ [u]:=by
          rcases List.eq_nil_or_concat us with h | ⟨a,b,h⟩
          · have:=q.out.st.len; rw [h] at this; simp at this
          · exact ⟨a,b,by rw [h,List.concat_eq_append]⟩
         have nx:Hid (NxR rs k m cs0 c (ln,ws)):=nx_old lf.out hrk.out hd.out hm.out;have kL:(c.length:Int)≤4500:=by have:=cl2.out c (by simp); omega
         replace cl1:Hid (us0.length≤4500):=by have:=cl1.out; simp at this; unfold Hid; omega
         obtain ⟨go,capo,e3,x1,x2⟩:=World.ownsRow.form q.out.st.ro (by simp);clear x1 x2 lf hrk hd cl2;rw [show (us0 ++ [u]).length=us0.length + 1 by simp] at e3;subst e3
         go_upto_region 7 with fail
         clear bL bW k2 t1 w1 u1;have qq:Hid (BkQ w wx rb ln (.slice (some ⟨gp,op,none⟩) m cu) (.slice (some ⟨go,0,none⟩) (us0.length + 1) capo) (us0 ++ [u]) (cs0 ++ [c])):=q.out;have hwq:=hwx;clear q hwx;generalize wx=wq at *;obtain ⟨K,hK⟩:∃ K,us0.length=K:=⟨_,rfl⟩;obtain ⟨N,hN⟩:∃ N,K + 1=N:=⟨_,rfl⟩;rw [hK] at cl1;rw [hK,hN] at qq ⊢;obtain ⟨stq,cL,cW⟩:=qq.out;have cO:Hid (wq.cell? ⟨go,K,none⟩=some u):=stq.cell hK;have uo:Hid (wq.ownsRow w.heap.size 56 2 u c.length (rnC c)):=stq.last;have cln:Hid (ClnC w.heap.size wq (.slice (some ⟨gp,op,none⟩) m cu) ws m):=clnC hwq.out (by rw [hm.out]; exact hl) stq.b.size hm.out;have wqs:Hid (w.heap.size≤wq.heap.size):=stq.b.size;replace stq:Hid (BkSt w wq (.slice (some ⟨go,0,none⟩) N capo) (us0 ++ [u]) (cs0 ++ [c])):=stq;replace cL:Hid (wq.cell? ⟨rb,0,none⟩=some (.int .i64 ln)):=cL;replace cW:Hid (wq.cell? ⟨rb,1,none⟩=some (.slice (some ⟨gp,op,none⟩) m cu)):=cW;have Kl:(K:Int) < (N:Int):=by omega
         have wN:IntKind.i64.wrap ((N:Int) - 1)=(K:Int):=by have:=cl1.out; simp only [IntKind.wrap_i64]; omega
         replace hK:Hid (us0.length=K):=hK;clear hN qq hwq cl1 hne hl hm
         go_upto_region 8 with fail
         refine region_props4 (fun γ i v=>BkP go K capo N rb u ln (some ⟨gp,op,none⟩) m cu c.length γ i v) (BkW w wq go K u c ln ws m) ⟨none,0,0,0,0⟩ (by kernel_rfl) (by kernel_rfl) ?_ ?_ ⟨fun _=>Below.drew (Below.refl _ _),fun h=>(by cases h),fun h=>(by cases h),fun h=>(by cases h)⟩
         · intro γ x a z i op ho hI haf hcl hx hxi hW;have hi:i < 16:=(List.getElem?_eq_some_iff.1 ho).1;have xi:=getD_false hxi
           match i,hi with
           | 0,_=>
            obtain rfl:=Option.some.inj ho;have e1:a.tmps.getD 3 undef=.slice (some ⟨go,0,none⟩) N capo:=(hI.was (by kernel_rfl)).trans rfl;go_simp;exact ⟨_,rfl,γ,rfl,fun j v _ h=>h,hW.other (by decide) (by decide) (by decide) (by decide)⟩
           | 1,_=>
            obtain rfl:=Option.some.inj ho;have e1:a.tmps.getD 6 undef=.int .i64 (K:Int):=(hI.was (by kernel_rfl)).trans rfl;go_simp;exact ⟨_,rfl,γ,rfl,fun j v _ h=>h,hW.other (by decide) (by decide) (by decide) (by decide)⟩
           | 2,_=>
            obtain rfl:=Option.some.inj ho;have e1:a.tmps.getD 3 undef=.slice (some ⟨go,0,none⟩) N capo:=(hI.was (by kernel_rfl)).trans rfl;go_simp;exact ⟨_,rfl,γ,rfl,fun j v _ h=>h,hW.other (by decide) (by decide) (by decide) (by decide)⟩
           | 3,_=>
            obtain rfl:=Option.some.inj ho;have e1:a.tmps.getD 6 undef=.int .i64 (K:Int):=(hI.was (by kernel_rfl)).trans rfl;go_simp;exact ⟨_,rfl,γ,rfl,fun j v _ h=>h,hW.other (by decide) (by decide) (by decide) (by decide)⟩
           | 4,_=>
            obtain rfl:=Option.some.inj ho;have e1:a.tmps.getD 37 undef=.slice (some ⟨go,0,none⟩) N capo:=Eq.trans (hI.val 2 _ 37 rfl rfl (dep_at haf (by kernel_rfl))) rfl;have e2:a.tmps.getD 38 undef=.int .i64 (K:Int):=Eq.trans (hI.val 3 _ 38 rfl rfl (dep_at haf (by kernel_rfl))) rfl;go_simp;exact ⟨_,rfl,γ,rfl,fun j v _ h=>h,hW.other (by decide) (by decide) (by decide) (by decide)⟩
           | 5,_=>
            obtain rfl:=Option.some.inj ho;have e1:a.tmps.getD 39 undef=.pointer (some ⟨go,K,none⟩):=Eq.trans (hI.val 4 _ 39 rfl rfl (dep_at haf (by kernel_rfl))) rfl;have x13:x.getD 13 false=false:=no_bit xi fun h=>hcl.at (j:=13) rfl (k:=5) (by kernel_rfl) h
            have m0:=kpB (hW.a x13) cO.out;go_simp;exact ⟨_,rfl,γ,rfl,fun j v _ h=>h,hW.other (by decide) (by decide) (by decide) (by decide)⟩
           | 6,_=>
            obtain rfl:=Option.some.inj ho;have e1:a.tmps.getD 5 undef=.pointer (some ⟨rb,0,none⟩):=(hI.was (by kernel_rfl)).trans rfl;go_simp;exact ⟨_,rfl,γ,rfl,fun j v _ h=>h,hW.other (by decide) (by decide) (by decide) (by decide)⟩
           | 7,_=>
            obtain rfl:=Option.some.inj ho;have e1:a.tmps.getD 41 undef=.pointer (some ⟨rb,0,none⟩):=Eq.trans (hI.val 6 _ 41 rfl rfl (dep_at haf (by kernel_rfl))) rfl;have x13:x.getD 13 false=false:=no_bit xi fun h=>hcl.at (j:=11) rfl (k:=7) (by kernel_rfl) (hcl.at (j:=12) rfl (k:=11) (by kernel_rfl) (hcl.at (j:=13) rfl (k:=12) (by kernel_rfl) h))
            have m0:=kpB (hW.a x13) cL.out;go_simp;exact ⟨_,rfl,γ,rfl,fun j v _ h=>h,hW.other (by decide) (by decide) (by decide) (by decide)⟩
           | 8,_=>
            obtain rfl:=Option.some.inj ho;have e1:a.tmps.getD 5 undef=.pointer (some ⟨rb,0,none⟩):=(hI.was (by kernel_rfl)).trans rfl;go_simp;exact ⟨_,rfl,γ,rfl,fun j v _ h=>h,hW.other (by decide) (by decide) (by decide) (by decide)⟩
           | 9,_=>
            obtain rfl:=Option.some.inj ho;have e1:a.tmps.getD 43 undef=.pointer (some ⟨rb,1,none⟩):=Eq.trans (hI.val 8 _ 43 rfl rfl (dep_at haf (by kernel_rfl))) rfl;have x13:x.getD 13 false=false:=no_bit xi fun h=>hcl.at (j:=10) rfl (k:=9) (by kernel_rfl) (hcl.at (j:=13) rfl (k:=10) (by kernel_rfl) h)
            have m0:=kpB (hW.a x13) cW.out;go_simp;exact ⟨_,rfl,γ,rfl,fun j v _ h=>h,hW.other (by decide) (by decide) (by decide) (by decide)⟩
           | 10,_=>
            obtain rfl:=Option.some.inj ho;have e1:a.tmps.getD 44 undef=.slice (some ⟨gp,op,none⟩) m cu:=Eq.trans (hI.val 9 _ 44 rfl rfl (dep_at haf (by kernel_rfl))) rfl;have x13:x.getD 13 false=false:=no_bit xi fun h=>hcl.at (j:=13) rfl (k:=10) (by kernel_rfl) h
            have x12:x.getD 12 false=false:=no_bit xi fun h=>hcl.at (j:=11) rfl (k:=10) (by kernel_rfl) (hcl.at (j:=12) rfl (k:=11) (by kernel_rfl) h)
            have x11:x.getD 11 false=false:=no_bit xi fun h=>hcl.at (j:=11) rfl (k:=10) (by kernel_rfl) h
            go_simp;refine (cln.out z (hW.a x13)).mono ?_;rintro e z' ⟨p,cc,rfl,hb,hwc⟩;refine ⟨_,rfl,⟨p,cc,γ.b,γ.g,γ.cap⟩,rfl,fun j v hj h=>Eq.trans h (bkV_pc (fun e=>?_) (fun e=>?_)),hW.call x12 x13 hb p cc hwc⟩
            · subst e; exact gd_no xi hj
            · subst e; exact gd_no x11 hj
           | 11,_=>
            obtain rfl:=Option.some.inj ho;have e1:a.tmps.getD 42 undef=.int .i64 ln:=Eq.trans (hI.val 7 _ 42 rfl rfl (dep_at haf (by kernel_rfl))) rfl;have e2:a.tmps.getD 45 undef=.slice γ.p m γ.c:=Eq.trans (hI.val 10 _ 45 rfl rfl (dep_at haf (by kernel_rfl))) rfl;go_simp;simp only [← Array.getD_eq_getD_getElem?,e1,e2];go_simp;exact ⟨_,rfl,γ,rfl,fun j v _ h=>h,hW.other (by decide) (by decide) (by decide) (by decide)⟩
           | 12,_=>
            obtain rfl:=Option.some.inj ho;have e1:a.tmps.getD 46 undef=.agg #[.int .i64 ln,.slice γ.p m γ.c]:=Eq.trans (hI.val 11 _ 46 rfl rfl (dep_at haf (by kernel_rfl))) rfl;have x13:x.getD 13 false=false:=no_bit xi fun h=>hcl.at (j:=13) rfl (k:=12) (by kernel_rfl) h
            go_simp;simp only [← Array.getD_eq_getD_getElem?,e1];go_simp;refine ⟨_,rfl,⟨γ.p,γ.c,z.heap.size,γ.g,γ.cap⟩,rfl,fun j v hj h=>Eq.trans h (bkV_b (fun e=>?_)),hW.block x13⟩;subst e; exact gd_no xi hj
           | 13,_=>
            obtain rfl:=Option.some.inj ho;have e1:a.tmps.getD 40 undef=u:=Eq.trans (hI.val 5 _ 40 rfl rfl (dep_at haf (by kernel_rfl))) rfl;have e2:a.tmps.getD 47 undef=.slice (some ⟨γ.b,0,none⟩) 1 1:=Eq.trans (hI.val 12 _ 47 rfl rfl (dep_at haf (by kernel_rfl))) rfl;have x12:x.getD 12 false=true:=dep_at haf (by kernel_rfl);have x10:x.getD 10 false=true:=hcl.at (j:=11) rfl (k:=10) (by kernel_rfl) (hcl.at (j:=12) rfl (k:=11) (by kernel_rfl) x12);have x15:x.getD 15 false=false:=no_bit xi fun h=>hcl.at (j:=15) rfl (k:=13) (by kernel_rfl) h
            have hbl:=hW.bl x12 xi;have low:=hW.a xi;refine wp_append_lies _ (.tmp 40) (.tmp 47) 55 rfl w.heap.size 56 r0 (.agg #[.int .i64 0,.slice none 0 0]) 2 32 Tryz.underlying55 hri hr0 hr1 hr2 rfl (by omega) u c.length (rnC c) e1 (own_below uo.out low)
             ⟨γ.b,0,none⟩ 1 1 [.int .i64 ln,.slice γ.p m γ.c] e2 rfl (World.news_of_block (cs:=#[.int .i64 ln,.slice γ.p m γ.c]) hbl) (by simp [Value.oneCell'])
             (by omega) (by unfold maxLen; omega) (by omega) (Nat.le_trans wqs.out low.size) z.heap.size rfl ?_
            intro gg cap' z' hO gO hat hlt2;refine ⟨_,⟨γ.p,γ.c,γ.b,gg,cap'⟩,rfl,fun d hd=>rfl,fun j v hj h=>Eq.trans h (bkV_g (fun e=>?_)),hW.appd x10 xi x15 (by rw [hx]; decide) gO hat hO⟩;subst e; rw [xi] at hj; cases hj
           | 14,_=>
            obtain rfl:=Option.some.inj ho;have e1:a.tmps.getD 35 undef=.slice (some ⟨go,0,none⟩) N capo:=Eq.trans (hI.val 0 _ 35 rfl rfl (dep_at haf (by kernel_rfl))) rfl;have e2:a.tmps.getD 36 undef=.int .i64 (K:Int):=Eq.trans (hI.val 1 _ 36 rfl rfl (dep_at haf (by kernel_rfl))) rfl;go_simp;exact ⟨_,rfl,γ,rfl,fun j v _ h=>h,hW.other (by decide) (by decide) (by decide) (by decide)⟩
           | 15,_=>
            obtain rfl:=Option.some.inj ho;have e1:a.tmps.getD 49 undef=.pointer (some ⟨go,K,none⟩):=Eq.trans (hI.val 14 _ 49 rfl rfl (dep_at haf (by kernel_rfl))) rfl;have e2:a.tmps.getD 48 undef=.slice (some ⟨γ.g,0,none⟩) (c.length + 1) γ.cap:=Eq.trans (hI.val 13 _ 48 rfl rfl (dep_at haf (by kernel_rfl))) rfl;have x13:x.getD 13 false=true:=dep_at haf (by kernel_rfl);have hput:=hW.put x13 xi (by rw [hx]; decide);obtain ⟨z3,h1,h2,h3⟩:=hW.ap x13;obtain rfl:=h2 xi;have k:=h1.ro (K:=K) (N:=N) (capo:=capo) stq.out hK.out;have m0:=k.1;have m1:=k.2;clear h1 h2 h3 k;replace hput:Hid (BkW w wq go K u c ln ws m γ (x.setIfInBounds 15 true) (z.setCell ⟨go,K,none⟩ (.slice (some ⟨γ.g,0,none⟩) (c.length + 1) γ.cap))):=hput;go_simp;exact ⟨γ,fun j v _ h=>h,hput⟩
         · intro γ x a z hx hall hI hW;have fin:=hW.fin (hall 13 (by decide)) (hall 15 (by decide)) hK.out stq.out;have ha:=RegI.tmps (V:=bkV go K capo N rb u ln (some ⟨gp,op,none⟩) m cu c.length γ) hI (by kernel_rfl) hall;simp only [putsL,bkV,List.setIfInBounds_toArray,List.set_cons_zero,List.set_cons_succ] at ha;subst ha;replace fin:Hid (BkSt w z (.slice (some ⟨go,0,none⟩) N capo) (us0 ++ [.slice (some ⟨γ.g,0,none⟩) (c.length + 1) γ.cap]) (cs0 ++ [c ++ [((ln,ws),.slice γ.p m γ.c)]])):=fin;have nx':Hid (BkRW (rs.take (k + 1)) (cs0 ++ [c ++ [((ln,ws),.slice γ.p m γ.c)]])):=nx.out γ.p γ.c;clear hI hW hall hx stq cO cL cW cln uo nx kL hK wqs;go_wp2;exact ⟨⟨k + 1,_,_,by omega,by simp,fin,nx'⟩,by simp [intOf]; omega⟩
  · obtain rfl:k=len:=by omega
    have fin:Hid (BkRW rs cs):=by
     have h:=lf.out
     rwa [List.take_of_length_le (by have:=hlen.out; omega)] at h
    clear lf hv;go_wp2;go_ret;exact ⟨_,us,cs,rfl,st.out,fin.out⟩
end Go.Proofs.YthabffjgdhfbmaaGreatDoor
