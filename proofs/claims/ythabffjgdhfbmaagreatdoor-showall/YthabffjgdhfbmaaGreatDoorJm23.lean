/-
  Texts that belong together, one behind the other: SnOf0, SnOf, ShBack, ShAlW. Conditions: as each says.
-/
import Derived.BigQuiet
import Derived.ChangeOld
import Derived.Deep.AppendLies
import Derived.Deep.CutRange
import Derived.Deep.QuietTactic
import Derived.Deep.RegionHeld3
import Derived.Laws.BitsAllLaws
import Derived.Laws.OwnMore
import Derived.Laws.Rows
import Derived.Laws.Shifts
import Derived.Lib.QuietBelowIn
import Derived.Maps.AppendAt
import Derived.OpenShut
import Derived.ProofKit
import Derived.RangeFuncCalls
import Derived.ShutString
import Derived.Sort.BigQuietIn
import Derived.Test.YthabffjgdhfbmaaGreatDoorProg
import Derived.Test.YthabffjgdhfbmaaGreatDoorJm1
import Derived.Test.YthabffjgdhfbmaaGreatDoorJm2
import Derived.Test.YthabffjgdhfbmaaGreatDoorJm3
import Derived.Test.YthabffjgdhfbmaaGreatDoorJm4
import Derived.Test.YthabffjgdhfbmaaGreatDoorJm5
import Derived.Test.YthabffjgdhfbmaaGreatDoorJm6
import Derived.Test.YthabffjgdhfbmaaGreatDoorJm7
import Derived.Test.YthabffjgdhfbmaaGreatDoorJm8
import Derived.Test.YthabffjgdhfbmaaGreatDoorJm9
import Derived.Test.YthabffjgdhfbmaaGreatDoorJm10
import Derived.Test.YthabffjgdhfbmaaGreatDoorJm11
import Derived.Test.YthabffjgdhfbmaaGreatDoorJm12
import Derived.Test.YthabffjgdhfbmaaGreatDoorJm13
import Derived.Test.YthabffjgdhfbmaaGreatDoorJm14
import Derived.Test.YthabffjgdhfbmaaGreatDoorJm15
import Derived.Test.YthabffjgdhfbmaaGreatDoorJm16
import Derived.Test.YthabffjgdhfbmaaGreatDoorJm17
import Derived.Test.YthabffjgdhfbmaaGreatDoorJm18
import Derived.Test.YthabffjgdhfbmaaGreatDoorJm19
import Derived.Test.YthabffjgdhfbmaaGreatDoorJm20
import Derived.Test.YthabffjgdhfbmaaGreatDoorJm21
import Derived.Test.YthabffjgdhfbmaaGreatDoorJm22
set_option maxRecDepth 100000
set_option maxHeartbeats 32000000
set_option linter.unusedVariables false
namespace Go.Proofs.YthabffjgdhfbmaaGreatDoor
open Go.RowKit
def ofW (w:World) (n d:Int):World:=(w.alloc (.cells #[.int .i64 n,.int .i64 d] 62)).alloc (.cells #[.int .i64 n,.int .i64 d] 67)
theorem ofW_size (w:World) (n d:Int):(ofW w n d).heap.size=w.heap.size + 2:=by unfold ofW; rw [World.size_alloc,World.size_alloc]
theorem ofW_below (w:World) (n d:Int):Below w.heap.size w (ofW w n d):=((Below.refl _ _).alloc (Nat.le_refl _) _).alloc (by rw [World.size_alloc]; omega) _
theorem ofx_any (n d:Int) (w:World):Calls Tryz.prog 24 #[rv n d] w fun e w'=>e=.returned (rv n d)∧w'=ofW w n d:=by
 go_enter Tryz.func24,Tryz.ntmps24
 go_wp2;go_returns;exact ⟨rfl,rfl⟩
theorem res_dev1 {fn:Func} {p:Tmp} (h:fn.results=#[.cell p 33]) {tmps:Array Value} {w:World} {b:Nat} {v0 v1 v2 v3 v4 v5 v6 v7 v8 v9 v10 v11:Value}
 (hp:tmps.getD p undef=.pointer (some ⟨b,0,none⟩))
 (hc:w.heap[b]?=some (.cells #[v0,v1,v2,v3,v4,v5,v6,v7,v8,v9,v10,v11] 33 (0,0))) :
 (results fn tmps).run Tryz.prog w=.ok (.agg #[v0,v1,v2,v3,v4,v5,v6,v7,v8,v9,v10,v11]) w:=by
 exact results_cell_row h tmps w b _ _ _ _ hp hc Tryz.underlying33 rfl (by kernel_rfl)
def ofZ (wr:World) (R:Nat) (d:Dv) (ov qv:Value):World:=putD wr R d ov qv
theorem of_end {wr:World} {d:Dv} {po pq:Option Addr} {no co nq cq R O:Nat} {T T':TypeId} (hO:wr.heap[O]?=some (.cells (dvA d (.slice po no co) (.slice pq nq cq)) T (0,0))) (hR:wr.heap[R]?=some (.cells dz T' (0,0))) {id:Nat} {q0 q1:String} {f0 f1:Array Edge} {a:Act} {Q:Exit→Act→World→Prop}
 (e3:a.tmps.getD 3 undef=.pointer (some ⟨O,0,none⟩)) (e2:a.tmps.getD 2 undef=.pointer (some ⟨R,0,none⟩)) (ht:63 < a.tmps.size)
 (hQ:Q .normal (a.put (some 63) (dvV d (.slice po no co) (.slice pq nq cq))) (ofZ wr R d (.slice po no co) (.slice pq nq cq))) :
 (Code.region id #[{ dst:=some 63,op:=.load 33 (.tmp 3),type:=33,pos:=q0,after:=f0,guard:=none },{ dst:=none,op:=.store 33 (.tmp 2) (.tmp 63),type:=0,pos:=q1,after:=f1,guard:=none }] false).wp Tryz.prog Q a wr:=by
 have cz:=rd_cell hO;have lz:=rd_cell hR;refine wp_region_list ?_;obtain ⟨c0,cm0⟩:=cz 0;obtain ⟨c1,cm1⟩:=cz 1;obtain ⟨c2,cm2⟩:=cz 2;obtain ⟨c3,cm3⟩:=cz 3;obtain ⟨c4,cm4⟩:=cz 4;obtain ⟨c5,cm5⟩:=cz 5;obtain ⟨c6,cm6⟩:=cz 6;obtain ⟨c7,cm7⟩:=cz 7;obtain ⟨c8,cm8⟩:=cz 8;obtain ⟨c9,cm9⟩:=cz 9;obtain ⟨c10,cm10⟩:=cz 10;obtain ⟨c11,cm11⟩:=cz 11;simp only [List.getElem?_toArray,List.getElem?_cons_zero,List.getElem?_cons_succ] at c0 c1 c2 c3 c4 c5 c6 c7 c8 c9 c10 c11;refine wpList_plain rfl fun K hK=>?_
 suffices g:K (a.put (some 63) (dvV d (.slice po no co) (.slice pq nq cq))) wr by
  clear hK;go_simp;exact g
 refine hK _ _ ?_;clear c0 c1 c2 c3 c4 c5 c6 c7 c8 c9 c10 c11;obtain ⟨l0,lm0⟩:=lz 0;obtain ⟨l1,lm1⟩:=lz 1;obtain ⟨l2,lm2⟩:=lz 2;obtain ⟨l3,lm3⟩:=lz 3;obtain ⟨l4,lm4⟩:=lz 4;obtain ⟨l5,lm5⟩:=lz 5;obtain ⟨l6,lm6⟩:=lz 6;obtain ⟨l7,lm7⟩:=lz 7;obtain ⟨l8,lm8⟩:=lz 8;obtain ⟨l9,lm9⟩:=lz 9;obtain ⟨l10,lm10⟩:=lz 10;obtain ⟨l11,lm11⟩:=lz 11;simp only [List.getElem?_toArray,List.getElem?_cons_zero,List.getElem?_cons_succ] at l0 l1 l2 l3 l4 l5 l6 l7 l8 l9 l10 l11;have u2:(a.put (some 63) (dvV d (.slice po no co) (.slice pq nq cq))).tmps.getD 2 undef=.pointer (some ⟨R,0,none⟩):=(put_off a _ (by decide)).trans e2;have ut:(a.put (some 63) (dvV d (.slice po no co) (.slice pq nq cq))).tmps.getD 63 undef=dvV d (.slice po no co) (.slice pq nq cq):=put_at a _ ht;generalize a.put (some 63) (dvV d (.slice po no co) (.slice pq nq cq))=a1 at *;clear hK cz lz hO hR e3 e2;refine wpList_plain rfl fun K hK=>?_
 suffices g:K a1 (ofZ wr R d (.slice po no co) (.slice pq nq cq)) by
  clear hK hQ;unfold ofZ putD put12 at g;go_simp;exact g
 refine hK _ _ ?_;exact hQ
structure OfS (w wr:World) (d:Dv) (fv qv ov:Value) (k:Nat):Prop where
 c:∀ i u,(dvL d fv qv)[i]?=some u→wr.cell? ⟨w.heap.size,i,none⟩=some u
 fl:FldsV w fv d.fs
 rc:wr.heap[w.heap.size + 1]?=some (.cells dz 33 (0,0))
 oc:wr.heap[w.heap.size + 2]?=some (.cells (dvA d ov qv) 33 (0,0))
 own:wr.ownsRow (w.heap.size + 3) 70 9 ov k (fdCs (d.fs.take k))
 b:Below w.heap.size w wr
theorem OfS.first {w:World} {d:Dv} {fv qv:Value} (h:FldsV w fv d.fs):OfS w (((w.alloc (.cells #[.string (txt d.nm),.int .i64 d.st,.int .i64 d.es,.int .i64 d.mx,.int .i64 d.sz,.string (txt d.sm),fv,qv,.int .i64 d.po,.int .i64 d.ti,.int .i64 d.re,.int .i64 d.ag] 25)).alloc (.cells dz 33)).alloc (.cells (dvA d (.slice none 0 0) qv) 33)) d fv qv (.slice none 0 0) 0:=by
 have b1:Below (w.alloc (.cells #[.string (txt d.nm),.int .i64 d.st,.int .i64 d.es,.int .i64 d.mx,.int .i64 d.sz,.string (txt d.sm),fv,qv,.int .i64 d.po,.int .i64 d.ti,.int .i64 d.re,.int .i64 d.ag] 25)).heap.size (w.alloc (.cells #[.string (txt d.nm),.int .i64 d.st,.int .i64 d.es,.int .i64 d.mx,.int .i64 d.sz,.string (txt d.sm),fv,qv,.int .i64 d.po,.int .i64 d.ti,.int .i64 d.re,.int .i64 d.ag] 25)) (((w.alloc (.cells #[.string (txt d.nm),.int .i64 d.st,.int .i64 d.es,.int .i64 d.mx,.int .i64 d.sz,.string (txt d.sm),fv,qv,.int .i64 d.po,.int .i64 d.ti,.int .i64 d.re,.int .i64 d.ag] 25)).alloc (.cells dz 33)).alloc (.cells (dvA d (.slice none 0 0) qv) 33)):=((Below.refl _ _).alloc (Nat.le_refl _) _).alloc (by simp [World.size_alloc]) _;have D:=(DevB.new (qv:=qv) h 25).below b1;refine ⟨D.c,h,?_,?_,World.ownsRow_nil _ _ _ _,?_⟩
 · have k:=World.alloc_heap_new (w.alloc (.cells #[.string (txt d.nm),.int .i64 d.st,.int .i64 d.es,.int .i64 d.mx,.int .i64 d.sz,.string (txt d.sm),fv,qv,.int .i64 d.po,.int .i64 d.ti,.int .i64 d.re,.int .i64 d.ag] 25)) (.cells dz 33);rw [World.size_alloc] at k;exact (((Below.refl _ _).alloc (Nat.le_refl _) _).block _ (Array.getElem?_eq_some_iff.1 k).1).trans k
 · have k:=World.alloc_heap_new ((w.alloc (.cells #[.string (txt d.nm),.int .i64 d.st,.int .i64 d.es,.int .i64 d.mx,.int .i64 d.sz,.string (txt d.sm),fv,qv,.int .i64 d.po,.int .i64 d.ti,.int .i64 d.re,.int .i64 d.ag] 25)).alloc (.cells dz 33)) (.cells (dvA d (.slice none 0 0) qv) 33)
   rwa [World.size_alloc,World.size_alloc] at k
 · exact (((Below.refl _ _).alloc (Nat.le_refl _) _).alloc (by rw [World.size_alloc]; omega) _).alloc (by rw [World.size_alloc,World.size_alloc]; omega) _
theorem OfS.below {w x y:World} {d:Dv} {fv qv ov:Value} {k:Nat} (h:OfS w x d fv qv ov k) (hb:Below x.heap.size x y):OfS w y d fv qv ov k:=
 ⟨fun i u hu=>(hb.cell (p:=⟨w.heap.size,i,none⟩) (by have:=(Array.getElem?_eq_some_iff.1 h.rc).1; show w.heap.size < _; omega)).trans (h.c i u hu),h.fl,(hb.block _ (Array.getElem?_eq_some_iff.1 h.rc).1).trans h.rc,(hb.block _ (Array.getElem?_eq_some_iff.1 h.oc).1).trans h.oc,ownsRow_below hb h.own,h.b.trans (hb.mono h.b.size)⟩
theorem OfS.far {w x:World} {d:Dv} {fv qv ov:Value} {k:Nat} (h:OfS w x d fv qv ov k) (b:Nat) (hb:b < w.heap.size + 3 ∨ x.heap.size≤b):some b ≠ ov.ownBlock:=fun e=>by
 have:=World.ownsRow.lt h.own b e.symm;omega
theorem OfS.next {w wr w8 y:World} {d:Dv} {fv qv ov v:Value} {k:Nat} {f:Fd} (h:OfS w wr d fv qv ov k) (hk:k < d.fs.length) (hf:d.fs[k]=f) (hb:Below wr.heap.size wr w8) (ha:ApY w8 (w.heap.size + 3) k (fdCs (d.fs.take k)) ov (fdC f) y v) :
 OfS w (y.setCell ⟨w.heap.size + 2,6,none⟩ v) d fv qv v (k + 1)∧∃ p c,v=.slice p (k + 1) c:=by
 obtain ⟨gg,cap',rfl,hO,hg,hat⟩:=ha;have h8:=h.below hb;have far:∀ b,b < w.heap.size + 3→some b ≠ ov.ownBlock:=fun b hb=>h8.far b (.inl hb)
 have bR:=Array.getElem?_eq_some_iff.1 h8.rc;have bO:=Array.getElem?_eq_some_iff.1 h8.oc;obtain ⟨bO1,_⟩:=bO;obtain ⟨bR1,_⟩:=bR;have ggl:w.heap.size + 3≤gg:=by
  rcases hat with e | e
  · exact (World.ownsRow.lt h8.own gg e).1
  · omega
 have blk:∀ j,j < w8.heap.size→j < w.heap.size + 3→y.heap[j]?=w8.heap[j]?:=fun j hj hb=>hg.block j hj (far j hb)
 have oy:=(blk _ bO1 (by omega)).trans h8.oc;have ry:=(blk _ bR1 (by omega)).trans h8.rc;refine ⟨⟨fun i u hu=>?_,h.fl,?_,?_,?_,?_⟩,_,_,rfl⟩
 · rw [World.cell?_setCell_other _ _ _ _ (by intro e; have:=congrArg Addr.block e; simp only at this; omega)];exact (World.cell?_of_block (a:=⟨w.heap.size,i,none⟩) (blk w.heap.size (by omega) (by omega))).trans (h8.c i u hu)
 · rw [Below.heap_setCell _ _ _ _ (by simp)]; exact ry
 · exact (rd_set oy 6 _).trans (by simp only [List.setIfInBounds_toArray,List.set_cons_zero,List.set_cons_succ])
 · have e1:fdCs (d.fs.take (k + 1))=fdCs (d.fs.take k) ++ fdC f:=by rw [← List.take_append_getElem hk,hf,fdCs_snoc]
   rw [e1];exact ownsRow_setCell_below hO (by show w.heap.size + 2 < w.heap.size + 3; omega) _
 · refine Below.setCell ?_ (by show w.heap.size≤w.heap.size + 2; omega) _;have g2:Below w.heap.size w8 y:=⟨hg.os,hg.tape,hg.output,hg.size,fun j hj=>blk j (by omega) (by omega)⟩;exact h8.b.trans g2
theorem ofZ_at {wr:World} {R:Nat} {T:TypeId} (h:wr.heap[R]?=some (.cells dz T (0,0))) (d:Dv) (ov qv:Value):(ofZ wr R d ov qv).heap[R]?=some (.cells #[.string (txt d.nm),.int .i64 d.st,.int .i64 d.es,.int .i64 d.mx,.int .i64 d.sz,.string (txt d.sm),ov,qv,.int .i64 d.po,.int .i64 d.ti,.int .i64 d.re,.int .i64 d.ag] T (0,0)):=put12_at h _ _ _ _ _ _ _ _ _ _ _ _
theorem ofZ_off {wr:World} {R k:Nat} (h:k ≠ R) (d:Dv) (ov qv:Value):(ofZ wr R d ov qv).heap[k]?=wr.heap[k]?:=put12_off h _ _ _ _ _ _ _ _ _ _ _ _
theorem ofZ_below {w wr:World} {L R:Nat} (h:Below L w wr) (hR:L≤R) (d:Dv) (ov qv:Value):Below L w (ofZ wr R d ov qv):=put12_below h hR _ _ _ _ _ _ _ _ _ _ _ _
theorem ofZ_size (wr:World) (R:Nat) (d:Dv) (ov qv:Value):(ofZ wr R d ov qv).heap.size=wr.heap.size:=by unfold ofZ putD put12; simp only [World.size_setCell]
theorem OfS.fin {w wr:World} {d:Dv} {fv qv:Value} {po:Option Addr} {co:Nat} (h:OfS w wr d fv qv (.slice po d.fs.length co) d.fs.length):FldsV (ofZ wr (w.heap.size + 1) d (.slice po d.fs.length co) qv) (.slice po d.fs.length co) d.fs:=by
 have hO:=h.own;rw [List.take_of_length_le (Nat.le_refl _)] at hO;rcases own_slice hO with ⟨e,hn⟩ | ⟨gg,cp,e,hgb,hgl⟩
 · exact .inl ⟨none,0,by rw [e],List.length_eq_zero_iff.1 hn⟩
 · have hroom:=own_room hO _ _ _ rfl;refine .inr ⟨gg,0,co,?_,hroom,fun j hj i u hu=>?_,by rw [ofZ_size]; exact hgl⟩
   · injection e with e1 e2 e3
     rw [e1]
   · have hi9:i < 9:=by
      rcases Nat.lt_or_ge i 9 with h | h
      · exact h
      · rw [List.getElem?_eq_none (by rw [fdC_len]; exact h)] at hu; cases hu
     have hgR:gg ≠ w.heap.size + 1:=by omega
     have hc:=hO;rw [e] at hc;have k1:=World.ownsRow.cellAt hc (9 * j + i) (by omega);refine (World.cell?_of_block (a:=⟨gg,0 + 9 * j + i,none⟩) (ofZ_off hgR d _ qv)).trans ?_;rw [Nat.zero_add,k1,fdCs_get d.fs j i hj hi9];exact hu
def ofV (O Fb:Nat) (ov:Value) (f:Fd) (H:Nat) (i:Nat):Value:=
 (#[.pointer (some ⟨O,6,none⟩),ov,.pointer (some ⟨Fb,0,none⟩),.string (txt f.nm),.pointer (some ⟨Fb,1,none⟩),.int .i64 f.pl,.pointer (some ⟨Fb,2,none⟩),.string (txt f.kd),.pointer (some ⟨Fb,3,none⟩),.int .i64 f.wd,
  .pointer (some ⟨Fb,4,none⟩),rv f.sn f.sd,rv f.sn f.sd,.pointer (some ⟨Fb,6,none⟩),rv f.on f.od,rv f.on f.od,.pointer (some ⟨Fb,8,none⟩),.string (txt f.un),fdV f,.slice (some ⟨H,0,none⟩) 1 1,undef,.pointer (some ⟨O,6,none⟩),undef]:Array Value).getD i undef
def ofW3 (w8:World) (f:Fd):World:=(ofW (ofW w8.drew f.sn f.sd) f.on f.od).alloc (.cells #[.string (txt f.nm),.int .i64 f.pl,.string (txt f.kd),.int .i64 f.wd,.int .i64 f.sn,.int .i64 f.sd,.int .i64 f.on,.int .i64 f.od,.string (txt f.un)] 70)
theorem ofW2_size (w8:World) (f:Fd):(ofW (ofW w8.drew f.sn f.sd) f.on f.od).heap.size=w8.heap.size + 4:=by rw [ofW_size,ofW_size]; rfl
theorem ofW2_below (w8:World) (f:Fd):Below w8.heap.size w8 (ofW (ofW w8.drew f.sn f.sd) f.on f.od):=by
 have h0:Below w8.heap.size w8 w8.drew:=(Below.refl _ _).drew;have h1:=h0.trans ((ofW_below w8.drew f.sn f.sd).mono h0.size);exact h1.trans ((ofW_below _ f.on f.od).mono h1.size)
structure OfgW (w8:World) (O Fb base m:Nat) (xs:List Value) (ov:Value) (f:Fd) (x:Array Bool) (z:World):Prop where
 fb:FdB z Fb f
 fc:x.getD 22 false=false→z.cell? ⟨O,6,none⟩=some ov∧z.frozen? ⟨O,6,none⟩=false
 f0:x.getD 12 false=false→z=w8.drew
 f1:x.getD 12 false=true→x.getD 15 false=false→z=ofW w8.drew f.sn f.sd
 f2:x.getD 15 false=true→x.getD 19 false=false→z=ofW (ofW w8.drew f.sn f.sd) f.on f.od
 f3:x.getD 19 false=true→x.getD 20 false=false→z=ofW3 w8 f
 i15:x.getD 15 false=true→x.getD 12 false=true
 i18:x.getD 18 false=true→x.getD 15 false=true
 i19:x.getD 19 false=true→x.getD 15 false=true
 i20:x.getD 20 false=true→x.getD 19 false=true
 i22:x.getD 22 false=true→x.getD 20 false=true
 i1:x.getD 22 false=true→x.getD 1 false=true
 fin:x.getD 22 false=true→∃ y v,ApY w8 base m xs ov (fdC f) y v∧z=y.setCell ⟨O,6,none⟩ v
theorem OfgW.other {w8:World} {O Fb base m:Nat} {xs:List Value} {ov:Value} {f:Fd} {x:Array Bool} {z:World} (h:OfgW w8 O Fb base m xs ov f x z) {i:Nat} (h12:i ≠ 12) (h15:i ≠ 15) (h18:i ≠ 18) (h19:i ≠ 19) (h20:i ≠ 20) (h22:i ≠ 22):OfgW w8 O Fb base m xs ov f (x.setIfInBounds i true) z:=by
 obtain ⟨fb,fc,f0,f1,f2,f3,i15,i18,i19,i20,i22,i1,fin⟩:=h;have e12:(x.setIfInBounds i true).getD 12 false=x.getD 12 false:=getD_set_ne false h12;have e15:(x.setIfInBounds i true).getD 15 false=x.getD 15 false:=getD_set_ne false h15;have e18:(x.setIfInBounds i true).getD 18 false=x.getD 18 false:=getD_set_ne false h18;have e19:(x.setIfInBounds i true).getD 19 false=x.getD 19 false:=getD_set_ne false h19;have e20:(x.setIfInBounds i true).getD 20 false=x.getD 20 false:=getD_set_ne false h20;have e22:(x.setIfInBounds i true).getD 22 false=x.getD 22 false:=getD_set_ne false h22;refine ⟨fb,?_,?_,?_,?_,?_,?_,?_,?_,?_,?_,?_,?_⟩
 · rw [e22]; exact fc
 · rw [e12]; exact f0
 · rw [e12,e15]; exact f1
 · rw [e15,e19]; exact f2
 · rw [e19,e20]; exact f3
 · rw [e15,e12]; exact i15
 · rw [e18,e15]; exact i18
 · rw [e19,e15]; exact i19
 · rw [e20,e19]; exact i20
 · rw [e22,e20]; exact i22
 · rw [e22]; exact fun h=>getD_set_true (i1 h)
 · rw [e22]; exact fin
theorem not_yet {x:Array Bool} {i j:Nat} (h:x.getD i false=true→x.getD j false=true) (hj:x.getD j false=false):x.getD i false=false:=by
 cases e:x.getD i false
 · rfl
 · rw [h e] at hj; cases hj
theorem lof_new (d:Dv) (fv:Value) (pq:Option Addr) (nq cq:Nat) (w:World) (hfv:FldsV w fv d.fs) (hl:(d.fs.length:Int)≤100) :
 Calls Tryz.prog 11 #[dvV d fv (.slice pq nq cq)] w fun e w'=>∃ ov,e=.returned (dvV d ov (.slice pq nq cq))∧FldsV w' ov d.fs∧Below w.heap.size w w'∧∀ g,ov.ownBlock=some g→w.heap.size≤g:=by
 obtain ⟨r0,hri,hr0,hr1,hr2⟩:=info_parts info_fd;have S0:Hid (OfS w _ d fv (.slice pq nq cq) (.slice none 0 0) 0):=OfS.first hfv;obtain ⟨pv,cap,rfl⟩:=hfv.form;obtain ⟨len,hlen⟩:∃ len,d.fs.length=len:=⟨_,rfl⟩;have hl':Hid ((d.fs.length:Int)≤100):=hl;rw [hlen] at hl hfv S0 ⊢;replace hlen:Hid (d.fs.length=len):=hlen;replace hfv:Hid (FldsV w (.slice pv len cap) d.fs):=hfv
 go_enter Tryz.func11,Tryz.ntmps11
 go_wp2
 go_loopw [4] (fun vi wr=>∃ k:Nat,(k:Int)≤(len:Int)∧vi=.int .i64 (k:Int)∧∃ po co,Hid (OfS w wr d (.slice pv len cap) (.slice pq nq cq) (.slice po k co) k)) (fun vi _=>len - (intOf vi).toNat)
 case atStart=>exact ⟨0,by omega,rfl,_,_,S0⟩
 case round=>
  obtain ⟨k,hk,rfl,po,co,S⟩:=hrel;clear S0
  by_cases hlt:(k:Int) < (len:Int)
  · have hkl:k < d.fs.length:=by have:=hlen.out; omega
    have z6:=S.out.c 6 _ rfl;have flr:=hfv.out.below S.out.b;rcases flr with ⟨_,_,_,e⟩ | ⟨g,o,cap',e,_,hin,hg⟩
    · rw [e] at hkl; cases hkl
    · injection e with e1 e2 e3
      subst e1;obtain ⟨f,hf⟩:∃ f,d.fs[k]=f:=⟨_,rfl⟩;obtain ⟨c0,c1,c2,c3,c4,c5,c6,c7,c8⟩:=hin.cells hkl hf;have hb1:Below wr.heap.size wr (wr.alloc (.cells #[.string (txt f.nm),.int .i64 f.pl,.string (txt f.kd),.int .i64 f.wd,.int .i64 f.sn,.int .i64 f.sd,.int .i64 f.on,.int .i64 f.od,.string (txt f.un)] 64)):=(Below.refl _ _).alloc (Nat.le_refl _) _;have F8:Hid (FdB (wr.alloc (.cells #[.string (txt f.nm),.int .i64 f.pl,.string (txt f.kd),.int .i64 f.wd,.int .i64 f.sn,.int .i64 f.sd,.int .i64 f.on,.int .i64 f.od,.string (txt f.un)] 64)) wr.heap.size f):=FdB.new wr f _;have S8:Hid (OfS w (wr.alloc (.cells #[.string (txt f.nm),.int .i64 f.pl,.string (txt f.kd),.int .i64 f.wd,.int .i64 f.sn,.int .i64 f.sd,.int .i64 f.on,.int .i64 f.od,.string (txt f.un)] 64)) d (.slice (some ⟨g,o,none⟩) len cap) (.slice pq nq cq) (.slice po k co) k):=S.out.below hb1;have far:Hid (∀ b,b < w.heap.size + 3 ∨ b=wr.heap.size→some b ≠ (Value.slice po k co).ownBlock):=fun b hb=>S.out.far b (hb.imp id (fun e=>by omega))
      have hwl:Hid (w.heap.size + 3≤wr.heap.size):=by
       have:=(Array.getElem?_eq_some_iff.1 S.out.oc).1;unfold Hid; omega
      have hkf:Hid (∃ h:k < d.fs.length,d.fs[k]=f):=⟨hkl,hf⟩;replace hb1:Hid (Below wr.heap.size wr (wr.alloc (.cells #[.string (txt f.nm),.int .i64 f.pl,.string (txt f.kd),.int .i64 f.wd,.int .i64 f.sn,.int .i64 f.sd,.int .i64 f.on,.int .i64 f.od,.string (txt f.un)] 64))):=hb1;clear hin hf e2 e3 hkl hg;have hk100:(k:Int)≤100:=by omega
      go_upto_region 6 with fail
      generalize hX:wr.alloc (.cells #[.string (txt f.nm),.int .i64 f.pl,.string (txt f.kd),.int .i64 f.wd,.int .i64 f.sn,.int .i64 f.sd,.int .i64 f.on,.int .i64 f.od,.string (txt f.un)] 64)=w8 at *;have hs8:Hid (w8.heap.size=wr.heap.size + 1):=by unfold Hid; rw [← hX,World.size_alloc]
      clear hX c0 c1 c2 c3 c4 c5 c6 c7 c8 z6;obtain ⟨oc,ofz⟩:=rd_cell S8.out.oc 6;replace oc:w8.cell? ⟨w.heap.size + 2,6,none⟩=some (.slice po k co):=oc.trans rfl;have nFO:Hid (wr.heap.size ≠ w.heap.size + 2):=by have:=hwl.out; unfold Hid; omega
      refine region_props (fun i v z=>(i=20→ApR w8 (w.heap.size + 3) (w.heap.size + 2) k (fdCs (d.fs.take k)) (.slice po k co) (fdC f) v z)∧(i ≠ 20→v=ofV (w.heap.size + 2) wr.heap.size (.slice po k co) f (w8.heap.size + 4) i)) (OfgW w8 (w.heap.size + 2) wr.heap.size (w.heap.size + 3) k (fdCs (d.fs.take k)) (.slice po k co) f) (by kernel_rfl) (by kernel_rfl) ?_ ?_ ?_
      · intro x a z i op ho hI haf hx hxi hW;have hi:i < 23:=(List.getElem?_eq_some_iff.1 ho).1
        match i,hi with
        | 0,_=>
         obtain rfl:=Option.some.inj ho;have e1:a.tmps.getD 3 undef=.pointer (some ⟨w.heap.size + 2,0,none⟩):=(hI.was (by kernel_rfl)).trans rfl;go_simp;exact ⟨_,rfl,rfl,RegK.refl _ _ _,(hW.other (by decide) (by decide) (by decide) (by decide) (by decide) (by decide))⟩
        | 1,_=>
         obtain rfl:=Option.some.inj ho;have e1:a.tmps.getD 41 undef=.pointer (some ⟨w.heap.size + 2,6,none⟩):=(hI.val 0 _ 41 rfl rfl (dep_at haf (by kernel_rfl))).2 (by decide);have l1:=(hW.fc (not_yet hW.i1 (getD_false hxi))).1;go_simp;exact ⟨_,rfl,rfl,RegK.refl _ _ _,(hW.other (by decide) (by decide) (by decide) (by decide) (by decide) (by decide))⟩
        | 2,_=>
         obtain rfl:=Option.some.inj ho;have e1:a.tmps.getD 5 undef=.pointer (some ⟨wr.heap.size,0,none⟩):=(hI.was (by kernel_rfl)).trans rfl;go_simp;exact ⟨_,rfl,rfl,RegK.refl _ _ _,(hW.other (by decide) (by decide) (by decide) (by decide) (by decide) (by decide))⟩
        | 3,_=>
         obtain rfl:=Option.some.inj ho;have e1:a.tmps.getD 43 undef=.pointer (some ⟨wr.heap.size,0,none⟩):=(hI.val 2 _ 43 rfl rfl (dep_at haf (by kernel_rfl))).2 (by decide);have l1:=hW.fb.c 0 _ rfl;go_simp;exact ⟨_,rfl,rfl,RegK.refl _ _ _,(hW.other (by decide) (by decide) (by decide) (by decide) (by decide) (by decide))⟩
        | 4,_=>
         obtain rfl:=Option.some.inj ho;have e1:a.tmps.getD 5 undef=.pointer (some ⟨wr.heap.size,0,none⟩):=(hI.was (by kernel_rfl)).trans rfl;go_simp;exact ⟨_,rfl,rfl,RegK.refl _ _ _,(hW.other (by decide) (by decide) (by decide) (by decide) (by decide) (by decide))⟩
        | 5,_=>
         obtain rfl:=Option.some.inj ho;have e1:a.tmps.getD 45 undef=.pointer (some ⟨wr.heap.size,1,none⟩):=(hI.val 4 _ 45 rfl rfl (dep_at haf (by kernel_rfl))).2 (by decide);have l1:=hW.fb.c 1 _ rfl;go_simp;exact ⟨_,rfl,rfl,RegK.refl _ _ _,(hW.other (by decide) (by decide) (by decide) (by decide) (by decide) (by decide))⟩
        | 6,_=>
         obtain rfl:=Option.some.inj ho;have e1:a.tmps.getD 5 undef=.pointer (some ⟨wr.heap.size,0,none⟩):=(hI.was (by kernel_rfl)).trans rfl;go_simp;exact ⟨_,rfl,rfl,RegK.refl _ _ _,(hW.other (by decide) (by decide) (by decide) (by decide) (by decide) (by decide))⟩
        | 7,_=>
         obtain rfl:=Option.some.inj ho;have e1:a.tmps.getD 47 undef=.pointer (some ⟨wr.heap.size,2,none⟩):=(hI.val 6 _ 47 rfl rfl (dep_at haf (by kernel_rfl))).2 (by decide);have l1:=hW.fb.c 2 _ rfl;go_simp;exact ⟨_,rfl,rfl,RegK.refl _ _ _,(hW.other (by decide) (by decide) (by decide) (by decide) (by decide) (by decide))⟩
        | 8,_=>
         obtain rfl:=Option.some.inj ho;have e1:a.tmps.getD 5 undef=.pointer (some ⟨wr.heap.size,0,none⟩):=(hI.was (by kernel_rfl)).trans rfl;go_simp;exact ⟨_,rfl,rfl,RegK.refl _ _ _,(hW.other (by decide) (by decide) (by decide) (by decide) (by decide) (by decide))⟩
        | 9,_=>
         obtain rfl:=Option.some.inj ho;have e1:a.tmps.getD 49 undef=.pointer (some ⟨wr.heap.size,3,none⟩):=(hI.val 8 _ 49 rfl rfl (dep_at haf (by kernel_rfl))).2 (by decide);have l1:=hW.fb.c 3 _ rfl;go_simp;exact ⟨_,rfl,rfl,RegK.refl _ _ _,(hW.other (by decide) (by decide) (by decide) (by decide) (by decide) (by decide))⟩
        | 10,_=>
         obtain rfl:=Option.some.inj ho;have e1:a.tmps.getD 5 undef=.pointer (some ⟨wr.heap.size,0,none⟩):=(hI.was (by kernel_rfl)).trans rfl;go_simp;exact ⟨_,rfl,rfl,RegK.refl _ _ _,(hW.other (by decide) (by decide) (by decide) (by decide) (by decide) (by decide))⟩
        | 11,_=>
         obtain rfl:=Option.some.inj ho;have e1:a.tmps.getD 51 undef=.pointer (some ⟨wr.heap.size,4,none⟩):=(hI.val 10 _ 51 rfl rfl (dep_at haf (by kernel_rfl))).2 (by decide);have l1:=hW.fb.c 4 _ rfl;have l2:=hW.fb.c 5 _ rfl;go_simp;exact ⟨_,rfl,rfl,RegK.refl _ _ _,(hW.other (by decide) (by decide) (by decide) (by decide) (by decide) (by decide))⟩
        | 12,_=>
         obtain rfl:=Option.some.inj ho;have e1:a.tmps.getD 52 undef=rv f.sn f.sd:=(hI.val 11 _ 52 rfl rfl (dep_at haf (by kernel_rfl))).2 (by decide);have x12:=getD_false hxi;have x15:=not_yet hW.i15 x12;have x18:=not_yet hW.i18 x15;have x19:=not_yet hW.i19 x15;have x20:=not_yet hW.i20 x19;have x22:=not_yet hW.i22 x20;have fc:=hW.fc x22;have hz:Hid (z=w8.drew):=hW.f0 x12;have s12:(x.setIfInBounds 12 true).getD 12 false=true:=getD_set_at (by rw [hx]; decide);have s15:(x.setIfInBounds 12 true).getD 15 false=false:=(getD_set_ne false (by decide)).trans x15;have s18:(x.setIfInBounds 12 true).getD 18 false=false:=(getD_set_ne false (by decide)).trans x18;have s19:(x.setIfInBounds 12 true).getD 19 false=false:=(getD_set_ne false (by decide)).trans x19;have s20:(x.setIfInBounds 12 true).getD 20 false=false:=(getD_set_ne false (by decide)).trans x20;have s22:(x.setIfInBounds 12 true).getD 22 false=false:=(getD_set_ne false (by decide)).trans x22;go_simp;refine (ofx_any f.sn f.sd z).mono ?_;rintro e z' ⟨rfl,rfl⟩;have hb:=ofW_below z f.sn f.sd;refine ⟨_,rfl,rfl,fun j v hj hp=>⟨fun e=>(by subst e; rw [x20] at hj; cases hj),hp.2⟩,hW.fb.below hb,fun _=>⟨kp hb fc.1,kpf hb fc.1 fc.2⟩,fun h=>?_,fun _ _=>by rw [hz.out],fun h=>?_,fun h=>?_,fun h=>?_,fun h=>?_,fun h=>?_,fun h=>?_,fun h=>?_,fun h=>?_,fun h=>?_⟩
         · rw [s12] at h; cases h
         · rw [s15] at h; cases h
         · rw [s19] at h; cases h
         · rw [s15] at h; cases h
         · rw [s18] at h; cases h
         · rw [s19] at h; cases h
         · rw [s20] at h; cases h
         · rw [s22] at h; cases h
         · rw [s22] at h; cases h
         · rw [s22] at h; cases h
        | 13,_=>
         obtain rfl:=Option.some.inj ho;have e1:a.tmps.getD 5 undef=.pointer (some ⟨wr.heap.size,0,none⟩):=(hI.was (by kernel_rfl)).trans rfl;go_simp;exact ⟨_,rfl,rfl,RegK.refl _ _ _,(hW.other (by decide) (by decide) (by decide) (by decide) (by decide) (by decide))⟩
        | 14,_=>
         obtain rfl:=Option.some.inj ho;have e1:a.tmps.getD 54 undef=.pointer (some ⟨wr.heap.size,6,none⟩):=(hI.val 13 _ 54 rfl rfl (dep_at haf (by kernel_rfl))).2 (by decide);have l1:=hW.fb.c 6 _ rfl;have l2:=hW.fb.c 7 _ rfl;go_simp;exact ⟨_,rfl,rfl,RegK.refl _ _ _,(hW.other (by decide) (by decide) (by decide) (by decide) (by decide) (by decide))⟩
        | 15,_=>
         obtain rfl:=Option.some.inj ho;have e1:a.tmps.getD 55 undef=rv f.on f.od:=(hI.val 14 _ 55 rfl rfl (dep_at haf (by kernel_rfl))).2 (by decide);have x15:=getD_false hxi;have x12:x.getD 12 false=true:=dep_at haf (by kernel_rfl);have x18:=not_yet hW.i18 x15;have x19:=not_yet hW.i19 x15;have x20:=not_yet hW.i20 x19;have x22:=not_yet hW.i22 x20;have fc:=hW.fc x22;have hz:Hid (z=ofW w8.drew f.sn f.sd):=hW.f1 x12 x15;have s12:(x.setIfInBounds 15 true).getD 12 false=true:=getD_set_true x12;have s15:(x.setIfInBounds 15 true).getD 15 false=true:=getD_set_at (by rw [hx]; decide);have s18:(x.setIfInBounds 15 true).getD 18 false=false:=(getD_set_ne false (by decide)).trans x18;have s19:(x.setIfInBounds 15 true).getD 19 false=false:=(getD_set_ne false (by decide)).trans x19;have s20:(x.setIfInBounds 15 true).getD 20 false=false:=(getD_set_ne false (by decide)).trans x20;have s22:(x.setIfInBounds 15 true).getD 22 false=false:=(getD_set_ne false (by decide)).trans x22;go_simp;refine (ofx_any f.on f.od z).mono ?_;rintro e z' ⟨rfl,rfl⟩;have hb:=ofW_below z f.on f.od;refine ⟨_,rfl,rfl,fun j v hj hp=>⟨fun e=>(by subst e; rw [x20] at hj; cases hj),hp.2⟩,hW.fb.below hb,fun _=>⟨kp hb fc.1,kpf hb fc.1 fc.2⟩,fun h=>?_,fun _ h=>?_,fun _ _=>by rw [hz.out],fun h=>?_,fun _=>s12,fun h=>?_,fun h=>?_,fun h=>?_,fun h=>?_,fun h=>?_,fun h=>?_⟩
         · rw [s12] at h; cases h
         · rw [s15] at h; cases h
         · rw [s19] at h; cases h
         · rw [s18] at h; cases h
         · rw [s19] at h; cases h
         · rw [s20] at h; cases h
         · rw [s22] at h; cases h
         · rw [s22] at h; cases h
         · rw [s22] at h; cases h
        | 16,_=>
         obtain rfl:=Option.some.inj ho;have e1:a.tmps.getD 5 undef=.pointer (some ⟨wr.heap.size,0,none⟩):=(hI.was (by kernel_rfl)).trans rfl;go_simp;exact ⟨_,rfl,rfl,RegK.refl _ _ _,(hW.other (by decide) (by decide) (by decide) (by decide) (by decide) (by decide))⟩
        | 17,_=>
         obtain rfl:=Option.some.inj ho;have e1:a.tmps.getD 57 undef=.pointer (some ⟨wr.heap.size,8,none⟩):=(hI.val 16 _ 57 rfl rfl (dep_at haf (by kernel_rfl))).2 (by decide);have l1:=hW.fb.c 8 _ rfl;go_simp;exact ⟨_,rfl,rfl,RegK.refl _ _ _,(hW.other (by decide) (by decide) (by decide) (by decide) (by decide) (by decide))⟩
        | 18,_=>
         obtain rfl:=Option.some.inj ho;have e1:a.tmps.getD 44 undef=.string (txt f.nm):=(hI.val 3 _ 44 rfl rfl (dep_at haf (by kernel_rfl))).2 (by decide);have e2:a.tmps.getD 46 undef=.int .i64 f.pl:=(hI.val 5 _ 46 rfl rfl (dep_at haf (by kernel_rfl))).2 (by decide);have e3:a.tmps.getD 48 undef=.string (txt f.kd):=(hI.val 7 _ 48 rfl rfl (dep_at haf (by kernel_rfl))).2 (by decide);have e4:a.tmps.getD 50 undef=.int .i64 f.wd:=(hI.val 9 _ 50 rfl rfl (dep_at haf (by kernel_rfl))).2 (by decide);have e5:a.tmps.getD 53 undef=rv f.sn f.sd:=(hI.val 12 _ 53 rfl rfl (dep_at haf (by kernel_rfl))).2 (by decide);have e6:a.tmps.getD 56 undef=rv f.on f.od:=(hI.val 15 _ 56 rfl rfl (dep_at haf (by kernel_rfl))).2 (by decide);have e7:a.tmps.getD 58 undef=.string (txt f.un):=(hI.val 17 _ 58 rfl rfl (dep_at haf (by kernel_rfl))).2 (by decide);have x15:x.getD 15 false=true:=dep_at haf (by kernel_rfl);go_simp;simp only [← Array.getD_eq_getD_getElem?,e1,e2,e3,e4,e5,e6,e7];go_simp;refine ⟨_,rfl,rfl,RegK.refl _ _ _,?_⟩;obtain ⟨fb,fc,f0,f1,f2,f3,i15,i18,i19,i20,i22,i1,fin⟩:=hW;have e12:(x.setIfInBounds 18 true).getD 12 false=x.getD 12 false:=getD_set_ne false (by decide);have e15:(x.setIfInBounds 18 true).getD 15 false=x.getD 15 false:=getD_set_ne false (by decide);have e19:(x.setIfInBounds 18 true).getD 19 false=x.getD 19 false:=getD_set_ne false (by decide);have e20:(x.setIfInBounds 18 true).getD 20 false=x.getD 20 false:=getD_set_ne false (by decide);have e22:(x.setIfInBounds 18 true).getD 22 false=x.getD 22 false:=getD_set_ne false (by decide);refine ⟨fb,by rw [e22]; exact fc,by rw [e12]; exact f0,by rw [e12,e15]; exact f1,by rw [e15,e19]; exact f2,by rw [e19,e20]; exact f3,by rw [e15,e12]; exact i15,fun _=>e15.trans x15,by rw [e19,e15]; exact i19,by rw [e20,e19]; exact i20,by rw [e22,e20]; exact i22,by rw [e22]; exact fun h=>getD_set_true (i1 h),by rw [e22]; exact fin⟩
        | 19,_=>
         obtain rfl:=Option.some.inj ho;have e1:a.tmps.getD 59 undef=fdV f:=(hI.val 18 _ 59 rfl rfl (dep_at haf (by kernel_rfl))).2 (by decide);have x19:=getD_false hxi;have x18:x.getD 18 false=true:=dep_at haf (by kernel_rfl);have x15:=hW.i18 x18;have x20:=not_yet hW.i20 x19;have x22:=not_yet hW.i22 x20;have fc:=hW.fc x22;have hz:Hid (z=ofW (ofW w8.drew f.sn f.sd) f.on f.od):=hW.f2 x15 x19;have hzs:Hid (z.heap.size=w8.heap.size + 4):=by unfold Hid; rw [hz.out,ofW2_size]
         have s12:(x.setIfInBounds 19 true).getD 12 false=true:=getD_set_true (hW.i15 x15);have s15:(x.setIfInBounds 19 true).getD 15 false=true:=getD_set_true x15;have s19:(x.setIfInBounds 19 true).getD 19 false=true:=getD_set_at (by rw [hx]; decide);have s20:(x.setIfInBounds 19 true).getD 20 false=false:=(getD_set_ne false (by decide)).trans x20;have s22:(x.setIfInBounds 19 true).getD 22 false=false:=(getD_set_ne false (by decide)).trans x22;go_simp;simp only [← Array.getD_eq_getD_getElem?,e1];go_simp;have hb:Below z.heap.size z (z.alloc (.cells #[.string (txt f.nm),.int .i64 f.pl,.string (txt f.kd),.int .i64 f.wd,.int .i64 f.sn,.int .i64 f.sd,.int .i64 f.on,.int .i64 f.od,.string (txt f.un)] 70)):=(Below.refl _ _).alloc (Nat.le_refl _) _;refine ⟨_,rfl,by rw [hzs.out]; rfl,fun j v hj hp=>⟨fun e=>(by subst e; rw [x20] at hj; cases hj),hp.2⟩,hW.fb.below hb,fun _=>⟨kp hb fc.1,kpf hb fc.1 fc.2⟩,fun h=>?_,fun _ h=>?_,fun _ h=>?_,fun _ _=>by rw [hz.out]; rfl,fun _=>s12,fun _=>s15,fun _=>s15,fun h=>?_,fun h=>?_,fun h=>?_,fun h=>?_⟩
         · rw [s12] at h; cases h
         · rw [s15] at h; cases h
         · rw [s19] at h; cases h
         · rw [s20] at h; cases h
         · rw [s22] at h; cases h
         · rw [s22] at h; cases h
         · rw [s22] at h; cases h
        | 20,_=>
         obtain rfl:=Option.some.inj ho;have e1:a.tmps.getD 42 undef=.slice po k co:=(hI.val 1 _ 42 rfl rfl (dep_at haf (by kernel_rfl))).2 (by decide);have e2:a.tmps.getD 60 undef=.slice (some ⟨w8.heap.size + 4,0,none⟩) 1 1:=(hI.val 19 _ 60 rfl rfl (dep_at haf (by kernel_rfl))).2 (by decide);have x20:=getD_false hxi;have x19:x.getD 19 false=true:=dep_at haf (by kernel_rfl);have x1:x.getD 1 false=true:=dep_at haf (by kernel_rfl);have x22:=not_yet hW.i22 x20;have fc:=hW.fc x22;have hz:=hW.f3 x19 x20;have hz2:=ofW2_size w8 f;have hb2:=ofW2_below w8 f;have hnew:=World.alloc_heap_new (ofW (ofW w8.drew f.sn f.sd) f.on f.od) (.cells #[.string (txt f.nm),.int .i64 f.pl,.string (txt f.kd),.int .i64 f.wd,.int .i64 f.sn,.int .i64 f.sd,.int .i64 f.on,.int .i64 f.od,.string (txt f.un)] 70);rw [hz2] at hnew;have hzs:z.heap.size=w8.heap.size + 5:=by rw [hz]; unfold ofW3; rw [World.size_alloc,hz2]
         have hb3:Below w8.heap.size w8 z:=by rw [hz]; unfold ofW3; exact hb2.alloc hb2.size _
         replace hnew:z.heap[w8.heap.size + 4]?=some (.cells #[.string (txt f.nm),.int .i64 f.pl,.string (txt f.kd),.int .i64 f.wd,.int .i64 f.sn,.int .i64 f.sd,.int .i64 f.on,.int .i64 f.od,.string (txt f.un)] 70):=by rw [hz]; exact hnew
         have hOz:=ownsRow_below hb3 S8.out.own;have hs8':=hs8.out;refine wp_append_lies _ (.tmp 42) (.tmp 60) 31 rfl (w.heap.size + 3) 70 r0 (.agg #[.string ⟨#[]⟩,.int .i64 0,.string ⟨#[]⟩,.int .i64 0,.int .i64 0,.int .i64 0,.int .i64 0,.int .i64 0,.string ⟨#[]⟩]) 9 96 Tryz.underlying31 hri hr0 hr1 hr2 rfl (by omega) (.slice po k co) k (fdCs (d.fs.take k)) e1 hOz
          ⟨w8.heap.size + 4,0,none⟩ 1 1 (fdC f) e2 rfl (World.news_of_block (cs:=#[.string (txt f.nm),.int .i64 f.pl,.string (txt f.kd),.int .i64 f.wd,.int .i64 f.sn,.int .i64 f.sd,.int .i64 f.on,.int .i64 f.od,.string (txt f.un)]) (t:=70) (fr:=(0,0)) hnew) (by simp [Value.oneCell',fdC])
          (by omega) (by unfold maxLen; omega) (by omega) (by have:=hwl.out; omega) z.heap.size rfl ?_
         intro gg cap' y hOy gO hat hlt2;have yw:ApY w8 (w.heap.size + 3) k (fdCs (d.fs.take k)) (.slice po k co) (fdC f) y (.slice (some ⟨gg,0,none⟩) (k + 1) cap'):=by
          refine ⟨gg,cap',rfl,hOy,?_,hat.imp id (fun e=>by omega)⟩;have g1:w8.grownBy z (Value.slice po k co).ownBlock:=Lib.grownBy_below ⟨rfl,rfl,rfl,Nat.le_refl _,fun _ _ _=>rfl⟩ hb3;exact Lib.grownBy_trans g1 gO
         have s20:(x.setIfInBounds 20 true).getD 20 false=true:=getD_set_at (by rw [hx]; decide);have s22:(x.setIfInBounds 20 true).getD 22 false=false:=(getD_set_ne false (by decide)).trans x22;have s19:(x.setIfInBounds 20 true).getD 19 false=true:=getD_set_true x19;have s15:(x.setIfInBounds 20 true).getD 15 false=true:=getD_set_true (hW.i19 x19);have s12:(x.setIfInBounds 20 true).getD 12 false=true:=getD_set_true (hW.i15 (hW.i19 x19));have nF:=far.out wr.heap.size (.inr rfl);have nO:=far.out (w.heap.size + 2) (.inl (by omega));refine ⟨_,rfl,fun d _=>⟨fun _=>.inl yw,fun h=>absurd rfl h⟩,fun j v hj hp=>⟨fun e=>(by subst e; rw [x20] at hj; cases hj),hp.2⟩,⟨fun i u hu=>gO.cell (hW.fb.c i u hu) nF,Nat.lt_of_lt_of_le hW.fb.lt gO.size⟩,fun _=>⟨gO.cell fc.1 nO,(gO.frozen_far ⟨w.heap.size + 2,6,none⟩ (block_lt_of_cell fc.1) nO).trans fc.2⟩,fun h=>?_,fun _ h=>?_,fun _ h=>?_,fun _ h=>?_,fun _=>s12,fun _=>s15,fun _=>s15,fun _=>s19,fun h=>?_,fun h=>?_,fun h=>?_⟩
         · rw [s12] at h; cases h
         · rw [s15] at h; cases h
         · rw [s19] at h; cases h
         · rw [s20] at h; cases h
         · rw [s22] at h; cases h
         · rw [s22] at h; cases h
         · rw [s22] at h; cases h
        | 21,_=>
         obtain rfl:=Option.some.inj ho;have e1:a.tmps.getD 3 undef=.pointer (some ⟨w.heap.size + 2,0,none⟩):=(hI.was (by kernel_rfl)).trans rfl;go_simp;exact ⟨_,rfl,rfl,RegK.refl _ _ _,(hW.other (by decide) (by decide) (by decide) (by decide) (by decide) (by decide))⟩
        | 22,_=>
         obtain rfl:=Option.some.inj ho;have e1:a.tmps.getD 62 undef=.pointer (some ⟨w.heap.size + 2,6,none⟩):=(hI.val 21 _ 62 rfl rfl (dep_at haf (by kernel_rfl))).2 (by decide);have x22:=getD_false hxi;have fc:=hW.fc x22;have ap:=(hI.val 20 _ 61 rfl rfl (dep_at haf (by kernel_rfl))).1 rfl;have yw:ApY w8 (w.heap.size + 3) k (fdCs (d.fs.take k)) (.slice po k co) (fdC f) z (a.tmps.getD 61 undef):=by
          rcases ap with h | ⟨u,h1,h2⟩
          · exact h
          · rw [fc.1] at h1; exact absurd (Option.some.inj h1).symm h2
         have yw2:=yw;obtain ⟨gg,cap',e2,_⟩:=yw2;rw [e2] at yw;have fc1:=fc.1;have fc2:=fc.2;have nfv:Value.slice (some ⟨gg,0,none⟩) (k + 1) cap' ≠ .slice po k co:=by
          intro e; injection e with _ e _; omega
         have x20:x.getD 20 false=true:=dep_at haf (by kernel_rfl);have x1:x.getD 1 false=true:=dep_at haf (by kernel_rfl);have x19:=hW.i20 x20;have x15:=hW.i19 x19;have x12:=hW.i15 x15;go_simp;have s22:(x.setIfInBounds 22 true).getD 22 false=true:=getD_set_at (by rw [hx]; decide);refine ⟨fun j v hj hp=>⟨fun e=>.inr ⟨_,World.cell?_setCell_same _ _ _ fc1,nfv⟩,hp.2⟩,⟨fun i u hu=>?_,by rw [World.size_setCell]; exact hW.fb.lt⟩,fun h=>?_,fun h=>?_,fun _ h=>?_,fun _ h=>?_,fun _ h=>?_,fun _=>getD_set_true x12,fun _=>getD_set_true x15,fun _=>getD_set_true x15,fun _=>getD_set_true x19,fun _=>getD_set_true x20,fun _=>getD_set_true x1,fun _=>⟨z,_,yw,rfl⟩⟩
         · rw [World.cell?_setCell_other _ _ _ _ (fun e=>nFO.out (by have:=congrArg Addr.block e; simp only at this; omega))]; exact hW.fb.c i u hu
         · rw [s22] at h; cases h
         · rw [getD_set_true x12] at h; cases h
         · rw [getD_set_true x15] at h; cases h
         · rw [getD_set_true x19] at h; cases h
         · rw [getD_set_true x20] at h; cases h
      · intro x a z hx hall hI hW;obtain ⟨y,v,ha,rfl⟩:=hW.fin (hall 22 (by decide));obtain ⟨hkl,hf⟩:=hkf.out;obtain ⟨S9,p9,c9,rfl⟩:=S.out.next hkl hf hb1.out ha;replace S9:Hid (OfS w (y.setCell ⟨w.heap.size + 2,6,none⟩ (.slice p9 (k + 1) c9)) d (.slice (some ⟨g,o,none⟩) len cap) (.slice pq nq cq) (.slice p9 (k + 1) c9) (k + 1)):=S9;obtain ⟨VV,hV⟩:=hI.slots (by kernel_rfl) hall;clear hW hI ha hall hx x S S8 F8 far hwl hb1 oc ofz nFO hs8;simp only [putsL,List.setIfInBounds_toArray,List.set_cons_zero,List.set_cons_succ] at hV;subst hV;generalize y.setCell ⟨w.heap.size + 2,6,none⟩ (.slice p9 (k + 1) c9)=wz at *;go_wp2;exact ⟨⟨k + 1,by omega,by simp,_,_,S9⟩,by simp [intOf]; omega⟩
      · exact ⟨F8.out.below (Below.refl _ _).drew,fun _=>⟨oc,ofz⟩,fun _=>rfl,fun h=>(by simp at h),fun h=>(by simp at h),fun h=>(by simp at h),fun h=>(by simp at h),fun h=>(by simp at h),fun h=>(by simp at h),fun h=>(by simp at h),fun h=>(by simp at h),fun h=>(by simp at h),fun h=>(by simp at h)⟩
  · obtain rfl:k=len:=by omega
    have z6:=S.out.c 6 _ rfl;have fr:Hid (∀ g,(Value.slice po k co).ownBlock=some g→w.heap.size≤g):=fun g e=>Nat.le_of_not_lt fun h=>S.out.far g (.inl (by omega)) e.symm
    have SF:=S.out;rw [← hlen.out] at SF;have YF:Hid (FldsV (ofZ wr (w.heap.size + 1) d (.slice po k co) (.slice pq nq cq)) (.slice po k co) d.fs):=by
     have:=SF.fin;rw [hlen.out] at this;exact this
    have YB:Hid (Below w.heap.size w (ofZ wr (w.heap.size + 1) d (.slice po k co) (.slice pq nq cq))):=ofZ_below S.out.b (by omega) d _ _;have YR:=ofZ_at S.out.rc d (.slice po k co) (.slice pq nq cq);have OE:=fun id q0 q1 f0 f1 a Q e3 e2 ht hQ=>of_end S.out.oc S.out.rc (id:=id) (q0:=q0) (q1:=q1) (f0:=f0) (f1:=f1) (a:=a) (Q:=Q) e3 e2 ht hQ
    replace YR:Hid _:=YR;replace OE:Hid _:=OE;clear SF;generalize ofZ wr (w.heap.size + 1) d (.slice po k co) (.slice pq nq cq)=Y at *
    go_upto_region 7 with fail
    refine OE.out _ _ _ _ _ _ _ ?_ ?_ ?_ ?_
    · kernel_rfl
    · kernel_rfl
    · exact of_decide_eq_true (by kernel_rfl)
    clear OE
    repeat go_step
    refine bodyPost_ret (res_dev1 Tryz.results11 (by kernel_rfl) YR.out) rfl ?_;exact ⟨_,rfl,YF.out,YB.out,fr.out⟩
def ShFwC (w:World) (v:Value) (n:Int):Prop:=∀ x,Below w.heap.size w x→Calls Tryz.prog 9 #[v] x (QA x n)
def ShRcC (w:World) (v:Value) (E:Int):Prop:=∀ x,Below w.heap.size w x→Calls Tryz.prog 12 #[v] x (QA x E)
def ShRtC (w:World) (v:Value) (S:ByteArray):Prop:=∀ x,Below w.heap.size w x→Calls Tryz.prog 14 #[v] x fun e y=>e=.returned (.string S)∧Below x.heap.size x y
def ShSmC (w:World) (d:Dv) (v:Value):Prop:=∀ x fv qv,Below w.heap.size w x→FldsAt x fv d.fs→BytesAt x qv d.rq→Calls Tryz.prog 15 #[dvV d fv qv,v] x fun e y=>e=.returned (.int .i64 1)∧Below x.heap.size x y
theorem sh_small {z:Wd} (h:((txt z).size:Int)≤50):(z.length:Int)≤5000:=by rw [txt_size] at h; omega
theorem shdvi_of {d:Dv} (hf:fewD d=true) (hn:∀ f ∈ d.fs,FdN f) (hz:I64 d.sz):DvI d:=by
 obtain ⟨h1,h2,h3,h4,h5⟩:=few_bdS hf;refine ⟨sh_small h1,fun f hf=>?_,hz,by omega⟩;have k:=hn f hf;exact ⟨sh_small (h5 f hf).1,k.pl,k.wd,k.sn,k.sd,k.on,k.od⟩
theorem FldsV.on {x y:World} {v:Value} {fs:List Fd} (h:FldsV x v fs) (hk:¬ fs=[]→∀ g,v.ownBlock=some g→g < x.heap.size→y.heap[g]?=x.heap[g]?):FldsV y v fs:=by
 rcases h with h | ⟨g,o,cap,rfl,h0,h2,h3⟩
 · exact .inl h
 · by_cases e:fs=[]
   · subst e; exact .inl ⟨_,_,rfl,rfl⟩
   · have k:=hk e g rfl h3;refine .inr ⟨g,o,cap,rfl,h0,fun j hj i u hu=>(World.cell?_of_block (a:=⟨g,o + 9 * j + i,none⟩) k).trans (h2 j hj i u hu),?_⟩;rw [Array.getElem?_eq_getElem h3] at k;exact (Array.getElem?_eq_some_iff.1 k).1
theorem BytesW.on {x y:World} {v:Value} {bs:List Nat} (h:BytesW x v bs) (hk:¬ bs=[]→∀ g,v.ownBlock=some g→g < x.heap.size→y.heap[g]?=x.heap[g]?):BytesW y v bs:=by
 rcases h with h | ⟨g,o,cap,rfl,h2,h3⟩
 · exact .inl h
 · by_cases e:bs=[]
   · subst e; exact .inl ⟨_,_,rfl,rfl⟩
   · have k:=hk e g rfl h3;refine .inr ⟨g,o,cap,rfl,fun j hj=>(World.cell?_of_block (a:=⟨g,o + j,none⟩) k).trans (h2 j hj),?_⟩;rw [Array.getElem?_eq_getElem h3] at k;exact (Array.getElem?_eq_some_iff.1 k).1
theorem FldsV.lt {x:World} {v:Value} {fs:List Fd} (h:FldsV x v fs) (hn:¬ fs=[]) {g:Nat} (hg:v.ownBlock=some g):g < x.heap.size:=by
 rcases h with ⟨_,_,_,e⟩ | ⟨g',o,cap,rfl,_,_,h3⟩
 · exact absurd e hn
 · have:g'=g:=by simpa [Value.ownBlock] using hg
   omega
theorem BytesW.lt {x:World} {v:Value} {bs:List Nat} (h:BytesW x v bs) (hn:¬ bs=[]) {g:Nat} (hg:v.ownBlock=some g):g < x.heap.size:=by
 rcases h with ⟨_,_,_,e⟩ | ⟨g',o,cap,rfl,_,h3⟩
 · exact absurd e hn
 · have:g'=g:=by simpa [Value.ownBlock] using hg
   omega
structure MkG (N:Nat) (x:World) (lv:Value) (qs:List Dn10):Prop where
 own:x.ownsRow N 33 12 lv qs.length (dvCs qs)
 fl:∀ q ∈ qs,FldsV x q.2.1 q.1.fs∧BytesW x q.2.2 q.1.rq
 sep:∀ q ∈ qs,(¬ q.1.fs=[]→∀ g,q.2.1.ownBlock=some g→lv.ownBlock ≠ some g)∧(¬ q.1.rq=[]→∀ g,q.2.2.ownBlock=some g→lv.ownBlock ≠ some g)
theorem MkG.first (N:Nat) (x:World):MkG N x (.slice none 0 0) []:=⟨World.ownsRow_nil _ _ _ _,fun p h=>(by cases h),fun p h=>(by cases h)⟩
theorem MkG.below {N:Nat} {x y:World} {lv:Value} {qs:List Dn10} (h:MkG N x lv qs) (hb:Below x.heap.size x y):MkG N y lv qs:=
 ⟨own_below h.own hb,fun q hq=>⟨(h.fl q hq).1.below hb,(h.fl q hq).2.below hb⟩,h.sep⟩
theorem MkG.push {N:Nat} {x y:World} {lv:Value} {qs:List Dn10} (h:MkG N x lv qs) {d:Dv} {fv qv:Value} (hf:FldsV x fv d.fs) (hq:BytesW x qv d.rq)
 (sf:¬ d.fs=[]→∀ g,fv.ownBlock=some g→lv.ownBlock ≠ some g) (sq:¬ d.rq=[]→∀ g,qv.ownBlock=some g→lv.ownBlock ≠ some g) {g cap:Nat}
 (ho:y.ownsRow N 33 12 (.slice (some ⟨g,0,none⟩) (qs.length + 1) cap) (qs.length + 1) (dvCs qs ++ (dvB d fv qv).toList)) (hg:x.grownBy y lv.ownBlock) (hn:lv.ownBlock=some g ∨ g=x.heap.size) :
 MkG N y (.slice (some ⟨g,0,none⟩) (qs.length + 1) cap) (qs ++ [(d,fv,qv)]):=by
 have all:∀ q ∈ qs ++ [(d,fv,qv)],(FldsV x q.2.1 q.1.fs∧BytesW x q.2.2 q.1.rq)∧(¬ q.1.fs=[]→∀ g,q.2.1.ownBlock=some g→lv.ownBlock ≠ some g)∧(¬ q.1.rq=[]→∀ g,q.2.2.ownBlock=some g→lv.ownBlock ≠ some g):=by
  intro q hq';rcases List.mem_append.1 hq' with hp | hp
  · exact ⟨h.fl q hp,h.sep q hp⟩
  · rw [List.mem_singleton.1 hp]; exact ⟨⟨hf,hq⟩,sf,sq⟩
 refine ⟨by rw [dvCs_snoc,List.length_append]; exact ho,fun q hq'=>?_,fun q hq'=>?_⟩
 · obtain ⟨⟨a1,a2⟩,a3,a4⟩:=all q hq';exact ⟨a1.on fun e k hk hl=>hg.block k hl fun e'=>a3 e k hk e'.symm,a2.on fun e k hk hl=>hg.block k hl fun e'=>a4 e k hk e'.symm⟩
 · obtain ⟨⟨a1,a2⟩,a3,a4⟩:=all q hq';refine ⟨fun e k hk e'=>?_,fun e k hk e'=>?_⟩
   · have e2:g=k:=by injection e'
     rcases hn with hn | hn
     · exact a3 e k hk (by rw [hn,e2])
     · have:=a1.lt e hk;omega
   · have e2:g=k:=by injection e'
     rcases hn with hn | hn
     · exact a4 e k hk (by rw [hn,e2])
     · have:=a2.lt e hk;omega
theorem MkG.r {N:Nat} {x:World} {lv:Value} {qs:List Dn10} (h:MkG N x lv qs):DvsR x lv qs:=by
 refine ⟨?_,h.fl⟩;have ho:=h.own;rcases own_slice ho with ⟨e,hz⟩ | ⟨g,cap,e,_,hl⟩
 · exact .inl ⟨none,0,e,List.length_eq_zero_iff.1 hz⟩
 · refine .inr ⟨g,0,cap,e,own_room ho _ _ _ e,fun j hj k hk=>?_,hl⟩;rw [e] at ho;rw [World.ownsRow.cellAt ho (0 + j * 12 + k) (by omega),Nat.zero_add,Nat.mul_comm j 12];exact dvCs_get qs j k hj hk
theorem MkG.lt {N:Nat} {x:World} {lv:Value} {qs:List Dn10} (h:MkG N x lv qs) {g:Nat} (e:lv.ownBlock=some g):N≤g∧g < x.heap.size:=World.ownsRow.lt h.own g e
theorem txt_both (a b:Wd):txt a ++ txt b=txt (a ++ b):=by
 apply ByteArray.ext;apply Array.toList_inj.1;rw [ByteArray.data_append,Array.toList_append];rfl
structure DevC (w:World) (p:Dn10):Prop where
 fw:ShFwC w (dvV p.1 p.2.1 p.2.2) (oneI (fewD p.1))
 of:fewD p.1=true→∀ x,Below w.heap.size w x→Calls Tryz.prog 11 #[dvV p.1 p.2.1 p.2.2] x fun e y=>∃ ov,e=.returned (dvV p.1 ov p.2.2)∧FldsV y ov p.1.fs∧Below x.heap.size x y∧∀ g,ov.ownBlock=some g→x.heap.size≤g
 rc:fewD p.1=true→ShRcC w (dvV p.1 p.2.1 p.2.2) (ckE p.1)
 rt:fewD p.1=true→ckE p.1=0→ShRtC w (dvV p.1 p.2.1 p.2.2) (txt (textD p.1))
 sm:fewD p.1=true→ckE p.1=0→ShSmC w p.1 (dvV p.1 p.2.1 p.2.2)
 di:fewD p.1=true→DvI p.1∧AllBytes p.1.rq
theorem devC {w:World} {p:Dn10} (hf:FldsV w p.2.1 p.1.fs) (hq:BytesW w p.2.2 p.1.rq) (hx:DvX p.1):DevC w p:=by
 obtain ⟨d,fv,qv⟩:=p;simp only at hf hq hx;obtain ⟨pf,cf,rfl⟩:=hf.form;obtain ⟨pq,cq,rfl⟩:=hq.form;have hi:=fun h=>shdvi_of (d:=d) h hx.fn hx.sz
 exact ⟨fun x hb=>fewd_any d _ pq d.rq.length cq x rfl (hf.below hb),fun h x hb=>lof_new d _ pq _ cq x (hf.below hb) (hi h).ln,fun h x hb=>rcheck_any d pf pq cf cq x (hi h) (hf.below hb),
  fun h h0 x hb=>by
   have ho:=((hi h).snd h0 hx.rb).ok;exact rtext10_any d _ _ x ho (hf.below hb) ((hq.at (fun e=>by have:=ho.rq.1; rw [e] at this; simp at this)).below hb),
  fun h h0 x f q hb h1 h2=>by
   have ho:=((hi h).snd h0 hx.rb).ok;exact same_v d f q _ _ x h1.v h2 (hf.below hb) ((hq.at (fun e=>by have:=ho.rq.1; rw [e] at this; simp at this)).below hb) (by have:=(hi h).ln; omega),
  fun h=>⟨hi h,hx.rb⟩⟩
theorem beE_tk (ns:List Wd) (d:Dv):BeE ns d.nm (ckE d) ((tkE ns d:Nat):Int):=by
 have hc:=ck_nat d;unfold tkE
 by_cases h1:ckE d=0
 · rw [if_pos (cN_0.2 h1)];exact ⟨fun h=>absurd h1 h,fun _ h=>by rw [if_neg h]; rfl,fun _ h=>by rw [if_pos h]; rfl⟩
 · rw [if_neg (fun h=>h1 (cN_0.1 h))];exact ⟨fun _=>hc,fun h=>absurd h h1,fun h=>absurd h h1⟩
end Go.Proofs.YthabffjgdhfbmaaGreatDoor
