/-
  Texts that belong together, one behind the other: DsLineK, DsLineE, DsRR0, RegProps4, DsBk0, BitMath, UnTab. Conditions: as each says.
-/
import Derived.Laws.Tables
import Derived.Lib.QuietBelowIn
import Derived.Lib.SliceRun
import Derived.RangeFuncCalls
import Derived.Sort.BigQuietIn
import Derived.Test.YthabffjgdhfbmaaGreatDoorProg
import Derived.Test.YthabffjgdhfbmaaGreatDoorJl1
import Derived.Test.YthabffjgdhfbmaaGreatDoorJl2
import Derived.Test.YthabffjgdhfbmaaGreatDoorJl3
import Derived.Test.YthabffjgdhfbmaaGreatDoorJl4
import Derived.Test.YthabffjgdhfbmaaGreatDoorJl5
import Derived.Test.YthabffjgdhfbmaaGreatDoorJl6
import Derived.Test.YthabffjgdhfbmaaGreatDoorJl7
import Derived.Test.YthabffjgdhfbmaaGreatDoorJl8
import Derived.Test.YthabffjgdhfbmaaGreatDoorJl9
set_option maxRecDepth 100000
set_option maxHeartbeats 32000000
set_option linter.unusedVariables false
namespace Go.Proofs.YthabffjgdhfbmaaGreatDoor
open Go.RowKit
def allK:List Wd:=tenK ++ [kFie]
def allC:Array Value:=#[.string ⟨#[100,101,118,105,99,101]⟩,.string ⟨#[115,116,97,114,116]⟩,.string ⟨#[101,115,99,97,112,101]⟩,.string ⟨#[115,105,122,101]⟩,.string ⟨#[115,117,109]⟩,.string ⟨#[114,101,113,117,101,115,116]⟩,.string ⟨#[112,111,108,108]⟩,.string ⟨#[116,105,109,101,111,117,116]⟩,.string ⟨#[114,101,116,114,105,101,115]⟩,.string ⟨#[97,103,101]⟩,.string ⟨#[102,105,101,108,100]⟩]
theorem allC_at (i:Nat) (h:i < 11):allC[i]?=some (.string (txt (allK[i]'h))):=by
 match i,h with
 | 0,_=>rfl
 | 1,_=>rfl
 | 2,_=>rfl
 | 3,_=>rfl
 | 4,_=>rfl
 | 5,_=>rfl
 | 6,_=>rfl
 | 7,_=>rfl
 | 8,_=>rfl
 | 9,_=>rfl
 | 10,_=>rfl
def NewB (w:World) (v v':Value):Prop:=v'.ownBlock=v.ownBlock ∨ ∀ g,v'.ownBlock=some g→w.heap.size≤g
def LineQ (w:World) (d:Dv) (fv qv:Value) (seen ws:List Wd) (e:Ending) (y:World):Prop:=
 ∃ d2 p1 n1 c1 p2 n2 c2,e=.returned (.tuple #[dvV d2 (.slice p1 n1 c1) (.slice p2 n2 c2),.int .i64 ((errN (stepM d seen ws):Nat):Int)])∧Below w.heap.size w y∧∀ d',stepM d seen ws=.ok d'→d2=d'∧FldsAt y (.slice p1 n1 c1) d'.fs∧BytesAt y (.slice p2 n2 c2) d'.rq∧NewB w fv (.slice p1 n1 c1)∧NewB w qv (.slice p2 n2 c2)
def LineW (w:World) (d:Dv) (fv qv:Value):World:=((w.alloc (.cells (dvA d fv qv) 25)).alloc (.cells dz 25)).alloc (.cells allC 9)
structure LineM (w x:World) (d:Dv) (fv qv:Value):Prop where
 dc:x.heap[w.heap.size]?=some (.cells (dvA d fv qv) 25 (0,0))
 rc:x.heap[w.heap.size + 1]?=some (.cells dz 25 (0,0))
 b:Below w.heap.size w x
theorem lineM_first (w:World) (d:Dv) (fv qv:Value):LineM w (LineW w d fv qv) d fv qv∧(LineW w d fv qv).heap[w.heap.size + 2]?=some (.cells allC 9 (0,0)):=by
 unfold LineW;refine ⟨⟨map_under _ _ _ _ (map_under _ _ _ _ (World.alloc_heap_new w _)),?_,?_⟩,?_⟩
 · have k:=map_under _ _ (.cells allC 9) _ (World.alloc_heap_new (w.alloc (.cells (dvA d fv qv) 25)) (.cells dz 25))
   rwa [World.size_alloc] at k
 · exact (((Below.refl _ _).alloc (Nat.le_refl _) _).alloc (by rw [World.size_alloc]; omega) _).alloc (by rw [World.size_alloc,World.size_alloc]; omega) _
 · have k:=World.alloc_heap_new ((w.alloc (.cells (dvA d fv qv) 25)).alloc (.cells dz 25)) (.cells allC 9)
   rwa [World.size_alloc,World.size_alloc] at k
theorem LineM.below {w x y:World} {d:Dv} {fv qv:Value} (h:LineM w x d fv qv) (hb:Below x.heap.size x y):LineM w y d fv qv:=
 ⟨(hb.block _ (Array.getElem?_eq_some_iff.1 h.dc).1).trans h.dc,(hb.block _ (Array.getElem?_eq_some_iff.1 h.rc).1).trans h.rc,h.b.trans (hb.mono h.b.size)⟩
theorem LineM.cells {w x:World} {d:Dv} {fv qv:Value} (h:LineM w x d fv qv):(∀ i v,(dvA d fv qv)[i]?=some v→x.cell? ⟨w.heap.size,i,none⟩=some v∧x.frozen? ⟨w.heap.size,i,none⟩=false)∧∀ i v,dz[i]?=some v→x.cell? ⟨w.heap.size + 1,i,none⟩=some v∧x.frozen? ⟨w.heap.size + 1,i,none⟩=false:=
 ⟨fun i v hv=>⟨(rd_cell h.dc i).1.trans hv,(rd_cell h.dc i).2⟩,fun i v hv=>⟨(rd_cell h.rc i).1.trans hv,(rd_cell h.rc i).2⟩⟩
theorem res_dev2 {fn:Func} {p u:Tmp} (h:fn.results=#[.cell p 25,.tmp u]) {tmps:Array Value} {w:World} {b:Nat} {v0 v1 v2 v3 v4 v5 v6 v7 v8 v9 v10 v11 e1:Value}
 (hp:tmps.getD p undef=.pointer (some ⟨b,0,none⟩)) (hu:tmps.getD u undef=e1)
 (hc:w.heap[b]?=some (.cells #[v0,v1,v2,v3,v4,v5,v6,v7,v8,v9,v10,v11] 25 (0,0))) :
 (results fn tmps).run Tryz.prog w=.ok (.tuple #[.agg #[v0,v1,v2,v3,v4,v5,v6,v7,v8,v9,v10,v11],e1]) w:=by
 have c:=rd_cell hc;have c0:=(c 0).1;have c1:=(c 1).1;have c2:=(c 2).1;have c3:=(c 3).1;have c4:=(c 4).1;have c5:=(c 5).1;have c6:=(c 6).1;have c7:=(c 7).1;have c8:=(c 8).1;have c9:=(c 9).1;have c10:=(c 10).1;have c11:=(c 11).1;simp only [List.getElem?_toArray,List.getElem?_cons_zero,List.getElem?_cons_succ] at c0 c1 c2 c3 c4 c5 c6 c7 c8 c9 c10 c11;rw [results_cell_tmp h,hp,hu];simp only [asAddr];simp [go_sem,Result.andThen,c0,c1,c2,c3,c4,c5,c6,c7,c8,c9,c10,c11]
theorem allK_mem (f:Wd):decide (f ∈ allK.take 11)=knownB f:=by
 unfold knownB;rw [decide_eq_decide];show f ∈ allK ↔ _;unfold allK;simp
theorem allK_step (f:Wd) (k:Nat) (h:k < 11):decide (f ∈ allK.take (k + 1))=(decide (f ∈ allK.take k) || decide (allK[k]'h=f)):=by
 rw [List.take_succ_eq_append_getElem (show k < allK.length from h),Bool.eq_iff_iff,decide_eq_true_iff,List.mem_append,Bool.or_eq_true,decide_eq_true_iff,decide_eq_true_iff,List.mem_singleton];exact or_congr Iff.rfl ⟨Eq.symm,Eq.symm⟩
theorem fq_put {w y:World} {fv qv:Value} {fs:List Fd} {rq:List Nat} {R:Nat} (h:FldsAt w fv fs∧BytesAt w qv rq) (hb:Below w.heap.size w y) (hR:w.heap.size≤R) (v0 v1 v2 v3 v4 v5 v6 v7 v8 v9 v10 v11:Value):FldsAt (put12 y R v0 v1 v2 v3 v4 v5 v6 v7 v8 v9 v10 v11) fv fs∧BytesAt (put12 y R v0 v1 v2 v3 v4 v5 v6 v7 v8 v9 v10 v11) qv rq:=
 ⟨h.1.below (put12_below hb hR v0 v1 v2 v3 v4 v5 v6 v7 v8 v9 v10 v11),h.2.below (put12_below hb hR v0 v1 v2 v3 v4 v5 v6 v7 v8 v9 v10 v11)⟩
theorem LineM.set {w x:World} {d d':Dv} {fv qv fv' qv':Value} (h:LineM w x d fv qv) (i:Nat) (v:Value) (e:(dvA d fv qv).setIfInBounds i v=dvA d' fv' qv'):LineM w (x.setCell ⟨w.heap.size,i,none⟩ v) d' fv' qv':=
 ⟨(rd_set h.dc i v).trans (by rw [e]),(Below.heap_setCell _ _ _ _ (show w.heap.size + 1 ≠ w.heap.size by omega)).trans h.rc,h.b.setCell (p:=⟨w.heap.size,i,none⟩) (Nat.le_refl _) _⟩
def LineZ (w y:World) (d:Dv) (fv qv:Value):World:=putD y (w.heap.size + 1) d fv qv
theorem LineM.res {w y:World} {d:Dv} {fv qv:Value} (h:LineM w y d fv qv):(LineZ w y d fv qv).heap[w.heap.size + 1]?=some (.cells (dvA d fv qv) 25 (0,0)):=put12_at h.rc _ _ _ _ _ _ _ _ _ _ _ _
theorem LineM.low {w y:World} {d:Dv} {fv qv:Value} (h:LineM w y d fv qv):Below w.heap.size w (LineZ w y d fv qv):=put12_below h.b (by omega) _ _ _ _ _ _ _ _ _ _ _ _
theorem LineZ.off {w y:World} {d:Dv} {fv qv:Value} {k:Nat} (hk:k ≠ w.heap.size + 1):(LineZ w y d fv qv).heap[k]?=y.heap[k]?:=put12_off hk _ _ _ _ _ _ _ _ _ _ _ _
theorem LineM.quit {w y:World} {d d2:Dv} {p1 p2:Option Addr} {n1 c1 n2 c2:Nat} (h:LineM w y d2 (.slice p1 n1 c1) (.slice p2 n2 c2)) {seen ws:List Wd} {n:Nat} (he:stepM d seen ws=.error n) (v:Value) (hv:v=.int .i64 (n:Int)) {fv qv:Value} :
 LineQ w d fv qv seen ws (.returned (.tuple #[dvV d2 (.slice p1 n1 c1) (.slice p2 n2 c2),v])) (LineZ w y d2 (.slice p1 n1 c1) (.slice p2 n2 c2)):=
 ⟨d2,p1,n1,c1,p2,n2,c2,by rw [he,hv]; rfl,h.low,fun d' hd=>by rw [he] at hd; cases hd⟩
theorem LineM.done {w y:World} {d d2:Dv} {p1 p2:Option Addr} {n1 c1 n2 c2:Nat} (h:LineM w y d2 (.slice p1 n1 c1) (.slice p2 n2 c2)) {seen ws:List Wd} (he:stepM d seen ws=.ok d2)
 (hf:FldsAt (LineZ w y d2 (.slice p1 n1 c1) (.slice p2 n2 c2)) (.slice p1 n1 c1) d2.fs) (hq:BytesAt (LineZ w y d2 (.slice p1 n1 c1) (.slice p2 n2 c2)) (.slice p2 n2 c2) d2.rq) {fv qv:Value} (hn1:NewB w fv (.slice p1 n1 c1)) (hn2:NewB w qv (.slice p2 n2 c2)) :
 LineQ w d fv qv seen ws (.returned (.tuple #[dvV d2 (.slice p1 n1 c1) (.slice p2 n2 c2),.int .i64 0])) (LineZ w y d2 (.slice p1 n1 c1) (.slice p2 n2 c2)):=
 ⟨d2,p1,n1,c1,p2,n2,c2,by rw [he]; rfl,h.low,fun d' hd=>by rw [he] at hd; cases hd; exact ⟨rfl,hf,hq,hn1,hn2⟩⟩
theorem LineM.old {w y:World} {d:Dv} {fv qv:Value} (h:LineM w y d fv qv) {v:Value} {fs:List Fd} {u:Value} {rq:List Nat} (k:FldsAt w v fs∧BytesAt w u rq):FldsAt (LineZ w y d fv qv) v fs∧BytesAt (LineZ w y d fv qv) u rq:=⟨k.1.below h.low,k.2.below h.low⟩
theorem BytesAt.z {w y:World} {d:Dv} {fv qv:Value} {p:Option Addr} {n c:Nat} {bs:List Nat} (h:BytesAt y (.slice p n c) bs) (hp:∀ a,p=some a→a.block ≠ w.heap.size + 1) (hs:y.heap.size≤(LineZ w y d fv qv).heap.size):BytesAt (LineZ w y d fv qv) (.slice p n c) bs:=by
 rcases h with h | ⟨g,o,cap,h1,h2,h3⟩
 · exact .inl h
 · injection h1 with e1 e2 e3
   exact .inr ⟨g,o,cap,by rw [e1,e2,e3],fun j hj=>(World.cell?_of_block (a:=⟨g,o + j,none⟩) (LineZ.off (show g ≠ w.heap.size + 1 from hp _ e1))).trans (h2 j hj),Nat.lt_of_lt_of_le h3 hs⟩
theorem BytesAt.form {y:World} {v:Value} {bs:List Nat} (h:BytesAt y v bs):∃ p n c,v=.slice p n c:=by
 rcases h with ⟨rfl,_⟩ | ⟨g,o,cap,rfl,_⟩
 · exact ⟨none,0,0,rfl⟩
 · exact ⟨_,_,_,rfl⟩
theorem BytesAt.len {y:World} {p:Option Addr} {n c:Nat} {bs:List Nat} (h:BytesAt y (.slice p n c) bs):n=bs.length:=by
 rcases h with ⟨h1,rfl⟩ | ⟨g,o,cap,h1,_⟩
 · injection h1
 · injection h1
theorem BytesAt.set {y:World} {p:Option Addr} {n c:Nat} {bs:List Nat} (h:BytesAt y (.slice p n c) bs) {B i:Nat} (hp:∀ a,p=some a→a.block ≠ B) {u:Value}:BytesAt (y.setCell ⟨B,i,none⟩ u) (.slice p n c) bs:=by
 rcases h with h | ⟨g,o,cap,h1,h2,h3⟩
 · exact .inl h
 · injection h1 with e1 e2 e3
   exact .inr ⟨g,o,cap,by rw [e1,e2,e3],fun j hj=>(World.cell?_of_block (a:=⟨g,o + j,none⟩) (Below.heap_setCell _ _ _ _ (show g ≠ B from hp _ e1))).trans (h2 j hj),by simpa using h3⟩
theorem FldsAt.z {w y:World} {d:Dv} {fv qv:Value} {p:Option Addr} {n c:Nat} {fs:List Fd} (h:FldsAt y (.slice p n c) fs) (hp:∀ a,p=some a→a.block ≠ w.heap.size + 1) (hs:y.heap.size≤(LineZ w y d fv qv).heap.size):FldsAt (LineZ w y d fv qv) (.slice p n c) fs:=by
 rcases h with h | ⟨g,o,cap,h1,h0,h2,h3⟩
 · exact .inl h
 · injection h1 with e1 e2 e3
   exact .inr ⟨g,o,cap,by rw [e1,e2,e3],h0,fun j hj k v hv=>(World.cell?_of_block (a:=⟨g,o + 9 * j + k,none⟩) (LineZ.off (show g ≠ w.heap.size + 1 from hp _ e1))).trans (h2 j hj k v hv),Nat.lt_of_lt_of_le h3 hs⟩
theorem FldsAt.set {y:World} {p:Option Addr} {n c:Nat} {fs:List Fd} (h:FldsAt y (.slice p n c) fs) {B i:Nat} (hp:∀ a,p=some a→a.block ≠ B) {u:Value}:FldsAt (y.setCell ⟨B,i,none⟩ u) (.slice p n c) fs:=by
 rcases h with h | ⟨g,o,cap,h1,h0,h2,h3⟩
 · exact .inl h
 · injection h1 with e1 e2 e3
   exact .inr ⟨g,o,cap,by rw [e1,e2,e3],h0,fun j hj k v hv=>(World.cell?_of_block (a:=⟨g,o + 9 * j + k,none⟩) (Below.heap_setCell _ _ _ _ (show g ≠ B from hp _ e1))).trans (h2 j hj k v hv),by simpa using h3⟩
theorem flds_own' {x:World} {N:Nat} {e:TypeId} {fv:Value} {fs:List Fd} (h:x.ownsRow N e 9 fv fs.length (fdCs fs)):FldsAt x fv fs:=by
 rcases own_slice h with ⟨e,hn⟩ | ⟨g,cap,e,_,hg⟩
 · exact .inl ⟨e,List.length_eq_zero_iff.1 hn⟩
 · refine .inr ⟨g,0,cap,e,?_,fun j hj k v hv=>?_,hg⟩
   · rcases h.2 with ⟨h1,_⟩ | ⟨g',cap',cur,h1,_,_,h4,_⟩
     · rw [e] at h1; cases h1
     · rw [e] at h1; cases h1; exact h4
   have hk:k < 9:=by
    have:=(List.getElem?_eq_some_iff.1 hv).1
    rwa [fdC_len] at this
   have k2:=h;rw [e] at k2;rw [Nat.zero_add,World.ownsRow.cellAt k2 (9 * j + k) (by omega),fdCs_get fs j k hj hk];exact hv
theorem LineZ.size {w y:World} {d:Dv} {fv qv:Value}:y.heap.size≤(LineZ w y d fv qv).heap.size:=by
 unfold LineZ putD put12;simp only [World.size_setCell];exact Nat.le_refl _
def NewP (p:Option Addr) (N:Nat):Prop:=∀ a,p=some a→N≤a.block
theorem NewP.b {p:Option Addr} {N:Nat} {w:World} {v:Value} {n c:Nat} (h:NewP p N) (hN:w.heap.size≤N):NewB w v (.slice p n c):=.inr fun g hg=>by
 cases p with
 | none=>cases hg
 | some a=>cases hg; exact Nat.le_trans hN (h a rfl)
theorem len_two {a:List Wd} (h:a.length=2):∃ z t,a=[z,t]:=by
 match a,h with
 | [z,t],_=>exact ⟨z,t,rfl⟩
theorem own_strs {x:World} {N:Nat} {e:TypeId} {v:Value} {ws:List Wd} (h:x.ownsRow N e 1 v ws.length (strV ws)):StrsAt x v ws:=by
 rcases own_slice h with ⟨e1,hn⟩ | ⟨g,cap,e1,_,hg⟩
 · exact .inl ⟨e1,List.length_eq_zero_iff.1 hn⟩
 · refine .inr ⟨g,0,cap,e1,fun j hj=>?_,hg⟩;have k:=h;rw [e1] at k;rw [Nat.zero_add,World.ownsRow.cellAt k j (by omega),List.getElem?_map,List.getElem?_eq_getElem hj];rfl
theorem FldsAt.lt {x:World} {v:Value} {fs:List Fd} (h:FldsAt x v fs):∀ g,v.ownBlock=some g→g < x.heap.size:=by
 intro g hg;rcases h with ⟨rfl,_⟩ | ⟨g',o,cap,rfl,_,_,h3⟩
 · cases hg
 · cases hg; exact h3
theorem BytesAt.lt {x:World} {v:Value} {bs:List Nat} (h:BytesAt x v bs):∀ g,v.ownBlock=some g→g < x.heap.size:=by
 intro g hg;rcases h with ⟨rfl,_⟩ | ⟨g',o,cap,rfl,_,h3⟩
 · cases hg
 · cases hg; exact h3
theorem FldsAt.on {x y:World} {v:Value} {fs:List Fd} (h:FldsAt x v fs) (hk:∀ g,v.ownBlock=some g→y.heap[g]?=x.heap[g]?):FldsAt y v fs:=by
 rcases h with h | ⟨g,o,cap,rfl,h0,h2,h3⟩
 · exact .inl h
 · have k:=hk g rfl;refine .inr ⟨g,o,cap,rfl,h0,fun j hj i u hu=>(World.cell?_of_block (a:=⟨g,o + 9 * j + i,none⟩) k).trans (h2 j hj i u hu),?_⟩;rw [Array.getElem?_eq_getElem h3] at k;exact (Array.getElem?_eq_some_iff.1 k).1
theorem BytesAt.on {x y:World} {v:Value} {bs:List Nat} (h:BytesAt x v bs) (hk:∀ g,v.ownBlock=some g→y.heap[g]?=x.heap[g]?):BytesAt y v bs:=by
 rcases h with h | ⟨g,o,cap,rfl,h2,h3⟩
 · exact .inl h
 · have k:=hk g rfl;refine .inr ⟨g,o,cap,rfl,fun j hj=>(World.cell?_of_block (a:=⟨g,o + j,none⟩) k).trans (h2 j hj),?_⟩;rw [Array.getElem?_eq_getElem h3] at k;exact (Array.getElem?_eq_some_iff.1 k).1
structure RrSt (w x:World) (d:Dv) (fv qv vs:Value) (seen:List Wd):Prop where
 rc:x.heap[w.heap.size]?=some (.cells dz 25 (0,0))
 dc:x.heap[w.heap.size + 1]?=some (.cells (dvA d fv qv) 25 (0,0))
 so:x.ownsRow (w.heap.size + 2) 9 1 vs seen.length (strV seen)
 fl:FldsAt x fv d.fs
 rq:BytesAt x qv d.rq
 fn:∀ g,fv.ownBlock=some g→w.heap.size + 2≤g∧some g ≠ vs.ownBlock
 qn:∀ g,qv.ownBlock=some g→w.heap.size + 2≤g∧some g ≠ vs.ownBlock
 sn:SeenOk d seen
 b:Below w.heap.size w x
theorem RrSt.first (w:World):RrSt w ((w.alloc (.cells dz 25)).alloc (.cells dz 25)) dv0 nilS nilS nilS []:=by
 refine ⟨map_under _ _ _ _ (World.alloc_heap_new w _),?_,World.ownsRow_nil _ _ _ _,.inl ⟨rfl,rfl⟩,.inl ⟨rfl,rfl⟩,fun g h=>(by cases h),fun g h=>(by cases h),SeenOk.first,?_⟩
 · have k:=World.alloc_heap_new (w.alloc (.cells dz 25)) (.cells dz 25)
   rwa [World.size_alloc] at k
 · exact ((Below.refl _ _).alloc (Nat.le_refl _) _).alloc (by rw [World.size_alloc]; omega) _
structure LnG where
 b:Nat
 d:Dv
 v1:Value
 v2:Value
def GoodD (w0:World) (d:Dv) (fv qv:Value) (seen ws:List Wd) (γ:LnG) (z:World):Prop:=∀ d',stepM d seen ws=.ok d'→γ.d=d'∧FldsAt z γ.v1 d'.fs∧BytesAt z γ.v2 d'.rq∧NewB w0 fv γ.v1∧NewB w0 qv γ.v2
theorem NewB.up {w z:World} {v u:Value} (h:NewB z v u) (hs:w.heap.size≤z.heap.size):NewB w v u:=h.imp id fun h g hg=>Nat.le_trans hs (h g hg)
theorem NewB.ne {w:World} {v u:Value} (h:NewB w v u) {b:Nat} (hb:b < w.heap.size) (hv:some b ≠ v.ownBlock):some b ≠ u.ownBlock:=by
 rcases h with h | h
 · rw [h]; exact hv
 · intro e; have:=h b e.symm; omega
def isSl (v:Value):Prop:=∃ p n c,v=.slice p n c
structure LnW (w0:World) (d:Dv) (fv qv:Value) (seen ws:List Wd) (γ:LnG) (x:Array Bool) (z:World):Prop where
 low:Below w0.heap.size w0 z
 f1:isSl γ.v1
 f2:isSl γ.v2
 o8:x.getD 8 false=true→x.getD 7 false=true
 o9:x.getD 9 false=true→x.getD 7 false=true
 o10:x.getD 10 false=true→x.getD 7 false=true
 o12:x.getD 12 false=true→x.getD 7 false=true
 o13:x.getD 13 false=true→x.getD 7 false=true
 o11:x.getD 12 false=true→x.getD 11 false=true
 bl:x.getD 11 false=true→w0.heap.size≤γ.b∧z.heap[γ.b]?=some (.cells (if x.getD 12 false=true then dvA γ.d γ.v1 γ.v2 else dz) 25 (0,0))
 gd:x.getD 7 false=true→GoodD w0 d fv qv seen ws γ z
 ne:x.getD 7 false=true→x.getD 11 false=true→∀ d',stepM d seen ws=.ok d'→some γ.b ≠ γ.v1.ownBlock∧some γ.b ≠ γ.v2.ownBlock
theorem LnW.other {w0:World} {d:Dv} {fv qv:Value} {seen ws:List Wd} {γ:LnG} {x:Array Bool} {z:World} (h:LnW w0 d fv qv seen ws γ x z) {i:Nat} (h7:i ≠ 7) (h11:i ≠ 11) (h12:i ≠ 12) (hd:x.getD 7 false=true ∨ (i ≠ 8∧i ≠ 9∧i ≠ 10∧i ≠ 13)):LnW w0 d fv qv seen ws γ (x.setIfInBounds i true) z:=by
 obtain ⟨low,f1,f2,o8,o9,o10,o12,o13,o11,bl,gd,ne⟩:=h;have e7:(x.setIfInBounds i true).getD 7 false=x.getD 7 false:=getD_set_ne false h7;have e11:(x.setIfInBounds i true).getD 11 false=x.getD 11 false:=getD_set_ne false h11;have e12:(x.setIfInBounds i true).getD 12 false=x.getD 12 false:=getD_set_ne false h12;have q:∀ j,(i ≠ j ∨ x.getD 7 false=true)→(x.getD j false=true→x.getD 7 false=true)→(x.setIfInBounds i true).getD j false=true→x.getD 7 false=true:=fun j hj ho hs=>by
  rcases hj with hj | hj
  · rw [getD_set_ne false hj] at hs; exact ho hs
  · exact hj
 refine ⟨low,f1,f2,?_,?_,?_,?_,?_,?_,?_,?_,?_⟩
 · rw [e7]; exact q 8 (hd.elim .inr fun h=>.inl h.1) o8
 · rw [e7]; exact q 9 (hd.elim .inr fun h=>.inl h.2.1) o9
 · rw [e7]; exact q 10 (hd.elim .inr fun h=>.inl h.2.2.1) o10
 · rw [e7,e12]; exact o12
 · rw [e7]; exact q 13 (hd.elim .inr fun h=>.inl h.2.2.2) o13
 · rw [e11,e12]; exact o11
 · rw [e11,e12]; exact bl
 · rw [e7]; exact gd
 · rw [e7,e11]; exact ne
theorem LnW.call {w0:World} {d:Dv} {fv qv:Value} {seen ws:List Wd} {γ:LnG} {x:Array Bool} {z z':World} (h:LnW w0 d fv qv seen ws γ x z) (h7:x.getD 7 false=false) (h14:x.size=14) {d2:Dv} {p1 p2:Option Addr} {n1 c1 n2 c2:Nat} (hb:Below z.heap.size z z') (hf0:∀ g,fv.ownBlock=some g→g < w0.heap.size) (hq0:∀ g,qv.ownBlock=some g→g < w0.heap.size)
 (hg:∀ d',stepM d seen ws=.ok d'→d2=d'∧FldsAt z' (.slice p1 n1 c1) d'.fs∧BytesAt z' (.slice p2 n2 c2) d'.rq∧NewB z fv (.slice p1 n1 c1)∧NewB z qv (.slice p2 n2 c2)):LnW w0 d fv qv seen ws ⟨γ.b,d2,.slice p1 n1 c1,.slice p2 n2 c2⟩ (x.setIfInBounds 7 true) z':=by
 obtain ⟨low,f1,f2,o8,o9,o10,o12,o13,o11,bl,gd,ne⟩:=h;have s7:(x.setIfInBounds 7 true).getD 7 false=true:=getD_set_at (by rw [h14]; decide);have e11:(x.setIfInBounds 7 true).getD 11 false=x.getD 11 false:=getD_set_ne false (by decide);have e12:(x.setIfInBounds 7 true).getD 12 false=x.getD 12 false:=getD_set_ne false (by decide);have x12:x.getD 12 false=false:=by
  cases e:x.getD 12 false
  · rfl
  · rw [o12 e] at h7; cases h7
 refine ⟨low.trans (hb.mono low.size),⟨_,_,_,rfl⟩,⟨_,_,_,rfl⟩,fun _=>s7,fun _=>s7,fun _=>s7,fun _=>s7,fun _=>s7,?_,?_,fun _=>?_,fun _=>?_⟩
 · rw [e11,e12]; exact o11
 · rw [e11,e12,x12];intro k;have hbl:=bl k;rw [x12] at hbl;exact ⟨hbl.1,(hb.block _ (Array.getElem?_eq_some_iff.1 hbl.2).1).trans hbl.2⟩
 · intro d' hd;obtain ⟨k1,k2,k3,k4,k5⟩:=hg d' hd;exact ⟨k1,k2,k3,k4.up low.size,k5.up low.size⟩
 · rw [e11];intro k d' hd;obtain ⟨k1,k2,k3,k4,k5⟩:=hg d' hd;have hbl:=bl k;have hlt:=(Array.getElem?_eq_some_iff.1 hbl.2).1;exact ⟨k4.ne hlt (fun e=>by have:γ.b < w0.heap.size:=hf0 _ e.symm; have h1:=hbl.1; omega),k5.ne hlt (fun e=>by have:γ.b < w0.heap.size:=hq0 _ e.symm; have h1:=hbl.1; omega)⟩
theorem LnW.alloc {w0:World} {d:Dv} {fv qv:Value} {seen ws:List Wd} {γ:LnG} {x:Array Bool} {z:World} (h:LnW w0 d fv qv seen ws γ x z) (h11:x.getD 11 false=false) (h14:x.size=14):LnW w0 d fv qv seen ws ⟨z.heap.size,γ.d,γ.v1,γ.v2⟩ (x.setIfInBounds 11 true) (z.alloc (.cells dz 25)):=by
 obtain ⟨low,f1,f2,o8,o9,o10,o12,o13,o11,bl,gd,ne⟩:=h;have e7:(x.setIfInBounds 11 true).getD 7 false=x.getD 7 false:=getD_set_ne false (by decide);have s11:(x.setIfInBounds 11 true).getD 11 false=true:=getD_set_at (by rw [h14]; decide);have e12:(x.setIfInBounds 11 true).getD 12 false=x.getD 12 false:=getD_set_ne false (by decide);have x12:x.getD 12 false=false:=by
  cases e:x.getD 12 false
  · rfl
  · rw [o11 e] at h11; cases h11
 have ba:Below z.heap.size z (z.alloc (.cells dz 25)):=(Below.refl _ _).alloc (Nat.le_refl _) _;have gd':x.getD 7 false=true→GoodD w0 d fv qv seen ws γ (z.alloc (.cells dz 25)):=fun k d' hd=>by
  obtain ⟨k1,k2,k3,k4⟩:=gd k d' hd;exact ⟨k1,k2.below ba,k3.below ba,k4⟩
 refine ⟨low.alloc low.size _,f1,f2,?_,?_,?_,?_,?_,fun _=>s11,fun _=>⟨low.size,?_⟩,?_,?_⟩
 · rw [e7,getD_set_ne false (by decide)]; exact o8
 · rw [e7,getD_set_ne false (by decide)]; exact o9
 · rw [e7,getD_set_ne false (by decide)]; exact o10
 · rw [e7,e12]; exact o12
 · rw [e7,getD_set_ne false (by decide)]; exact o13
 · rw [e12,x12]; exact World.alloc_heap_new z _
 · rw [e7]; exact fun k=>gd' k
 · rw [e7];intro k _ d' hd;obtain ⟨_,k2,k3,_⟩:=gd k d' hd;exact ⟨fun e=>Nat.lt_irrefl _ (by have:z.heap.size < z.heap.size:=k2.lt _ e.symm; exact this),fun e=>Nat.lt_irrefl _ (by have:z.heap.size < z.heap.size:=k3.lt _ e.symm; exact this)⟩
theorem LnW.store {w0:World} {d:Dv} {fv qv:Value} {seen ws:List Wd} {γ:LnG} {x:Array Bool} {z:World} (h:LnW w0 d fv qv seen ws γ x z) (h7:x.getD 7 false=true) (h11:x.getD 11 false=true) (h12:x.getD 12 false=false) (h14:x.size=14) :
 LnW w0 d fv qv seen ws γ (x.setIfInBounds 12 true) (put12 z γ.b (.string (txt γ.d.nm)) (.int .i64 γ.d.st) (.int .i64 γ.d.es) (.int .i64 γ.d.mx) (.int .i64 γ.d.sz) (.string (txt γ.d.sm)) γ.v1 γ.v2 (.int .i64 γ.d.po) (.int .i64 γ.d.ti) (.int .i64 γ.d.re) (.int .i64 γ.d.ag)):=by
 obtain ⟨low,f1,f2,o8,o9,o10,o12,o13,o11,bl,gd,ne⟩:=h;have e7:(x.setIfInBounds 12 true).getD 7 false=x.getD 7 false:=getD_set_ne false (by decide);have e11:(x.setIfInBounds 12 true).getD 11 false=x.getD 11 false:=getD_set_ne false (by decide);have s12:(x.setIfInBounds 12 true).getD 12 false=true:=getD_set_at (by rw [h14]; decide);have hbl:=bl h11;rw [h12] at hbl;have off:∀ k,k ≠ γ.b→(put12 z γ.b (.string (txt γ.d.nm)) (.int .i64 γ.d.st) (.int .i64 γ.d.es) (.int .i64 γ.d.mx) (.int .i64 γ.d.sz) (.string (txt γ.d.sm)) γ.v1 γ.v2 (.int .i64 γ.d.po) (.int .i64 γ.d.ti) (.int .i64 γ.d.re) (.int .i64 γ.d.ag)).heap[k]?=z.heap[k]?:=fun k hk=>put12_off hk _ _ _ _ _ _ _ _ _ _ _ _
 refine ⟨put12_below low hbl.1 _ _ _ _ _ _ _ _ _ _ _ _,f1,f2,?_,?_,?_,fun _=>e7.trans h7,?_,fun _=>e11.trans h11,fun _=>⟨hbl.1,?_⟩,fun _=>?_,?_⟩
 · rw [e7,getD_set_ne false (by decide)]; exact o8
 · rw [e7,getD_set_ne false (by decide)]; exact o9
 · rw [e7,getD_set_ne false (by decide)]; exact o10
 · rw [e7,getD_set_ne false (by decide)]; exact o13
 · rw [s12,if_pos rfl]; exact put12_at hbl.2 _ _ _ _ _ _ _ _ _ _ _ _
 · intro d' hd;obtain ⟨k1,k2,k3,k4⟩:=gd h7 d' hd;obtain ⟨n1,n2⟩:=ne h7 h11 d' hd;exact ⟨k1,k2.on fun g hg=>off g (fun e=>n1 (by rw [← e]; exact hg.symm)),k3.on fun g hg=>off g (fun e=>n2 (by rw [← e]; exact hg.symm)),k4⟩
 · rw [e7,e11]; exact ne
def lineV (D gr k lk:Nat) (len cap:Nat) (dv vw vs:Value) (er:Int) (γ:LnG) (i:Nat):Value:=
 (#[dv,.slice (some ⟨gr,lk,none⟩) len cap,.int .i64 (k:Int),.pointer (some ⟨gr,lk + k * 2,none⟩),.pointer (some ⟨gr,lk + k * 2 + 1,none⟩),vw,vs,
  .tuple #[dvV γ.d γ.v1 γ.v2,.int .i64 er],.tuple #[dvV γ.d γ.v1 γ.v2,.int .i64 er],dvV γ.d γ.v1 γ.v2,.int .i64 er,.pointer (some ⟨γ.b,0,none⟩),undef,.int .i64 er]:Array Value).getD i undef
def LnP (D gr k lk:Nat) (len cap:Nat) (dv vw vs:Value) (er:Int) (γ:LnG) (_x:Array Bool) (i:Nat) (v:Value) (_z:World):Prop:=v=lineV D gr k lk len cap dv vw vs er γ i
theorem getD_q {x:Array Bool} {j:Nat} (h:x[j]?.getD false=true):x.getD j false=true:=by rw [Array.getD_eq_getD_getElem?]; exact h
theorem lineV_call {D gr k lk len cap:Nat} {dv vw vs:Value} {er:Int} {γ γ':LnG} (hb:γ'.b=γ.b) {j:Nat} (h:j ≠ 7∧j ≠ 8∧j ≠ 9∧j ≠ 10∧j ≠ 13):lineV D gr k lk len cap dv vw vs er γ j=lineV D gr k lk len cap dv vw vs er γ' j:=by
 obtain ⟨h7,h8,h9,h10,h13⟩:=h;unfold lineV;rw [hb]
 match j,h7,h8,h9,h10,h13 with
 | 0,_,_,_,_,_=>rfl
 | 1,_,_,_,_,_=>rfl
 | 2,_,_,_,_,_=>rfl
 | 3,_,_,_,_,_=>rfl
 | 4,_,_,_,_,_=>rfl
 | 5,_,_,_,_,_=>rfl
 | 6,_,_,_,_,_=>rfl
 | 7,h,_,_,_,_=>exact absurd rfl h
 | 8,_,h,_,_,_=>exact absurd rfl h
 | 9,_,_,h,_,_=>exact absurd rfl h
 | 10,_,_,_,h,_=>exact absurd rfl h
 | 11,_,_,_,_,_=>rfl
 | 12,_,_,_,_,_=>rfl
 | 13,_,_,_,_,h=>exact absurd rfl h
 | (n + 14),_,_,_,_,_=>rfl
theorem lineV_alloc {D gr k lk len cap:Nat} {dv vw vs:Value} {er:Int} {γ:LnG} {b:Nat} {j:Nat} (h:j ≠ 11):lineV D gr k lk len cap dv vw vs er γ j=lineV D gr k lk len cap dv vw vs er ⟨b,γ.d,γ.v1,γ.v2⟩ j:=by
 unfold lineV
 match j,h with
 | 0,_=>rfl
 | 1,_=>rfl
 | 2,_=>rfl
 | 3,_=>rfl
 | 4,_=>rfl
 | 5,_=>rfl
 | 6,_=>rfl
 | 7,_=>rfl
 | 8,_=>rfl
 | 9,_=>rfl
 | 10,_=>rfl
 | 11,h=>exact absurd rfl h
 | 12,_=>rfl
 | 13,_=>rfl
 | (n + 14),_=>rfl
theorem RrSt.next {w wr z y:World} {d d':Dv} {fv qv vs v':Value} {seen ws:List Wd} {γ:LnG} {f:Wd} {o:Obj} (h:RrSt w wr d fv qv vs seen) (hz:Below wr.heap.size wr z) (hs:stepM d seen ws=.ok d') (hg:GoodD wr d fv qv seen ws γ z) (hf:ws.headD []=f)
 (ho:y.ownsRow (w.heap.size + 2) 9 1 v' (seen.length + 1) (strV seen ++ [.string (txt f)]))
 (hgr:((put12 z (w.heap.size + 1) (.string (txt d'.nm)) (.int .i64 d'.st) (.int .i64 d'.es) (.int .i64 d'.mx) (.int .i64 d'.sz) (.string (txt d'.sm)) γ.v1 γ.v2 (.int .i64 d'.po) (.int .i64 d'.ti) (.int .i64 d'.re) (.int .i64 d'.ag)).alloc o).grownBy y vs.ownBlock)
 (hv:v'.ownBlock=vs.ownBlock ∨ v'.ownBlock=some ((put12 z (w.heap.size + 1) (.string (txt d'.nm)) (.int .i64 d'.st) (.int .i64 d'.es) (.int .i64 d'.mx) (.int .i64 d'.sz) (.string (txt d'.sm)) γ.v1 γ.v2 (.int .i64 d'.po) (.int .i64 d'.ti) (.int .i64 d'.re) (.int .i64 d'.ag)).alloc o).heap.size) :
 RrSt w y d' γ.v1 γ.v2 v' (seen ++ [f]):=by
 obtain ⟨rfl,g1,g2,g3,g4⟩:=hg d' hs;have off:∀ k,k ≠ w.heap.size + 1→(put12 z (w.heap.size + 1) (.string (txt γ.d.nm)) (.int .i64 γ.d.st) (.int .i64 γ.d.es) (.int .i64 γ.d.mx) (.int .i64 γ.d.sz) (.string (txt γ.d.sm)) γ.v1 γ.v2 (.int .i64 γ.d.po) (.int .i64 γ.d.ti) (.int .i64 γ.d.re) (.int .i64 γ.d.ag)).heap[k]?=z.heap[k]?:=fun k hk=>put12_off hk _ _ _ _ _ _ _ _ _ _ _ _
 have dcz:z.heap[w.heap.size + 1]?=some (.cells (dvA d fv qv) 25 (0,0)):=(hz.block _ (Array.getElem?_eq_some_iff.1 h.dc).1).trans h.dc;have atD:=put12_at dcz (.string (txt γ.d.nm)) (.int .i64 γ.d.st) (.int .i64 γ.d.es) (.int .i64 γ.d.mx) (.int .i64 γ.d.sz) (.string (txt γ.d.sm)) γ.v1 γ.v2 (.int .i64 γ.d.po) (.int .i64 γ.d.ti) (.int .i64 γ.d.re) (.int .i64 γ.d.ag);have lowD:Below w.heap.size w (put12 z (w.heap.size + 1) (.string (txt γ.d.nm)) (.int .i64 γ.d.st) (.int .i64 γ.d.es) (.int .i64 γ.d.mx) (.int .i64 γ.d.sz) (.string (txt γ.d.sm)) γ.v1 γ.v2 (.int .i64 γ.d.po) (.int .i64 γ.d.ti) (.int .i64 γ.d.re) (.int .i64 γ.d.ag)):=put12_below (h.b.trans (hz.mono h.b.size)) (by omega) _ _ _ _ _ _ _ _ _ _ _ _;have szD:(put12 z (w.heap.size + 1) (.string (txt γ.d.nm)) (.int .i64 γ.d.st) (.int .i64 γ.d.es) (.int .i64 γ.d.mx) (.int .i64 γ.d.sz) (.string (txt γ.d.sm)) γ.v1 γ.v2 (.int .i64 γ.d.po) (.int .i64 γ.d.ti) (.int .i64 γ.d.re) (.int .i64 γ.d.ag)).heap.size=z.heap.size:=by unfold put12; simp only [World.size_setCell]
 generalize put12 z (w.heap.size + 1) (.string (txt γ.d.nm)) (.int .i64 γ.d.st) (.int .i64 γ.d.es) (.int .i64 γ.d.mx) (.int .i64 γ.d.sz) (.string (txt γ.d.sm)) γ.v1 γ.v2 (.int .i64 γ.d.po) (.int .i64 γ.d.ti) (.int .i64 γ.d.re) (.int .i64 γ.d.ag)=zD at *;have lw:=World.ownsRow.lt h.so;have Dl:w.heap.size + 1 < wr.heap.size:=(Array.getElem?_eq_some_iff.1 h.dc).1;have zl:=hz.size;have n1:∀ g,γ.v1.ownBlock=some g→w.heap.size + 2≤g∧some g ≠ vs.ownBlock:=fun g hg=>by
  rcases g3 with e | e
  · exact h.fn g (by rw [← e]; exact hg)
  · have k:=e g hg;exact ⟨by omega,fun c=>by have:=(lw g c.symm).2; omega⟩
 have n2:∀ g,γ.v2.ownBlock=some g→w.heap.size + 2≤g∧some g ≠ vs.ownBlock:=fun g hg=>by
  rcases g4 with e | e
  · exact h.qn g (by rw [← e]; exact hg)
  · have k:=e g hg;exact ⟨by omega,fun c=>by have:=(lw g c.symm).2; omega⟩
 have keep:∀ k,k < z.heap.size→k ≠ w.heap.size + 1→some k ≠ vs.ownBlock→y.heap[k]?=z.heap[k]?:=fun k hk hD hv=>by
  rw [hgr.block k (by rw [World.size_alloc,szD]; omega) (fun e=>hv e),← off k hD];exact (((Below.refl _ _).alloc (Nat.le_refl _) o).block k (by rw [szD]; exact hk))
 have vn:∀ g,g < z.heap.size→some g ≠ vs.ownBlock→some g ≠ v'.ownBlock:=fun g hg hn=>by
  rcases hv with e | e
  · rw [e]; exact hn
  · rw [e,World.size_alloc,szD]; intro c; have:=Option.some.inj c; omega
 have hst:=h.sn.step hs;rw [hf] at hst;refine ⟨?_,?_,?_,?_,?_,?_,?_,hst,?_⟩
 · rw [keep _ (by omega) (by omega) (fun e=>by have:=(lw _ e.symm).1; omega)];exact (hz.block _ (Array.getElem?_eq_some_iff.1 h.rc).1).trans h.rc
 · rw [hgr.block _ (by rw [World.size_alloc,szD]; omega) (fun e=>by have:=(lw _ e.symm).1; omega)];exact map_under _ _ _ _ atD
 · have e1:(seen ++ [f]).length=seen.length + 1:=by simp
   have e2:strV (seen ++ [f])=strV seen ++ [.string (txt f)]:=by unfold strV; simp
   rw [e1,e2]; exact ho
 · exact g1.on fun g hg=>keep g (g1.lt g hg) (by have:=(n1 g hg).1; omega) (n1 g hg).2
 · exact g2.on fun g hg=>keep g (g2.lt g hg) (by have:=(n2 g hg).1; omega) (n2 g hg).2
 · exact fun g hg=>⟨(n1 g hg).1,vn g (g1.lt g hg) (n1 g hg).2⟩
 · exact fun g hg=>⟨(n2 g hg).1,vn g (g2.lt g hg) (n2 g hg).2⟩
 · exact (lowD.alloc lowD.size o).grown hgr (by rw [World.size_alloc]; have:=lowD.size; omega) (fun k e=>by have:=(lw k e).1; omega)
def LineP:Prop:=∀ (ws:List Wd) (d:Dv) (fv qv vw vs:Value) (w:World) (seen:List Wd),StrsAny w vw ws→(ws.length:Int)≤5000→(∀ z ∈ ws,(z.length:Int)≤5000)→StrsAt w vs seen→(seen.length:Int)≤5000→FldsAt w fv d.fs→BytesAt w qv d.rq→d.fs.length≤8→Calls Tryz.prog 33 #[dvV d fv qv,vw,vs] w (LineQ w d fv qv seen ws)
def LnC (wr:World) (d:Dv) (fv qv vw vs:Value) (seen ws:List Wd):Prop:=∀ z,Below wr.heap.size wr z→Calls Tryz.prog 33 #[dvV d fv qv,vw,vs] z (LineQ z d fv qv seen ws)
theorem LineP.at (P:LineP) {w wr:World} {d:Dv} {fv qv vs vw:Value} {seen ws:List Wd} (h:RrSt w wr d fv qv vs seen) (hw:StrsAny wr vw ws) (hl:(ws.length:Int)≤4500) (hz:∀ z ∈ ws,(z.length:Int)≤5000):LnC wr d fv qv vw vs seen ws:=fun z hb=>
 P ws d fv qv vw vs z seen (hw.below hb) (by omega) hz ((own_strs h.so).below hb) (by have:=sn_len h.sn; omega) (h.fl.below hb) (h.rq.below hb) h.sn.le
theorem res_dev3r {fn:Func} {p u v:Tmp} (h:fn.results=#[.cell p 25,.tmp u,.tmp v]) {tmps:Array Value} {w:World} {b:Nat} {v0 v1 v2 v3 v4 v5 v6 v7 v8 v9 v10 v11 e1 e2:Value}
 (hp:tmps.getD p undef=.pointer (some ⟨b,0,none⟩)) (hu:tmps.getD u undef=e1) (hv:tmps.getD v undef=e2)
 (hc:w.heap[b]?=some (.cells #[v0,v1,v2,v3,v4,v5,v6,v7,v8,v9,v10,v11] 25 (0,0))) :
 (results fn tmps).run Tryz.prog w=.ok (.tuple #[.agg #[v0,v1,v2,v3,v4,v5,v6,v7,v8,v9,v10,v11],e1,e2]) w:=by
 have c:=rd_cell hc;have c0:=(c 0).1;have c1:=(c 1).1;have c2:=(c 2).1;have c3:=(c 3).1;have c4:=(c 4).1;have c5:=(c 5).1;have c6:=(c 6).1;have c7:=(c 7).1;have c8:=(c 8).1;have c9:=(c 9).1;have c10:=(c 10).1;have c11:=(c 11).1;simp only [List.getElem?_toArray,List.getElem?_cons_zero,List.getElem?_cons_succ] at c0 c1 c2 c3 c4 c5 c6 c7 c8 c9 c10 c11;rw [results_cell_tmp2 h,hp,hu,hv];simp only [asAddr];simp [go_sem,Result.andThen,c0,c1,c2,c3,c4,c5,c6,c7,c8,c9,c10,c11]
def errV (gr lk k len cap:Nat) (ln n:Int) (i:Nat):Value:=
 (#[.agg dz,.slice (some ⟨gr,lk,none⟩) len cap,.int .i64 (k:Int),.pointer (some ⟨gr,lk + k * 2,none⟩),.pointer (some ⟨gr,lk + k * 2,none⟩),.int .i64 ln,.int .i64 n,undef,.int .i64 ln,.int .i64 n]:Array Value).getD i undef
def ErP (gr lk k len cap:Nat) (ln n:Int) (i:Nat) (v:Value):Prop:=v=errV gr lk k len cap ln n i
abbrev putZ (y:World) (R:Nat):World:=put12 y R (.string ⟨#[]⟩) (.int .i64 0) (.int .i64 0) (.int .i64 0) (.int .i64 0) (.string ⟨#[]⟩) (.slice none 0 0) (.slice none 0 0) (.int .i64 0) (.int .i64 0) (.int .i64 0) (.int .i64 0)
structure ErrX (y:World) (R gr a:Nat) (ln:Int) (x:Array Bool) (z:World):Prop where
 lr:z.cell? ⟨gr,a,none⟩=some (.int .i64 ln)
 f0:x.getD 7 false=false→z=y.drew
 f1:x.getD 7 false=true→z=(putZ y R).drew
theorem ErrX.other {y:World} {R gr a:Nat} {ln:Int} {x:Array Bool} {z:World} (h:ErrX y R gr a ln x z) {i:Nat} (hi:i ≠ 7):ErrX y R gr a ln (x.setIfInBounds i true) z:=
 ⟨h.lr,by rw [getD_set_ne false hi]; exact h.f0,by rw [getD_set_ne false hi]; exact h.f1⟩
theorem ErrX.stored {y:World} {R gr a:Nat} {ln:Int} {x:Array Bool} {z:World} (h:ErrX y R gr a ln x z) (hr:gr ≠ R) (hx:x.getD 7 false=false) (hs:7 < x.size):ErrX y R gr a ln (x.setIfInBounds 7 true) (putZ y R).drew:=by
 have e:=getD_set_at hs;have hl:=h.lr;rw [h.f0 hx,drew_cell] at hl;refine ⟨by rw [drew_cell]; exact (World.cell?_of_block (a:=⟨gr,a,none⟩) (put12_off (y:=y) hr _ _ _ _ _ _ _ _ _ _ _ _)).trans hl,fun h4=>?_,fun _=>rfl⟩;rw [e] at h4; cases h4
def NxC (w yD:World) (d':Dv) (vs v1 v2:Value) (seen:List Wd) (f:Wd):Prop:=∀ (y:World) (v':Value) (o:Obj),y.ownsRow (w.heap.size + 2) 9 1 v' (seen.length + 1) (strV seen ++ [.string (txt f)])→(yD.alloc o).grownBy y vs.ownBlock→(v'.ownBlock=vs.ownBlock ∨ v'.ownBlock=some (yD.alloc o).heap.size)→RrSt w y d' v1 v2 v' (seen ++ [f])
theorem own_on {x y:World} {N:Nat} {e:TypeId} {s:Nat} {v:Value} {n:Nat} {xs:List Value} (h:x.ownsRow N e s v n xs) (hk:∀ g,v.ownBlock=some g→y.heap[g]?=x.heap[g]?):y.ownsRow N e s v n xs:=by
 refine ⟨h.1,?_⟩;rcases h.2 with h | ⟨g,cap,cur,h1,h2,h3,h4⟩
 · exact .inl h
 · exact .inr ⟨g,cap,cur,h1,h2,(hk g (by rw [h1]; rfl)).trans h3,h4⟩
theorem notF_snoc (s:List Wd) (f:Wd):((notF (s ++ [f])).length:Int)=((notF s).length:Int) + (if f=kFie then 0 else 1):=by
 unfold notF;rw [List.filter_append]
 by_cases h:f=kFie
 · rw [if_pos h]; simp [h]
 · rw [if_neg h]; simp [h]
end Go.Proofs.YthabffjgdhfbmaaGreatDoor
namespace Go.Proofs.YthabffjgdhfbmaaGreatDoor
def ClosedB (L:List Oper) (x:Array Bool):Prop:=∀ (j:Nat) (o:Oper),L[j]?=some o→x.getD j false=true→∀ e ∈ o.after,Region.binds .any e=true→x.getD e.on false=true
theorem ClosedB.at {L:List Oper} {x:Array Bool} (h:ClosedB L x) {j:Nat} {o:Oper} (ho:L[j]?=some o) {k:Nat} (hk:(o.after.any fun e=>Region.binds .any e && e.on == k)=true) (hx:x.getD j false=true):x.getD k false=true:=dep_at (h j o ho hx) hk
theorem getD_put_true {x:Array Bool} {i j:Nat} (h:x.getD j false=true):(x.setIfInBounds i true).getD j false=true:=by
 by_cases e:i=j
 · subst e;refine getD_set_at ?_;rw [Array.getD_eq_getD_getElem?] at h
   cases hx:x[i]? with
   | none=>rw [hx] at h; cases h
   | some b=>exact (Array.getElem?_eq_some_iff.1 hx).1
 · rw [getD_set_ne false e]; exact h
theorem region_props4 {G:Type} {P:Program} {id:Nat} {L:List Oper} {Q:Exit→Act→World→Prop} (Pv:G→Nat→Value→Prop) (W:G→Array Bool→World→Prop) (g0:G) {a0:Act} {w0:World}
 (hm:P.follows .mixedOrders=true) (hb:regB L a0.tmps.size=true)
 (step:∀ (γ:G) x a w i o,L[i]?=some o→RegI L a0.tmps a0.defers (fun i v _=>Pv γ i v) x a w→(∀ e ∈ o.after,Region.binds .any e=true→x.getD e.on false=true)→ClosedB L x→x.size=L.length→x.getD i true=false→W γ x w →
  o.wp P a w (fun a' w'=>∃ v γ',a'=a.put o.dst v∧(∀ d,o.dst=some d→Pv γ' i v)∧(∀ j v,x.getD j false=true→Pv γ j v→Pv γ' j v)∧W γ' (x.setIfInBounds i true) w') Q)
 (fin:∀ γ x a w,x.size=L.length→(∀ i,i < L.length→x.getD i false=true)→RegI L a0.tmps a0.defers (fun i v _=>Pv γ i v) x a w→W γ x w→Q .normal a w)
 (h0:W g0 (Array.replicate L.length false) { w0 with drawn:=w0.drawn + 1 }):(Code.region id L.toArray true).wp P Q a0 w0:=by
 refine region_props3 (G:=G) (fun γ _ i v _=>Pv γ i v) (fun γ x w=>W γ x w∧ClosedB L x) g0 hm hb ?_ ?_ ⟨h0,?_⟩
 · rintro γ x a w i o ho hI haf hx hxi ⟨hW,hc⟩;refine Oper.wp_mono ?_ (step γ x a w i o ho hI haf hc hx hxi hW);rintro a' w' ⟨v,γ',e,hv,hk,hw⟩;refine ⟨v,γ',e,hv,hk,hw,fun j p hp hj e' he' hb'=>?_⟩
   by_cases hji:j=i
   · subst hji;rw [ho] at hp
     cases hp
     exact getD_put_true (haf e' he' hb')
   · rw [getD_set_ne false (Ne.symm hji)] at hj;exact getD_put_true (hc j p hp hj e' he' hb')
 · rintro γ x a w hx hall hI ⟨hW,_⟩;exact fin γ x a w hx hall hI hW
 · intro j o _ hj
   exfalso
   rw [Array.getD_eq_getD_getElem?] at hj
   by_cases hlt:j < L.length
   · rw [Array.getElem?_replicate,if_pos hlt] at hj
     cases hj
   · rw [Array.getElem?_replicate,if_neg hlt] at hj
     cases hj
end Go.Proofs.YthabffjgdhfbmaaGreatDoor
namespace Go.Proofs.YthabffjgdhfbmaaGreatDoor
open Go.RowKit
theorem info_row8p:(Tryz.prog.info? 56).map (fun i=>(i.zero,i.size,i.bytes))=some (some (.agg #[.int .i64 0,.slice none 0 0]),2,32):=by kernel_rfl
theorem info_rws:(Tryz.prog.info? 55).map (fun i=>(i.zero,i.size,i.bytes))=some (some (.slice none 0 0),1,24):=by kernel_rfl
theorem own_apart {x:World} {b b':Nat} {T T':TypeId} {s s':Nat} {v v':Value} {n n':Nat} {xs xs':List Value} (h:x.ownsRow b T s v n xs) (h':x.ownsRow b' T' s' v' n' xs') (hne:T ≠ T'):v.ownBlock=none ∨ v.ownBlock ≠ v'.ownBlock:=by
 rcases h.2 with ⟨e,_⟩ | ⟨g,c,cur,e,_,hb,_⟩
 · left; rw [e]; rfl
 · rcases h'.2 with ⟨e',_⟩ | ⟨g',c',cur',e',_,hb',_⟩
   · right; rw [e,e']; simp [Value.ownBlock]
   · right
     rw [e,e'];intro h;have h:g=g':=by simpa [Value.ownBlock] using h
     subst h;rw [hb] at hb';injection hb' with hb'
     injection hb' with _ ht _
     exact hne ht
theorem own_below {x y:World} {b:Nat} {T:TypeId} {s:Nat} {v:Value} {n:Nat} {xs:List Value} (h:x.ownsRow b T s v n xs) (hb:Below x.heap.size x y):y.ownsRow b T s v n xs:=
 own_on h fun g hg=>hb.block g (World.ownsRow.lt h g hg).2
theorem own_base {x:World} {b b':Nat} {T:TypeId} {s:Nat} {v:Value} {n:Nat} {xs:List Value} (h:x.ownsRow b T s v n xs) (hb:b'≤b):x.ownsRow b' T s v n xs:=by
 refine ⟨h.1,?_⟩;rcases h.2 with h | ⟨g,cap,cur,h1,h2,h3⟩
 · exact .inl h
 · exact .inr ⟨g,cap,cur,h1,Nat.le_trans hb h2,h3⟩
def WcAt (N:Nat) (x:World) (v:Value) (ws:List Wd):Prop:=(ws=[]∧∃ a c,v=.slice a 0 c) ∨ x.ownsRow N 9 1 v ws.length (strV ws)
theorem WcAt.below {N:Nat} {x y:World} {v:Value} {ws:List Wd} (h:WcAt N x v ws) (hb:Below x.heap.size x y):WcAt N y v ws:=h.imp id fun h=>own_below h hb
theorem WcAt.kept {N b:Nat} {x y:World} {v v':Value} {ws:List Wd} {T:TypeId} {s n:Nat} {xs:List Value} (h:WcAt N x v ws) (h':x.ownsRow b T s v' n xs) (hne:9 ≠ T) (hg:x.grownBy y v'.ownBlock):WcAt N y v ws:=
 h.imp id fun h=>World.ownsRow.kept h hg (own_apart h h' hne)
theorem WcAt.base {N N':Nat} {x:World} {v:Value} {ws:List Wd} (h:WcAt N x v ws) (hb:N'≤N):WcAt N' x v ws:=h.imp id fun h=>own_base h hb
theorem WcAt.wds {N:Nat} {x:World} {v:Value} {ws:List Wd} (h:WcAt N x v ws):WdsAt x.heap.size x v ws:=by
 rcases h with ⟨h1,a,c,h2⟩ | h
 · exact .inl ⟨a,c,h2,h1⟩
 · rcases own_slice h with ⟨e,e2⟩ | ⟨g,cap,e,_,hl⟩
   · exact .inl ⟨none,0,e,List.length_eq_zero_iff.1 e2⟩
   · have hr:=own_room h _ _ _ e;refine .inr ⟨g,0,cap,e,hr,fun j hj=>?_,hl⟩;rw [e] at h;have k:=World.ownsRow.cellAt h j (by omega);rw [Nat.zero_add,k];unfold strV;rw [List.getElem?_map,List.getElem?_eq_getElem hj];rfl
structure BkSt (w x:World) (vo:Value) (us:List Value) (cs:List (List Rn)):Prop where
 len:us.length=cs.length
 ro:x.ownsRow w.heap.size 55 1 vo us.length us
 inn:∀ i (h:i < us.length) (h':i < cs.length),x.ownsRow w.heap.size 56 2 us[i] cs[i].length (rnC cs[i])
 dj:∀ i j (hi:i < us.length) (hj:j < us.length),i ≠ j→us[i].ownBlock=none ∨ us[i].ownBlock ≠ us[j].ownBlock
 b:Below w.heap.size w x
 wo:∀ c ∈ cs,∀ f ∈ c,WcAt w.heap.size x f.2 f.1.2
theorem BkSt.first (w:World):BkSt w w (.slice none 0 0) [] []:=
 ⟨rfl,World.ownsRow_nil _ _ _ _,fun i h=>(by cases h),fun i j h=>(by cases h),Below.refl _ _,fun c h=>(by cases h)⟩
theorem BkSt.below {w x y:World} {vo:Value} {us:List Value} {cs:List (List Rn)} (h:BkSt w x vo us cs) (hb:Below x.heap.size x y):BkSt w y vo us cs:=
 ⟨h.len,own_below h.ro hb,fun i h1 h2=>own_below (h.inn i h1 h2) hb,h.dj,h.b.trans (hb.mono h.b.size),fun c hc f hf=>(h.wo c hc f hf).below hb⟩
theorem BkSt.push {w x y:World} {vo vo':Value} {us:List Value} {cs:List (List Rn)} (h:BkSt w x vo us cs) (hown:y.ownsRow w.heap.size 55 1 vo' (us.length + 1) (us ++ [.slice none 0 0])) (hg:x.grownBy y vo.ownBlock):BkSt w y vo' (us ++ [.slice none 0 0]) (cs ++ [[]]):=by
 refine ⟨by simp [h.len],by rw [List.length_append]; exact hown,fun i h1 h2=>?_,fun i j hi hj hij=>?_,h.b.grown hg h.b.size (fun k e=>(World.ownsRow.lt h.ro k e).1),fun c hc f hf=>?_⟩
 · rw [List.length_append] at h1
   by_cases hi:i < us.length
   · rw [List.getElem_append_left hi,List.getElem_append_left (by rw [← h.len]; exact hi)];exact World.ownsRow.kept (h.inn i hi (by rw [← h.len]; exact hi)) hg (own_apart (h.inn i hi (by rw [← h.len]; exact hi)) h.ro (by decide))
   · have e:i=us.length:=by simp at h1; omega
     subst e;have e1:(us ++ [Value.slice none 0 0])[us.length]=.slice none 0 0:=by simp
     have e2:(cs ++ [[]])[us.length]'h2=[]:=by simp [h.len]
     rw [e1,e2];exact World.ownsRow_nil _ _ _ _
 · by_cases h1:i < us.length
   · rw [List.getElem_append_left h1]
     by_cases h2:j < us.length
     · rw [List.getElem_append_left h2]; exact h.dj i j h1 h2 hij
     · have e:j=us.length:=by simp at hj; omega
       subst e;have e1:(us ++ [Value.slice none 0 0])[us.length]=.slice none 0 0:=by simp
       rw [e1]
       cases hu:us[i].ownBlock with
       | none=>exact .inl rfl
       | some g=>right; simp [Value.ownBlock]
   · have e:i=us.length:=by simp at hi; omega
     subst e
     left
     have e1:(us ++ [Value.slice none 0 0])[us.length]=.slice none 0 0:=by simp
     rw [e1]; rfl
 · rcases List.mem_append.1 hc with hc | hc
   · exact (h.wo c hc f hf).kept h.ro (by decide) hg
   · rw [List.mem_singleton.1 hc] at hf; cases hf
theorem BkSt.grow {w x z2 z3:World} {go n capo:Nat} {us0:List Value} {u u':Value} {cs0:List (List Rn)} {c:List Rn} {f:Rn} (h:BkSt w x (.slice (some ⟨go,0,none⟩) n capo) (us0 ++ [u]) (cs0 ++ [c])) (hb:Below x.heap.size x z2)
 (hown:z3.ownsRow w.heap.size 56 2 u' (c.length + 1) (rnC c ++ [.int .i64 f.1.1,f.2])) (hg:z2.grownBy z3 u.ownBlock) (hn:u'.ownBlock=u.ownBlock ∨ ∃ g,u'.ownBlock=some g∧z2.heap.size≤g) (hwf:WcAt w.heap.size z2 f.2 f.1.2) :
 BkSt w (z3.setCell ⟨go,us0.length,none⟩ u') (.slice (some ⟨go,0,none⟩) n capo) (us0 ++ [u']) (cs0 ++ [c ++ [f]]):=by
 have h2:=h.below hb;have ln:us0.length=cs0.length:=by have:=h.len; simpa using this
 have nn:n=us0.length + 1:=by
  rcases h.ro.2 with ⟨e,_⟩ | ⟨g,cap,cur,e,_⟩
  · cases e
  · injection e with _ e _; simpa using e
 subst nn;have eu:(us0 ++ [u])[us0.length]'(by simp)=u:=by simp
 have ec:(cs0 ++ [c])[us0.length]'(by simp [ln])=c:=by simp [ln]
 have hu:=h2.inn us0.length (by simp) (by simp [ln]);rw [eu,ec] at hu;have ro2:=h2.ro;rw [show (us0 ++ [u]).length=us0.length + 1 by simp] at ro2;have ro3:=World.ownsRow.kept ro2 hg (own_apart ro2 hu (by decide));obtain ⟨ro4,g4⟩:=World.ownsRow.stored ro3 us0.length u';have es:(us0 ++ [u]).set us0.length u'=us0 ++ [u']:=by rw [List.set_append_right _ _ (Nat.le_refl _),Nat.sub_self]; rfl
 rw [es] at ro4;have keep:∀ {v:Value} {k:Nat} {xs:List Value},z3.ownsRow w.heap.size 56 2 v k xs→(z3.setCell ⟨go,us0.length,none⟩ u').ownsRow w.heap.size 56 2 v k xs:=fun hv=>World.ownsRow.kept hv g4 (own_apart hv ro3 (by decide))
 have old:∀ i (hi:i < us0.length),z3.ownsRow w.heap.size 56 2 us0[i] (cs0[i]'(by omega)).length (rnC (cs0[i]'(by omega)))∧(us0[i].ownBlock=none ∨ us0[i].ownBlock ≠ u.ownBlock):=by
  intro i hi;have k:=h2.inn i (by simp; omega) (by simp; omega);rw [List.getElem_append_left hi,List.getElem_append_left (by omega)] at k;have d:=h2.dj i us0.length (by simp; omega) (by simp) (by omega);rw [List.getElem_append_left hi,eu] at d;exact ⟨World.ownsRow.kept k hg d,d⟩
 have new:∀ i (hi:i < us0.length),us0[i].ownBlock=none ∨ us0[i].ownBlock ≠ u'.ownBlock:=by
  intro i hi;have k:=h2.inn i (by simp; omega) (by simp; omega);rw [List.getElem_append_left hi] at k;rcases hn with hn | ⟨g,hn,hge⟩
  · rw [hn]; exact (old i hi).2
  · cases hv:us0[i].ownBlock with
    | none=>exact .inl rfl
    | some g'=>
     right
     rw [hn];intro e;have e:=Option.some.inj e;have:=(World.ownsRow.lt k g' hv).2;omega
 refine ⟨by simp [ln],by rw [show (us0 ++ [u']).length=us0.length + 1 by simp]; exact ro4,fun i h1 h2'=>?_,fun i j hi hj hij=>?_,?_,fun d hd q hq=>?_⟩
 · by_cases hi:i < us0.length
   · rw [List.getElem_append_left hi,List.getElem_append_left (by omega)];exact keep (old i hi).1
   · have e:i=us0.length:=by simp at h1; omega
     subst e;have e1:(us0 ++ [u'])[us0.length]'h1=u':=by simp
     have e2:(cs0 ++ [c ++ [f]])[us0.length]'h2'=c ++ [f]:=by simp [ln]
     rw [e1,e2,List.length_append,List.length_singleton,rnC_snoc];exact keep hown
 · by_cases h1:i < us0.length
   · rw [List.getElem_append_left h1]
     by_cases h2:j < us0.length
     · rw [List.getElem_append_left h2];have d:=h.dj i j (by simp; omega) (by simp; omega) hij
       rwa [List.getElem_append_left h1,List.getElem_append_left h2] at d
     · have e:j=us0.length:=by simp at hj; omega
       subst e;have e1:(us0 ++ [u'])[us0.length]'hj=u':=by simp
       rw [e1]; exact new i h1
   · have e:i=us0.length:=by simp at hi; omega
     subst e;have e1:(us0 ++ [u'])[us0.length]'hi=u':=by simp
     have hj':j < us0.length:=by simp at hj; omega
     rw [e1,List.getElem_append_left hj'];rcases new j hj' with d | d
     · cases hv:u'.ownBlock with
       | none=>exact .inl rfl
       | some g=>right; rw [d]; simp
     · exact .inr (Ne.symm d)
 · have b3:=h2.b.grown hg h2.b.size (fun k e=>(World.ownsRow.lt hu k e).1);have lo:=(World.ownsRow.lt ro3 go rfl).1;exact b3.setCell (p:=⟨go,us0.length,none⟩) lo u'
 · have kq:WcAt w.heap.size z2 q.2 q.1.2:=by
    rcases List.mem_append.1 hd with hd | hd
    · exact h2.wo d (List.mem_append_left _ hd) q hq
    · rw [List.mem_singleton.1 hd] at hq;rcases List.mem_append.1 hq with hq | hq
      · exact h2.wo c (by simp) q hq
      · rw [List.mem_singleton.1 hq]; exact hwf
   exact (kq.kept hu (by decide) hg).kept ro3 (by decide) g4
def ClF (w:World) (ws:List Wd):Prop:=∀ (y:World) (v':Value),(w.alloc (.cells #[] 9)).grownBy y (some w.heap.size)→y.ownsRow w.heap.size 9 1 v' (0 + ws.length) ([] ++ strV ws)→∃ p c,v'=.slice p ws.length c∧Below w.heap.size w y∧WcAt w.heap.size y (.slice p ws.length c) ws
def NwW (z:World) (a:Addr) (l:List Value):Prop:=∀ j u,l[j]?=some u→z.cell? (a.add j)=some u
def OneV (l:List Value):Prop:=∀ u ∈ l,u.oneCell'=true
theorem clone_any (v:Value) (w:World) (ws:List Wd) (hv:WdsAt w.heap.size w v ws) (hl:(ws.length:Int)≤4500) :
 Calls Tryz.prog 74 #[v] w fun e y=>∃ p c,e=.returned (.slice p ws.length c)∧Below w.heap.size w y∧WcAt w.heap.size y (.slice p ws.length c) ws:=by
 obtain ⟨i0,hi0,hz0,hz1,hz2⟩:=info_parts info_st;have fin:∀ {y:World} {v':Value},(w.alloc (.cells #[] 9)).grownBy y (some w.heap.size)→y.ownsRow w.heap.size 9 1 v' (0 + ws.length) ([] ++ strV ws)→∃ p c,v'=.slice p ws.length c∧Below w.heap.size w y∧WcAt w.heap.size y (.slice p ws.length c) ws:=by
  intro y v' hg ho;rw [Nat.zero_add] at ho;have ba:Below w.heap.size w (w.alloc (.cells #[] 9)):=(Below.refl _ _).alloc (Nat.le_refl _) _;have bl:=ba.grown hg ba.size (fun k e=>by have:=Option.some.inj e; omega);rcases own_slice ho with ⟨e,e2⟩ | ⟨g,cap,e,_⟩
  · exact ⟨none,0,by rw [e,e2],bl,.inl ⟨List.length_eq_zero_iff.1 e2,none,0,by rw [e2]⟩⟩
  · exact ⟨_,_,e,bl,.inr (by rw [← e]; exact ho)⟩
 have own0:(w.alloc (.cells #[] 9)).ownsRow w.heap.size 9 1 (.slice (some ⟨w.heap.size,0,none⟩) 0 0) 0 []:=⟨rfl,.inr ⟨w.heap.size,0,#[],rfl,Nat.le_refl _,World.alloc_heap_new w _,Nat.le_refl _,Nat.zero_le _,rfl,rfl⟩⟩;have hm:0 + ws.length≤maxLen:=by unfold maxLen; omega
 have hby:(0 + ws.length) * 16≤140737488355328:=by omega
 replace fin:Hid (ClF w ws):=fun y v' h1 h2=>fin h1 h2
 have ba:Below w.heap.size w (w.alloc (.cells #[] 9)):=(Below.refl _ _).alloc (Nat.le_refl _) _;obtain ⟨p,c,rfl⟩:=hv.form
 cases p with
 | none=>
  obtain rfl:ws=[]:=by
   rcases hv with ⟨_,_,_,h⟩ | ⟨g,o,cap,e,_⟩
   · exact h
   · injection e with e _ _; cases e
  clear fin own0 hv ba;have eq0:∀ x:World,(binOp .eql 52 (.slice none 0 c) (.slice none 0 0)).run Tryz.prog x=.ok (.bool true) x:=fun x=>Lib.run_eql_slice_nil x _ _ none 0 c 0 0 Tryz.underlying52
  go_enter Tryz.func74,Tryz.ntmps74
  go_wp2;go_ret;exact ⟨none,0,rfl,Below.refl _ _,.inl ⟨rfl,none,0,rfl⟩⟩
 | some a=>
  have news:Hid (NwW (w.alloc (.cells #[] 9)) a (strV ws)):=by
   intro j u hu;rcases hv with ⟨_,_,_,rfl⟩ | ⟨g,o,cap,e,_,hi,hg⟩
   · cases hu
   · injection e with e _ _
     injection e with e
     subst e;rw [addr_add];have hj:j < ws.length:=by have:=(List.getElem?_eq_some_iff.1 hu).1; simpa using this
     have k:=(ba.cell (p:=⟨g,o + j,none⟩) hg).trans (hi j hj);rw [k];have e2:(strV ws)[j]?=some (Value.string (txt ws[j])):=by unfold strV; rw [List.getElem?_map,List.getElem?_eq_getElem hj]; rfl
     rw [hu] at e2;exact e2.symm
  have one:Hid (OneV (strV ws)):=by
   intro u hu;unfold strV at hu;obtain ⟨z,_,rfl⟩:=List.mem_map.1 hu;rfl
  have ln:Hid ((strV ws).length=ws.length * 1):=by unfold strV Hid; simp
  replace own0:Hid ((w.alloc (.cells #[] 9)).ownsRow w.heap.size 9 1 (.slice (some ⟨w.heap.size,0,none⟩) 0 0) 0 []):=own0;clear hv ba;obtain ⟨m,hm'⟩:∃ m,ws.length=m:=⟨_,rfl⟩;rw [hm'] at hm hby ln ⊢;replace hm':Hid (ws.length=m):=hm';clear hl;have eq0:∀ x:World,(binOp .eql 52 (.slice (some a) m c) (.slice none 0 0)).run Tryz.prog x=.ok (.bool false) x:=fun x=>Lib.run_eql_slice_nil x _ _ (some a) m c 0 0 Tryz.underlying52
  go_enter Tryz.func74,Tryz.ntmps74
  go_wp2_with (at_builtin; refine wpList_append_own_at _ rfl _ _ 52 rfl w.heap.size 9 i0 (.string ⟨#[]⟩) 1 16 Tryz.underlying52 hi0 hz0 hz1 hz2 rfl (by decide) _ 0 [] rfl own0.out a m c (strV ws) rfl ln.out news.out one.out hm hby (by simp) ?_; intro v1 y1 hA gA _ vA; rw [← hm'.out] at hA; obtain ⟨p,c,rfl,hbe,hwc⟩:=fin.out y1 v1 gA hA; rw [hm'.out] at hwc ⊢; replace hbe:Hid (Below w.heap.size w y1):=hbe; replace hwc:Hid (WcAt w.heap.size y1 (.slice p m c) ws):=hwc; clear hA gA vA)
  go_ret;exact ⟨p,c,rfl,hbe.out,hwc.out⟩
abbrev kBe:ByteArray:=⟨#[98,101]⟩
abbrev kLe:ByteArray:=⟨#[108,101]⟩
abbrev kSbe:ByteArray:=⟨#[115,98,101]⟩
abbrev kSle:ByteArray:=⟨#[115,108,101]⟩
abbrev kBcd:ByteArray:=⟨#[98,99,100]⟩
abbrev kDec:ByteArray:=⟨#[100,101,99]⟩
def kindI (s:ByteArray):Nat:=if s=kBe then 0 else if s=kLe then 1 else if s=kSbe then 2 else if s=kSle then 3 else if s=kBcd then 4 else if s=kDec then 5 else 6
def NoKind (s:ByteArray):Prop:=¬ s=kBe∧¬ s=kLe∧¬ s=kSbe∧¬ s=kSle∧¬ s=kBcd∧¬ s=kDec
theorem kind_be:kindI kBe=0:=of_decide_eq_true (by kernel_rfl)
theorem kind_le:kindI kLe=1:=of_decide_eq_true (by kernel_rfl)
theorem kind_sbe:kindI kSbe=2:=of_decide_eq_true (by kernel_rfl)
theorem kind_sle:kindI kSle=3:=of_decide_eq_true (by kernel_rfl)
theorem kind_bcd:kindI kBcd=4:=of_decide_eq_true (by kernel_rfl)
theorem kind_dec:kindI kDec=5:=of_decide_eq_true (by kernel_rfl)
theorem kind_no {s:ByteArray} (h:NoKind s):kindI s=6:=by
 obtain ⟨h0,h1,h2,h3,h4,h5⟩:=h;unfold kindI;rw [if_neg h0,if_neg h1,if_neg h2,if_neg h3,if_neg h4,if_neg h5]
theorem kind_cases (s:ByteArray):s=kBe ∨ s=kLe ∨ s=kSbe ∨ s=kSle ∨ s=kBcd ∨ s=kDec ∨ NoKind s:=by
 by_cases h0:s=kBe
 · exact .inl h0
 by_cases h1:s=kLe
 · exact .inr (.inl h1)
 by_cases h2:s=kSbe
 · exact .inr (.inr (.inl h2))
 by_cases h3:s=kSle
 · exact .inr (.inr (.inr (.inl h3)))
 by_cases h4:s=kBcd
 · exact .inr (.inr (.inr (.inr (.inl h4))))
 by_cases h5:s=kDec
 · exact .inr (.inr (.inr (.inr (.inr (.inl h5)))))
 exact .inr (.inr (.inr (.inr (.inr (.inr ⟨h0,h1,h2,h3,h4,h5⟩)))))
def rgtB (k:Nat) (n:Int):Bool:=if k < 5 then decide (1≤n∧n≤4) else if k=5 then decide (1≤n∧n≤8) else false
theorem rgt_cases {k:Nat} {n:Int} (h:rgtB k n=true):(k < 5∧1≤n∧n≤4) ∨ (k=5∧1≤n∧n≤8):=by
 unfold rgtB at h
 split at h
 · left; exact ⟨by assumption,by simpa using h⟩
 · split at h
   · right; exact ⟨by assumption,by simpa using h⟩
   · cases h
structure U where
 nm:ByteArray
 m:Int
 l:Int
 t:Int
 k:Int
 fn:Int
 fd:Int
 on:Int
 od:Int
 code:Int
abbrev encU (u:U):Value:=.agg #[.string u.nm,.int .i64 u.m,.int .i64 u.l,.int .i64 u.t,.int .i64 u.k,.int .i64 u.fn,.int .i64 u.fd,.int .i64 u.on,.int .i64 u.od,.int .i64 u.code]
def tab:List U:=[
 ⟨⟨#[111,110,101]⟩,0,0,0,0,1,1,0,1,512⟩,
 ⟨⟨#[112,99,116]⟩,0,0,0,0,1,100,0,1,544⟩,
 ⟨⟨#[107,103]⟩,1,0,0,0,1,1,0,1,1731⟩,
 ⟨⟨#[103]⟩,1,0,0,0,1,1000,0,1,1728⟩,
 ⟨⟨#[108,98]⟩,1,0,0,0,45359237,100000000,0,1,1760⟩,
 ⟨⟨#[109]⟩,0,1,0,0,1,1,0,1,1280⟩,
 ⟨⟨#[99,109]⟩,0,1,0,0,1,100,0,1,1297⟩,
 ⟨⟨#[109,109]⟩,0,1,0,0,1,1000,0,1,1298⟩,
 ⟨⟨#[105,110]⟩,0,1,0,0,127,5000,0,1,1376⟩,
 ⟨⟨#[115]⟩,0,0,1,0,1,1,0,1,2176⟩,
 ⟨⟨#[109,105,110]⟩,0,0,1,0,60,1,0,1,2208⟩,
 ⟨⟨#[104]⟩,0,0,1,0,3600,1,0,1,2240⟩,
 ⟨⟨#[107]⟩,0,0,0,1,1,1,0,1,3520⟩,
 ⟨⟨#[99]⟩,0,0,0,1,1,1,5463,20,6048⟩,
 ⟨⟨#[102]⟩,0,0,0,1,5,9,45967,180,4416⟩,
 ⟨⟨#[112,97]⟩,1,(-1),(-2),0,1,1,0,1,3840⟩,
 ⟨⟨#[107,112,97]⟩,1,(-1),(-2),0,1000,1,0,1,3843⟩,
 ⟨⟨#[109,109,104,103]⟩,1,(-1),(-2),0,20265,152,0,1,3872⟩,
 ⟨⟨#[99,109,104,111]⟩,1,(-1),(-2),0,196133,2000,0,1,3904⟩,
 ⟨⟨#[108]⟩,0,3,0,0,1,1000,0,1,1600⟩,
 ⟨⟨#[109,108]⟩,0,3,0,0,1,1000000,0,1,1618⟩,
 ⟨⟨#[108,112,109]⟩,0,3,(-1),0,1,60000,0,1,3072⟩,
 ⟨⟨#[109,108,104]⟩,0,3,(-1),0,1,3600000000,0,1,3122⟩,
 ⟨⟨#[98,112,109]⟩,0,0,(-1),0,1,60,0,1,2720⟩,
 ⟨⟨#[104,122]⟩,0,0,(-1),0,1,1,0,1,2496⟩]
def noU:U:=⟨⟨#[]⟩,0,0,0,0,0,0,0,0,0⟩
def isU (s:ByteArray):Bool:=tab.any (fun u=>decide (u.nm=s))
def atU (s:ByteArray):U:=(tab.find? (fun u=>decide (u.nm=s))).getD noU
theorem nm_eq (a b:ByteArray):(a.toList == b.toList)=decide (a=b):=by
 rw [ByteArray.toList_eq,ByteArray.toList_eq]
 by_cases h:a=b
 · subst h; simp
 · rw [decide_eq_false h,beq_eq_false_iff_ne];exact fun e=>h (ByteArray.ext (Array.toList_inj.mp e))
theorem nm_yes {a b:ByteArray} (h:a=b):(a.toList == b.toList)=true:=by rw [nm_eq,decide_eq_true h]
theorem nm_no {a b:ByteArray} (h:¬ a=b):(a.toList == b.toList)=false:=by rw [nm_eq,decide_eq_false h]
theorem tab_len:tab.length=25:=rfl
theorem isU_of {s:ByteArray} {u:U} (h:u ∈ tab) (e:u.nm=s):isU s=true:=by
 unfold isU; rw [List.any_eq_true]; exact ⟨u,h,by simp [e]⟩
theorem isU_not {s:ByteArray} (h:∀ u ∈ tab,u.nm ≠ s):isU s=false∧atU s=noU:=by
 constructor
 · unfold isU; rw [List.any_eq_false]; intro u hu; simp [h u hu]
 · unfold atU;rw [List.find?_eq_none.2 (fun u hu=>by simp [h u hu])];rfl
theorem atU_first {s:ByteArray} {pre rest:List U} {u:U} (h:tab=pre ++ u :: rest) (hp:∀ x ∈ pre,x.nm ≠ s) (e:u.nm=s):isU s=true∧atU s=u:=by
 refine ⟨isU_of (u:=u) (by rw [h]; simp) e,?_⟩;unfold atU;rw [h,List.find?_append,List.find?_eq_none.2 (fun x hx=>by simp [hp x hx])];simp [e]
def bigA:Array Value:=(tab.flatMap (fun u=>[.string u.nm,.int .i64 u.m,.int .i64 u.l,.int .i64 u.t,.int .i64 u.k,.int .i64 u.fn,.int .i64 u.fd,.int .i64 u.on,.int .i64 u.od,.int .i64 u.code])).toArray
theorem index_big (w:World):∀ (k:Nat) (h:k < tab.length),(Instr.index 239 (.agg bigA) (.int .i64 (k:Int))).run Tryz.prog w=.ok (encU tab[k]) w
 | 0,_=>by kernel_rfl
 | 1,_=>by kernel_rfl
 | 2,_=>by kernel_rfl
 | 3,_=>by kernel_rfl
 | 4,_=>by kernel_rfl
 | 5,_=>by kernel_rfl
 | 6,_=>by kernel_rfl
 | 7,_=>by kernel_rfl
 | 8,_=>by kernel_rfl
 | 9,_=>by kernel_rfl
 | 10,_=>by kernel_rfl
 | 11,_=>by kernel_rfl
 | 12,_=>by kernel_rfl
 | 13,_=>by kernel_rfl
 | 14,_=>by kernel_rfl
 | 15,_=>by kernel_rfl
 | 16,_=>by kernel_rfl
 | 17,_=>by kernel_rfl
 | 18,_=>by kernel_rfl
 | 19,_=>by kernel_rfl
 | 20,_=>by kernel_rfl
 | 21,_=>by kernel_rfl
 | 22,_=>by kernel_rfl
 | 23,_=>by kernel_rfl
 | 24,_=>by kernel_rfl
 | k + 25,h=>by exfalso; have:=tab_len; omega
end Go.Proofs.YthabffjgdhfbmaaGreatDoor
