/-
  Texts that belong together, one behind the other: DsSame0, ShLsK, ShLs, ShRd0. Conditions: as each says.
-/
import Derived.ChangeOld
import Derived.Laws.BitsAllLaws
import Derived.Laws.OwnMore
import Derived.Laws.Shifts
import Derived.Lib.QuietBelow
import Derived.Lib.QuietBelowIn
import Derived.OpenShut
import Derived.ProofKit
import Derived.RangeFuncCalls
import Derived.ShutString
import Derived.Sort.BigQuietIn
import Derived.Test.YthabffjgdhfbmaaGreatDoorProg
import Derived.Test.YthabffjgdhfbmaaGreatDoorJl1
import Derived.Test.YthabffjgdhfbmaaGreatDoorJl2
import Derived.Test.YthabffjgdhfbmaaGreatDoorJl3
import Derived.Test.YthabffjgdhfbmaaGreatDoorJl4
import Derived.Test.YthabffjgdhfbmaaGreatDoorJl5
import Derived.Test.YthabffjgdhfbmaaGreatDoorJl6
import Derived.Test.YthabffjgdhfbmaaGreatDoorJl7
import Derived.Test.YthabffjgdhfbmaaGreatDoorJl8
import Derived.Test.YthabffjgdhfbmaaGreatDoorJl9
import Derived.Test.YthabffjgdhfbmaaGreatDoorJl10
import Derived.Test.YthabffjgdhfbmaaGreatDoorJl11
import Derived.Test.YthabffjgdhfbmaaGreatDoorJl12
import Derived.Test.YthabffjgdhfbmaaGreatDoorJl13
import Derived.Test.YthabffjgdhfbmaaGreatDoorJl14
import Derived.Test.YthabffjgdhfbmaaGreatDoorJl15
import Derived.Test.YthabffjgdhfbmaaGreatDoorJl16
import Derived.Test.YthabffjgdhfbmaaGreatDoorJl17
import Derived.Test.YthabffjgdhfbmaaGreatDoorJl18
import Derived.Test.YthabffjgdhfbmaaGreatDoorJl19
import Derived.Test.YthabffjgdhfbmaaGreatDoorJl20
set_option maxRecDepth 100000
set_option maxHeartbeats 32000000
set_option linter.unusedVariables false
namespace Go.Proofs.YthabffjgdhfbmaaGreatDoor
open Go.RowKit
abbrev dvB (d:Dv) (fv qv:Value):Array Value:=#[.string (txt d.nm),.int .i64 d.st,.int .i64 d.es,.int .i64 d.mx,.int .i64 d.sz,.string (txt d.sm),fv,qv,.int .i64 d.po,.int .i64 d.ti,.int .i64 d.re,.int .i64 d.ag]
abbrev zF:Array Value:=#[.string ⟨#[]⟩,.int .i64 0,.string ⟨#[]⟩,.int .i64 0,.int .i64 0,.int .i64 0,.int .i64 0,.int .i64 0,.string ⟨#[]⟩]
abbrev fdA (f:Fd):Array Value:=#[.string (txt f.nm),.int .i64 f.pl,.string (txt f.kd),.int .i64 f.wd,.int .i64 f.sn,.int .i64 f.sd,.int .i64 f.on,.int .i64 f.od,.string (txt f.un)]
def put9 (z:World) (b:Nat) (f:Fd):World:=(((((((((z.setCell ⟨b,0,none⟩ (.string (txt f.nm))).setCell ⟨b,1,none⟩ (.int .i64 f.pl)).setCell ⟨b,2,none⟩ (.string (txt f.kd))).setCell ⟨b,3,none⟩ (.int .i64 f.wd)).setCell ⟨b,4,none⟩ (.int .i64 f.sn)).setCell ⟨b,5,none⟩ (.int .i64 f.sd)).setCell ⟨b,6,none⟩ (.int .i64 f.on)).setCell ⟨b,7,none⟩ (.int .i64 f.od)).setCell ⟨b,8,none⟩ (.string (txt f.un)))
theorem put9_at {z:World} {b:Nat} {f:Fd} {t:TypeId} (h:z.heap[b]?=some (.cells zF t (0,0))):(put9 z b f).heap[b]?=some (.cells (fdA f) t (0,0)):=by
 unfold put9;refine (rd_set (rd_set (rd_set (rd_set (rd_set (rd_set (rd_set (rd_set (rd_set h 0 _) 1 _) 2 _) 3 _) 4 _) 5 _) 6 _) 7 _) 8 _).trans ?_;simp only [List.setIfInBounds_toArray,List.set_cons_zero,List.set_cons_succ]
theorem put9_below {w z:World} {L b:Nat} {f:Fd} (h:Below L w z) (hb:L≤b):Below L w (put9 z b f):=by
 unfold put9
 repeat (refine Below.setCell ?_ hb _)
 exact h
theorem put9_off {z:World} {b k:Nat} {f:Fd} (hk:k ≠ b):(put9 z b f).heap[k]?=z.heap[k]?:=by
 unfold put9;simp only [Below.heap_setCell _ _ _ _ (show k ≠ (⟨b,_,none⟩:Addr).block from hk)]
structure SmG where
 b1:Nat
 b2:Nat
structure SmW (w0:World) (f:Fd) (γ:SmG) (x:Array Bool) (z:World):Prop where
 low:Below w0.heap.size w0 z
 o12:x.getD 12 false=true→x.getD 10 false=true
 o13:x.getD 13 false=true→x.getD 11 false=true
 bx:x.getD 10 false=true→w0.heap.size≤γ.b1∧z.heap[γ.b1]?=some (.cells (if x.getD 12 false=true then fdA f else zF) 70 (0,0))
 by':x.getD 11 false=true→w0.heap.size≤γ.b2∧z.heap[γ.b2]?=some (.cells (if x.getD 13 false=true then fdA f else zF) 64 (0,0))
 ne:x.getD 10 false=true→x.getD 11 false=true→γ.b1 ≠ γ.b2
theorem SmW.other {w0:World} {f:Fd} {γ:SmG} {x:Array Bool} {z:World} (h:SmW w0 f γ x z) {i:Nat} (hi:i < 10):SmW w0 f γ (x.setIfInBounds i true) z:=by
 obtain ⟨low,o12,o13,bx,by',ne⟩:=h;have e:∀ j,10≤j→(x.setIfInBounds i true).getD j false=x.getD j false:=fun j hj=>getD_set_ne false (by omega)
 refine ⟨low,?_,?_,?_,?_,?_⟩
 · rw [e 12 (by omega),e 10 (by omega)]; exact o12
 · rw [e 13 (by omega),e 11 (by omega)]; exact o13
 · rw [e 12 (by omega),e 10 (by omega)]; exact bx
 · rw [e 13 (by omega),e 11 (by omega)]; exact by'
 · rw [e 10 (by omega),e 11 (by omega)]; exact ne
theorem SmW.allocX {w0:World} {f:Fd} {γ:SmG} {x:Array Bool} {z:World} (h:SmW w0 f γ x z) (h10:x.getD 10 false=false) (h14:x.size=14):SmW w0 f ⟨z.heap.size,γ.b2⟩ (x.setIfInBounds 10 true) (z.alloc (.cells zF 70)):=by
 obtain ⟨low,o12,o13,bx,by',ne⟩:=h;have s10:(x.setIfInBounds 10 true).getD 10 false=true:=getD_set_at (by rw [h14]; decide);have e11:(x.setIfInBounds 10 true).getD 11 false=x.getD 11 false:=getD_set_ne false (by decide);have e12:(x.setIfInBounds 10 true).getD 12 false=x.getD 12 false:=getD_set_ne false (by decide);have e13:(x.setIfInBounds 10 true).getD 13 false=x.getD 13 false:=getD_set_ne false (by decide);have x12:x.getD 12 false=false:=by
  cases e:x.getD 12 false
  · rfl
  · rw [o12 e] at h10; cases h10
 have ba:Below z.heap.size z (z.alloc (.cells zF 70)):=(Below.refl _ _).alloc (Nat.le_refl _) _;refine ⟨low.alloc low.size _,fun _=>s10,by rw [e11,e13]; exact o13,fun _=>⟨low.size,?_⟩,?_,?_⟩
 · rw [e12,x12]; exact World.alloc_heap_new z _
 · rw [e11,e13]; intro k;have q:=by' k;exact ⟨q.1,(ba.block _ (Array.getElem?_eq_some_iff.1 q.2).1).trans q.2⟩
 · rw [e11]; intro _ k;have q:=(Array.getElem?_eq_some_iff.1 (by' k).2).1;show z.heap.size ≠ γ.b2;omega
theorem SmW.allocY {w0:World} {f:Fd} {γ:SmG} {x:Array Bool} {z:World} (h:SmW w0 f γ x z) (h11:x.getD 11 false=false) (h14:x.size=14):SmW w0 f ⟨γ.b1,z.heap.size⟩ (x.setIfInBounds 11 true) (z.alloc (.cells zF 64)):=by
 obtain ⟨low,o12,o13,bx,by',ne⟩:=h;have s11:(x.setIfInBounds 11 true).getD 11 false=true:=getD_set_at (by rw [h14]; decide);have e10:(x.setIfInBounds 11 true).getD 10 false=x.getD 10 false:=getD_set_ne false (by decide);have e12:(x.setIfInBounds 11 true).getD 12 false=x.getD 12 false:=getD_set_ne false (by decide);have e13:(x.setIfInBounds 11 true).getD 13 false=x.getD 13 false:=getD_set_ne false (by decide);have x13:x.getD 13 false=false:=by
  cases e:x.getD 13 false
  · rfl
  · rw [o13 e] at h11; cases h11
 have ba:Below z.heap.size z (z.alloc (.cells zF 64)):=(Below.refl _ _).alloc (Nat.le_refl _) _;refine ⟨low.alloc low.size _,by rw [e10,e12]; exact o12,fun _=>s11,?_,fun _=>⟨low.size,?_⟩,?_⟩
 · rw [e10,e12]; intro k;have q:=bx k;exact ⟨q.1,(ba.block _ (Array.getElem?_eq_some_iff.1 q.2).1).trans q.2⟩
 · rw [e13,x13]; exact World.alloc_heap_new z _
 · rw [e10]; intro k _;have q:=(Array.getElem?_eq_some_iff.1 (bx k).2).1;show γ.b1 ≠ z.heap.size;omega
theorem SmW.storeX {w0:World} {f:Fd} {γ:SmG} {x:Array Bool} {z:World} (h:SmW w0 f γ x z) (h10:x.getD 10 false=true) (h12:x.getD 12 false=false) (h14:x.size=14):SmW w0 f γ (x.setIfInBounds 12 true) (put9 z γ.b1 f):=by
 obtain ⟨low,o12,o13,bx,by',ne⟩:=h;have s12:(x.setIfInBounds 12 true).getD 12 false=true:=getD_set_at (by rw [h14]; decide);have e10:(x.setIfInBounds 12 true).getD 10 false=x.getD 10 false:=getD_set_ne false (by decide);have e11:(x.setIfInBounds 12 true).getD 11 false=x.getD 11 false:=getD_set_ne false (by decide);have e13:(x.setIfInBounds 12 true).getD 13 false=x.getD 13 false:=getD_set_ne false (by decide);have q:=bx h10;rw [h12] at q;refine ⟨put9_below low q.1,fun _=>e10.trans h10,by rw [e11,e13]; exact o13,fun _=>⟨q.1,by rw [s12,if_pos rfl]; exact put9_at q.2⟩,?_,by rw [e10,e11]; exact ne⟩;rw [e11,e13]; intro k;have q2:=by' k;exact ⟨q2.1,(put9_off (fun e=>ne h10 k e.symm)).trans q2.2⟩
theorem SmW.storeY {w0:World} {f:Fd} {γ:SmG} {x:Array Bool} {z:World} (h:SmW w0 f γ x z) (h11:x.getD 11 false=true) (h13:x.getD 13 false=false) (h14:x.size=14):SmW w0 f γ (x.setIfInBounds 13 true) (put9 z γ.b2 f):=by
 obtain ⟨low,o12,o13,bx,by',ne⟩:=h;have s13:(x.setIfInBounds 13 true).getD 13 false=true:=getD_set_at (by rw [h14]; decide);have e10:(x.setIfInBounds 13 true).getD 10 false=x.getD 10 false:=getD_set_ne false (by decide);have e11:(x.setIfInBounds 13 true).getD 11 false=x.getD 11 false:=getD_set_ne false (by decide);have e12:(x.setIfInBounds 13 true).getD 12 false=x.getD 12 false:=getD_set_ne false (by decide);have q:=by' h11;rw [h13] at q;refine ⟨put9_below low q.1,by rw [e10,e12]; exact o12,fun _=>e11.trans h11,?_,fun _=>⟨q.1,by rw [s13,if_pos rfl]; exact put9_at q.2⟩,by rw [e10,e11]; exact ne⟩;rw [e10,e12]; intro k;have q2:=bx k;exact ⟨q2.1,(put9_off (ne k h11)).trans q2.2⟩
def smV (A ga oa gb ob k:Nat) (fa fb:Value) (f:Fd) (γ:SmG) (i:Nat):Value:=
 (#[.pointer (some ⟨A,6,none⟩),fa,.int .i64 (k:Int),.pointer (some ⟨ga,oa + k * 9,none⟩),.agg (fdA f),.pointer (some ⟨A + 1,6,none⟩),fb,.int .i64 (k:Int),.pointer (some ⟨gb,ob + k * 9,none⟩),.agg (fdA f),.pointer (some ⟨γ.b1,0,none⟩),.pointer (some ⟨γ.b2,0,none⟩),undef,undef]:Array Value).getD i undef
def SmP (A ga oa gb ob k:Nat) (fa fb:Value) (f:Fd) (γ:SmG) (_x:Array Bool) (i:Nat) (v:Value) (_z:World):Prop:=v=smV A ga oa gb ob k fa fb f γ i
theorem smV_x {A ga oa gb ob k:Nat} {fa fb:Value} {f:Fd} {γ:SmG} {b:Nat} {j:Nat} (h:j ≠ 10):smV A ga oa gb ob k fa fb f γ j=smV A ga oa gb ob k fa fb f ⟨b,γ.b2⟩ j:=by
 unfold smV
 match j,h with
 | 0,_=>rfl
 | 1,_=>rfl
 | 2,_=>rfl
 | 3,_=>rfl
 | 4,_=>rfl
 | 5,_=>rfl
 | 6,_=>rfl
 | 7,_=>rfl
 | 8,_=>rfl
 | 9,_=>rfl
 | 10,h=>exact absurd rfl h
 | 11,_=>rfl
 | 12,_=>rfl
 | 13,_=>rfl
 | (n + 14),_=>rfl
theorem smV_y {A ga oa gb ob k:Nat} {fa fb:Value} {f:Fd} {γ:SmG} {b:Nat} {j:Nat} (h:j ≠ 11):smV A ga oa gb ob k fa fb f γ j=smV A ga oa gb ob k fa fb f ⟨γ.b1,b⟩ j:=by
 unfold smV
 match j,h with
 | 0,_=>rfl
 | 1,_=>rfl
 | 2,_=>rfl
 | 3,_=>rfl
 | 4,_=>rfl
 | 5,_=>rfl
 | 6,_=>rfl
 | 7,_=>rfl
 | 8,_=>rfl
 | 9,_=>rfl
 | 10,_=>rfl
 | 11,h=>exact absurd rfl h
 | 12,_=>rfl
 | 13,_=>rfl
 | (n + 14),_=>rfl
theorem gD_q {x:Array Bool} {j:Nat} (h:x[j]?.getD false=true):x.getD j false=true:=by rw [Array.getD_eq_getD_getElem?]; exact h
theorem FldsIn.nine {x:World} {g o:Nat} {fs:List Fd} (h:FldsIn x g o fs) {k:Nat} (hk:k < fs.length) (i:Nat) (v:Value) (hv:(fdC fs[k])[i]?=some v):x.cell? ⟨g,o + k * 9 + i,none⟩=some v:=by
 rw [Nat.mul_comm k 9]; exact h k hk i v hv
abbrev Dn10:=Dv × Value × Value
def dvCs (ps:List Dn10):List Value:=ps.flatMap fun p=>(dvB p.1 p.2.1 p.2.2).toList
theorem dvCs_snoc (ps:List Dn10) (p:Dn10):dvCs (ps ++ [p])=dvCs ps ++ (dvB p.1 p.2.1 p.2.2).toList:=by
 unfold dvCs;rw [List.flatMap_append];simp only [List.flatMap_cons,List.flatMap_nil,List.append_nil]
theorem dvCs_get (ps:List Dn10):∀ (j k:Nat) (hj:j < ps.length),k < 12→(dvCs ps)[12 * j + k]?=(dvB ps[j].1 ps[j].2.1 ps[j].2.2).toList[k]?:=by
 induction ps with
 | nil=>intro j k hj; cases hj
 | cons p ps ih=>
  intro j k hj hk;show ((dvB p.1 p.2.1 p.2.2).toList ++ dvCs ps)[12 * j + k]?=_
  cases j with
  | zero=>
   rw [List.getElem?_append_left (by show 12 * 0 + k < 12; omega),Nat.mul_zero,Nat.zero_add];rfl
  | succ j=>
   rw [List.getElem?_append_right (by show 12≤_; omega),show 12 * (j + 1) + k - (dvB p.1 p.2.1 p.2.2).toList.length=12 * j + k from by show 12 * (j + 1) + k - 12=_; omega];exact ih j k (by simpa using hj) hk
structure DvsG (T:TypeId) (N:Nat) (x:World) (lv:Value) (ps:List Dn10):Prop where
 own:x.ownsRow N T 12 lv ps.length (dvCs ps)
 fl:∀ p ∈ ps,FldsAt x p.2.1 p.1.fs∧BytesAt x p.2.2 p.1.rq
 sep:∀ p ∈ ps,∀ g,(p.2.1.ownBlock=some g ∨ p.2.2.ownBlock=some g)→N≤g∧lv.ownBlock ≠ some g
theorem DvsG.first (T:TypeId) (N:Nat) (x:World):DvsG T N x (.slice none 0 0) []:=⟨World.ownsRow_nil _ _ _ _,fun p h=>(by cases h),fun p h=>(by cases h)⟩
theorem DvsG.on {T:TypeId} {N:Nat} {x y:World} {lv:Value} {ps:List Dn10} (h:DvsG T N x lv ps) {gm:Nat} (hg:x.grownBy y (some gm)) (hm:gm < N):DvsG T N y lv ps:=by
 have hk:∀ k,N≤k→k < x.heap.size→y.heap[k]?=x.heap[k]?:=fun k h1 h2=>hg.block k h2 fun e=>by injection e with e; omega
 refine ⟨own_on h.own fun g e=>hk g (World.ownsRow.lt h.own g e).1 (World.ownsRow.lt h.own g e).2,fun p hp=>⟨(h.fl p hp).1.on fun g e=>hk g (h.sep p hp g (.inl e)).1 ((h.fl p hp).1.lt g e),(h.fl p hp).2.on fun g e=>hk g (h.sep p hp g (.inr e)).1 ((h.fl p hp).2.lt g e)⟩,h.sep⟩
theorem DvsG.push {T:TypeId} {N:Nat} {x y:World} {lv:Value} {ps:List Dn10} (h:DvsG T N x lv ps) {d:Dv} {fv qv:Value} (hf:FldsAt x fv d.fs) (hq:BytesAt x qv d.rq)
 (hs:∀ g,(fv.ownBlock=some g ∨ qv.ownBlock=some g)→N≤g∧lv.ownBlock ≠ some g) {g cap:Nat}
 (ho:y.ownsRow N T 12 (.slice (some ⟨g,0,none⟩) (ps.length + 1) cap) (ps.length + 1) (dvCs ps ++ (dvB d fv qv).toList)) (hg:x.grownBy y lv.ownBlock) (hn:lv.ownBlock=some g ∨ g=x.heap.size) :
 DvsG T N y (.slice (some ⟨g,0,none⟩) (ps.length + 1) cap) (ps ++ [(d,fv,qv)]):=by
 have all:∀ p ∈ ps ++ [(d,fv,qv)],(FldsAt x p.2.1 p.1.fs∧BytesAt x p.2.2 p.1.rq)∧∀ g,(p.2.1.ownBlock=some g ∨ p.2.2.ownBlock=some g)→N≤g∧lv.ownBlock ≠ some g:=by
  intro p hp;rcases List.mem_append.1 hp with hp | hp
  · exact ⟨h.fl p hp,h.sep p hp⟩
  · rw [List.mem_singleton.1 hp]; exact ⟨⟨hf,hq⟩,hs⟩
 have hk:∀ p ∈ ps ++ [(d,fv,qv)],∀ k,(p.2.1.ownBlock=some k ∨ p.2.2.ownBlock=some k)→k < x.heap.size:=fun p hp k e=>by
  rcases e with e | e
  · exact (all p hp).1.1.lt k e
  · exact (all p hp).1.2.lt k e
 have hb:∀ p ∈ ps ++ [(d,fv,qv)],∀ k,(p.2.1.ownBlock=some k ∨ p.2.2.ownBlock=some k)→y.heap[k]?=x.heap[k]?:=fun p hp k e=>
  hg.block k (hk p hp k e) fun e'=>((all p hp).2 k e).2 e'.symm
 refine ⟨by rw [dvCs_snoc,List.length_append]; exact ho,fun p hp=>⟨(all p hp).1.1.on fun k e=>hb p hp k (.inl e),(all p hp).1.2.on fun k e=>hb p hp k (.inr e)⟩,fun p hp k e=>⟨((all p hp).2 k e).1,fun e'=>?_⟩⟩;have e2:g=k:=by injection e'
 rcases hn with hn | hn
 · exact ((all p hp).2 k e).2 (by rw [hn,e2])
 · have:=hk p hp k e;omega
theorem DvsG.below {T:TypeId} {N:Nat} {x y:World} {lv:Value} {ps:List Dn10} (h:DvsG T N x lv ps) (hb:Below x.heap.size x y):DvsG T N y lv ps:=by
 exact ⟨own_below h.own hb,fun p hp=>⟨(h.fl p hp).1.below hb,(h.fl p hp).2.below hb⟩,h.sep⟩
structure DvsAt (T:TypeId) (x:World) (lv:Value) (ps:List Dn10):Prop where
 own:∃ N,x.ownsRow N T 12 lv ps.length (dvCs ps)
 fl:∀ p ∈ ps,FldsAt x p.2.1 p.1.fs∧BytesAt x p.2.2 p.1.rq
theorem DvsG.at {T:TypeId} {N:Nat} {x:World} {lv:Value} {ps:List Dn10} (h:DvsG T N x lv ps):DvsAt T x lv ps:=⟨⟨N,h.own⟩,h.fl⟩
theorem DvsAt.below {T:TypeId} {x y:World} {lv:Value} {ps:List Dn10} (h:DvsAt T x lv ps) (hb:Below x.heap.size x y):DvsAt T y lv ps:=by
 obtain ⟨N,ho⟩:=h.own;exact ⟨⟨N,own_below ho hb⟩,fun p hp=>⟨(h.fl p hp).1.below hb,(h.fl p hp).2.below hb⟩⟩
theorem DvsAt.nil (T:TypeId) (x:World):DvsAt T x (.slice none 0 0) []:=⟨⟨0,World.ownsRow_nil _ _ _ _⟩,fun p h=>(by cases h)⟩
def LinesQ (t:TypeId) (w:World) (T:List Dv × Int × Nat) (e:Ending) (y:World):Prop:=
 ∃ lv ps,e=.returned (.tuple #[lv,.int .i64 T.2.1,.int .i64 ((T.2.2:Nat):Int)])∧ps.map (·.1)=T.1∧DvsAt t y lv ps∧Below w.heap.size w y
structure BkL (N:Nat) (x:World) (vo:Value) (us:List Value) (cs:List (List Rn)):Prop where
 len:us.length=cs.length
 ro:x.ownsRow N 55 1 vo us.length us
 inn:∀ i (h:i < us.length) (h':i < cs.length),x.ownsRow N 56 2 us[i] cs[i].length (rnC cs[i])
 wo:∀ c ∈ cs,∀ f ∈ c,WcAt N x f.2 f.1.2
theorem BkSt.l {w x:World} {vo:Value} {us:List Value} {cs:List (List Rn)} (h:BkSt w x vo us cs):BkL w.heap.size x vo us cs:=⟨h.len,h.ro,h.inn,h.wo⟩
theorem BkL.on {N:Nat} {x y:World} {vo:Value} {us:List Value} {cs:List (List Rn)} (h:BkL N x vo us cs) {gm:Nat} (hg:x.grownBy y (some gm)) (hm:gm < N):BkL N y vo us cs:=by
 have hk:∀ k,N≤k→k < x.heap.size→y.heap[k]?=x.heap[k]?:=fun k h1 h2=>hg.block k h2 fun e=>by injection e with e; omega
 have ok:∀ {b:Nat} {T:TypeId} {s:Nat} {v:Value} {n:Nat} {xs:List Value},N≤b→x.ownsRow b T s v n xs→y.ownsRow b T s v n xs:=fun hb h=>own_on h fun g e=>hk g (Nat.le_trans hb (World.ownsRow.lt h g e).1) (World.ownsRow.lt h g e).2
 exact ⟨h.len,ok (Nat.le_refl _) h.ro,fun i h1 h2=>ok (Nat.le_refl _) (h.inn i h1 h2),fun c hc f hf=>(h.wo c hc f hf).imp id (ok (Nat.le_refl _))⟩
theorem BkL.kept {N b:Nat} {x y:World} {vo v':Value} {us:List Value} {cs:List (List Rn)} {n:Nat} {xs:List Value} (h:BkL N x vo us cs) (h':x.ownsRow b 33 12 v' n xs) (hg:x.grownBy y v'.ownBlock):BkL N y vo us cs:=
 ⟨h.len,World.ownsRow.kept h.ro hg (own_apart h.ro h' (by decide)),fun i h1 h2=>World.ownsRow.kept (h.inn i h1 h2) hg (own_apart (h.inn i h1 h2) h' (by decide)),fun c hc f hf=>(h.wo c hc f hf).kept h' (by decide) hg⟩
theorem BkL.form {N:Nat} {x:World} {vo:Value} {us:List Value} {cs:List (List Rn)} (h:BkL N x vo us cs):∃ p cap,vo=.slice p us.length cap:=by
 rcases own_slice h.ro with ⟨e,hn⟩ | ⟨g,cap,e,_⟩
 · exact ⟨_,_,by rw [e,hn]⟩
 · exact ⟨_,_,e⟩
theorem BkL.at {N:Nat} {x:World} {p:Option Addr} {n cap:Nat} {us:List Value} {cs:List (List Rn)} (h:BkL N x (.slice p n cap) us cs) (hn:us.length=n) {i:Nat} (hi:i < us.length) (hi':i < cs.length) :
 ∃ go,p=some ⟨go,0,none⟩∧n≤cap∧x.cell? ⟨go,i,none⟩=some us[i]∧RowsC x.heap.size x us[i] (cs[i].map (·.1)):=by
 have ho:=h.ro;rcases own_slice ho with ⟨e,hz⟩ | ⟨go,c2,e,_,hl⟩
 · omega
 · injection e with e1 e2 e3
   subst e1 e3;refine ⟨go,rfl,own_room ho _ _ _ rfl,?_,?_⟩
   · rw [← hn] at ho;rw [World.ownsRow.cellAt ho i (by omega)];exact List.getElem?_eq_getElem hi
   · have hr:=h.inn i hi hi';rcases own_slice hr with ⟨e,hz⟩ | ⟨gi,ci,e,_,hl⟩
     · left
       exact ⟨e,by rw [List.length_eq_zero_iff.1 hz]; rfl⟩
     · right
       refine ⟨gi,0,ci,by rw [List.length_map]; exact e,fun j hj=>?_,hl⟩;have hj':j < cs[i].length:=by simpa using hj
       rw [e] at hr;have c0:=World.ownsRow.cellAt hr (2 * j) (by omega);have c1:=World.ownsRow.cellAt hr (2 * j + 1) (by omega);have hw:=(h.wo _ (List.getElem_mem hi') _ (List.getElem_mem hj')).wds;obtain ⟨g0,g1⟩:=rnC_get hj';refine ⟨?_,(cs[i][j]).2,?_,?_⟩
       · rw [Nat.zero_add,c0]
         simpa using g0
       · rw [Nat.zero_add,c1]
         simpa using g1
       · simpa using hw
theorem RowsC.mono {L0 L1:Nat} {x:World} {v:Value} {rs:List Lr} (h:RowsC L0 x v rs) (hl:L0≤L1):RowsC L1 x v rs:=by
 rcases h with h | ⟨g,o,cap,h1,h2,h3⟩
 · exact .inl h
 · refine .inr ⟨g,o,cap,h1,fun j hj=>?_,Nat.lt_of_lt_of_le h3 hl⟩;obtain ⟨q0,u,q1,q2⟩:=h2 j hj;refine ⟨q0,u,q1,?_⟩;rcases q2 with q | ⟨g,o,cap,q1,q2,q3,q4⟩
   · exact .inl q
   · exact .inr ⟨g,o,cap,q1,q2,q3,Nat.lt_of_lt_of_le q4 hl⟩
theorem RowsC.cons {L0:Nat} {x:World} {v:Value} {b:List Lr} (h:RowsC L0 x v b) (hb:b ≠ []):∃ g o cap,v=.slice (some ⟨g,o,none⟩) b.length cap∧x.cell? ⟨g,o,none⟩=some (.int .i64 (b.headD (0,[])).1):=by
 rcases h with ⟨_,h⟩ | ⟨g,o,cap,h1,h2,h3⟩
 · exact absurd h hb
 · cases b with
   | nil=>exact absurd rfl hb
   | cons r rs=>exact ⟨g,o,cap,h1,(h2 0 (by simp)).1⟩
theorem place_any (n:Int) (b:List Lr) (hb:b ≠ []) (v:Value) (w:World) (L0:Nat) (hv:RowsC L0 w v b) :
 Calls Tryz.prog 41 #[.int .i64 n,v] w fun e y=>e=.returned (.int .i64 (if n=0 then (b.headD (0,[])).1 else n))∧y=w:=by
 obtain ⟨g,o,cap,rfl,c0⟩:=hv.cons hb;have hl:0 < b.length:=List.length_pos_iff.2 hb;have hli:(0:Int) < (b.length:Int):=by omega
 clear hv;generalize (b.headD (0,[])).1=ln at *;generalize b.length=m at *
 by_cases h0:n=0
 · subst h0;rw [if_pos rfl]
   go_enter Tryz.func41,Tryz.ntmps41
   go_wp2;go_ret;exact ⟨rfl,rfl⟩
 · rw [if_neg h0];have t0:(n == 0)=false:=beq_eq_false_iff_ne.2 h0;have t1:(n != 0)=true:=by rw [bne,t0]; rfl
   go_enter Tryz.func41,Tryz.ntmps41
   go_wp2;go_ret;exact ⟨rfl,rfl⟩
theorem info_dev:(Tryz.prog.info? 33).map (fun i=>(i.zero,i.size,i.bytes))=some (some (.agg dz),12,144):=by kernel_rfl
theorem blk_of {rs:List Lr} {cs:List (List Rn)} (h:BkR rs (outR cs)):blkF rs=outR cs:=by
 have:=blkF_uniq (outR cs) h.ne h.tl h.hd
 rwa [h.flat] at this
theorem cells_new10 (w:World) (vs:Array Value) (T:TypeId):∀ j u,vs.toList[j]?=some u→(w.alloc (.cells vs T)).cell? ((⟨w.heap.size,0,none⟩:Addr).add j)=some u:=by
 intro j u hu;rw [Array.getElem?_toList] at hu;have ea:(⟨w.heap.size,0,none⟩:Addr).add j=⟨w.heap.size,j,none⟩:=by unfold Addr.add; split <;> simp_all
 rw [ea,(rd_cell (World.alloc_heap_new w (.cells vs T)) j).1,hu]
theorem one_dev (d:Dv) {fv qv:Value} (hf:fv.oneCell'=true) (hq:qv.oneCell'=true):∀ u ∈ (dvB d fv qv).toList,u.oneCell'=true:=by
 intro u hu;simp only [List.mem_cons,List.not_mem_nil,or_false] at hu;rcases hu with rfl | rfl | rfl | rfl | rfl | rfl | rfl | rfl | rfl | rfl | rfl | rfl <;> first | rfl | assumption
def RdC10 (bs:List (List Lr)):Prop:=∀ b ∈ bs,∀ (v:Value) (x:World),RowsC x.heap.size x v b→Calls Tryz.prog 40 #[v] x (ReadQ x (readM b))
def TkC10 (gm:Nat):Prop:=∀ (d:Dv) (fv qv:Value) (w:World) (ns:List Wd),DvI d→(∃ p c,qv=.slice p d.rq.length c)→FldsV w fv d.fs→NmAt w gm ns→Calls Tryz.prog 34 #[.map (some gm),dvV d fv qv] w (TkQ w gm ns d)
def PlC10:Prop:=∀ (n:Int) (b:List Lr),b ≠ []→∀ (v:Value) (w:World) (L0:Nat),RowsC L0 w v b→Calls Tryz.prog 41 #[.int .i64 n,v] w fun e y=>e=.returned (.int .i64 (if n=0 then (b.headD (0,[])).1 else n))∧y=w
structure LsSt (w:World) (N N0 gm n:Nat) (p:Option Addr) (cap:Nat) (us:List Value) (cs:List (List Rn)) (T:List Dv × Int × Nat) (x:World) (lv:Value) (ps:List Dn10) (k:Nat):Prop where
 dg:DvsG 33 N x lv ps
 bl:BkL N0 x (.slice p n cap) us cs
 nm:NmAt x gm (namesD (ps.map (·.1)))
 b:Below w.heap.size w x
 sz:N≤x.heap.size
 lf:devsM (ps.map (·.1)) ((outR cs).drop k)=T
 ln:ps.length=k
structure LsN (w:World) (N N0 gm:Nat):Prop where
 g0:w.heap.size≤gm
 g1:gm < N0
 g2:N0≤N
theorem LsSt.bad {w:World} {N N0 gm n:Nat} {p:Option Addr} {cap:Nat} {us:List Value} {cs:List (List Rn)} {T:List Dv × Int × Nat} {x:World} {lv:Value} {ps:List Dn10} {k:Nat} (h:LsSt w N N0 gm n p cap us cs T x lv ps k)
 {b:List Lr} {rest:List (List Lr)} (hb:(outR cs).drop k=b :: rest) {E:Nat} {P:Int} (he:blkE (namesD (ps.map (·.1))) b=E) (h0:¬ E=0) (hp:blkP b=P) {y:World} (hy:Below w.heap.size w y) :
 LinesQ 33 w T (.returned (.tuple #[.slice none 0 0,.int .i64 P,.int .i64 (E:Int)])) y:=by
 have e:=h.lf;rw [hb,devs_bad (by rw [he]; exact h0),he,hp] at e;subst e;exact ⟨_,[],rfl,rfl,DvsAt.nil _ _,hy⟩
theorem LsSt.next {w:World} {N N0 gm n:Nat} {p:Option Addr} {cap:Nat} {us:List Value} {cs:List (List Rn)} {T:List Dv × Int × Nat} {x0:World} {lv0:Value} {ps:List Dn10} {k:Nat} (h:LsSt w N N0 gm n p cap us cs T x0 lv0 ps k)
 {b:List Lr} {rest:List (List Lr)} (hb:(outR cs).drop k=b :: rest) (x:World) (lv fv qv:Value) (he:blkE (namesD (ps.map (·.1))) b=0) (dg:DvsG 33 N x lv (ps ++ [((readM b).1,fv,qv)])) (bl:BkL N0 x (.slice p n cap) us cs)
 (nm:NmAt x gm (namesD (ps.map (·.1)) ++ [(readM b).1.nm])) (b':Below w.heap.size w x) (sz:N≤x.heap.size):LsSt w N N0 gm n p cap us cs T x lv (ps ++ [((readM b).1,fv,qv)]) (k + 1):=by
 have e:=h.lf;rw [hb,devs_ok he] at e;have hr:(outR cs).drop (k + 1)=rest:=by rw [← List.drop_drop,hb]; rfl
 exact ⟨dg,bl,by rw [List.map_append]; unfold namesD at nm ⊢; rw [List.map_append]; exact nm,b',sz,by rw [hr,List.map_append]; exact e,by rw [List.length_append,h.ln]; rfl⟩
theorem lines_any (v:Value) (w:World) (rs:List Lr) (hv:RowsC w.heap.size w v rs) (hn:(rs.length:Int)≤4500) (hwl:∀ r ∈ rs,(r.2.length:Int)≤4500) (hz:∀ r ∈ rs,∀ z ∈ r.2,(z.length:Int)≤5000) :
 Calls Tryz.prog 20 #[v] w (LinesQ 33 w (linesM rs)):=by
 obtain ⟨i0,hi0,hz0,hz1,hz2⟩:=info_parts info_dev;have hmm:=@run_makeMap Tryz.prog;have B1:Below w.heap.size w (w.alloc (.map #[] 0)):=(Below.refl _ _).alloc (Nat.le_refl _) _;have hv1:=(hv.below B1).mono (show w.heap.size≤(w.alloc (.map #[] 0)).heap.size by rw [World.size_alloc]; omega);have bk:Hid (Calls Tryz.prog 39 #[v] (w.alloc (.map #[] 0)) fun e y=>∃ v' us cs,e=.returned v'∧BkSt (w.alloc (.map #[] 0)) y v' us cs∧BkRW rs cs):=blocks_any v _ rs hv1 hn hwl;have N1:Hid (NmAt (w.alloc (.map #[] 0)) w.heap.size []):=⟨_,_,World.alloc_heap_new w _,NmOk.first⟩;have S1:(w.alloc (.map #[] 0)).heap.size=w.heap.size + 1:=World.size_alloc _ _;have rd:Hid (∀ cs,BkR rs (outR cs)→RdC10 (outR cs)):=by
  intro cs hc b hb x z hx;have hs:∀ r ∈ b,r ∈ rs:=fun r hr=>by rw [← hc.flat]; exact List.mem_flatten.2 ⟨b,hb,hr⟩
  obtain ⟨f,hf,rfl⟩:=List.mem_map.1 hb;have hl:=(BkR.cnt hc).2 f hf;exact dread_any _ x z hx (by rw [List.length_map]; omega) (fun r hr=>hwl r (hs r hr)) (fun r hr=>hz r (hs r hr))
 have tk:Hid (∀ gm,TkC10 gm):=fun gm d fv qv w ns h1 h2 h3 h4=>ntake_any d fv qv w gm ns h1 h2 h3 h4
 have pl:Hid PlC10:=fun n b hb v w L0 h=>place_any n b hb v w L0 h
 obtain ⟨T,hT⟩:∃ T,linesM rs=T:=⟨_,rfl⟩;rw [hT];have L0:Hid (∀ cs,BkR rs (outR cs)→devsM [] (outR cs)=T):=by
  intro cs hc;rw [← hT];unfold linesM;rw [blk_of hc]
 have hcn:Hid (∀ cs,BkR rs (outR cs)→(cs.length:Int)≤4500):=fun cs hc=>by have:=(BkR.cnt hc).1; omega
 obtain ⟨pv,cv,rfl⟩:=hv.form;generalize rs.length=nv at *;clear hT hv hv1 hwl hz hn
 go_enter Tryz.func20,Tryz.ntmps20
 go_upto_region 3 with fail
 change Code.wp Tryz.prog _ _ _ (w.alloc (.map #[] 0));generalize w.alloc (.map #[] 0)=w1 at *
 go_wp2_with fail
 refine bk.out.mono ?_;rintro e y ⟨v',us,cs,rfl,st,brw⟩;obtain ⟨p,cap,rfl⟩:=st.l.form;have L1:=L0.out cs brw.r;have R1:Hid (RdC10 (outR cs)):=rd.out cs brw.r;have hc1:Hid ((cs.length:Int)≤4500):=hcn.out cs brw.r;have hne:Hid (∀ b ∈ outR cs,b ≠ []):=brw.r.ne;obtain ⟨n,hn⟩:∃ n,us.length=n:=⟨_,rfl⟩;have NN:Hid (LsN w y.heap.size w1.heap.size w.heap.size):=⟨Nat.le_refl _,by omega,st.b.size⟩;have ST:Hid (LsSt w y.heap.size w1.heap.size w.heap.size n p cap us cs T y (.slice none 0 0) [] 0):=⟨DvsG.first _ _ _,by rw [← hn]; exact st.l,N1.out.below st.b,B1.trans (st.b.mono B1.size),Nat.le_refl _,L1,rfl⟩;have hnc:Hid (cs.length=n):=by have:=st.len; unfold Hid; omega
 have hn45:(n:Int)≤4500:=by have:=hc1.out; have:=hnc.out; omega
 rw [hn];replace hn:Hid (us.length=n):=hn;clear st brw bk N1 S1 B1 L0 hcn L1 rd hc1;generalize y.heap.size=N at *;generalize w1.heap.size=N0 at *;generalize hgm:w.heap.size=gm at *;clear hgm
 go_wp2_with fail
 go_loopw [5,16] (fun vl vk wr=>∃ (k:Nat) (ps:List Dn10),(k:Int)≤(n:Int)∧vk=.int .i64 (k:Int)∧Hid (LsSt w N N0 gm n p cap us cs T wr vl ps k)) (fun vl vk wr=>n - (intOf vk).toNat)
 case atStart=>exact ⟨0,[],by omega,rfl,ST⟩
 case round=>
  obtain ⟨k,ps,hk,rfl,st⟩:=hrel;clear ST
  by_cases hlt:k < n
  · have hki:(k:Int) < (n:Int):=by omega
    have hkc:k < cs.length:=by have:=hnc.out; omega
    have hku:k < us.length:=by have:=hn.out; omega
    obtain ⟨go,rfl,hcap,ck,hr⟩:=st.out.bl.at hn.out hku hkc;have hob:(outR cs)[k]?=some (cs[k].map (·.1)):=by unfold outR; rw [List.getElem?_map,List.getElem?_eq_getElem hkc]; rfl
    have hdr:(outR cs).drop k=cs[k].map (·.1) :: (outR cs).drop (k + 1):=by
     have h2:=(List.getElem?_eq_some_iff.1 hob).1;rw [List.drop_eq_getElem_cons h2,(List.getElem?_eq_some_iff.1 hob).2]
    have hmem:=List.mem_of_getElem? hob;have hb0:=hne.out _ hmem;have rdk:=R1.out _ hmem;have plk:Hid (∀ m x,BkL N0 x (.slice (some ⟨go,0,none⟩) n cap) us cs→Calls Tryz.prog 41 #[.int .i64 m,us[k]] x fun e y=>e=.returned (.int .i64 (if m=0 then ((cs[k].map (·.1)).headD (0,[])).1 else m))∧y=x):=fun m x h=>by
     obtain ⟨_,_,_,_,hr⟩:=h.at hn.out hku hkc;exact place_any m _ hb0 _ x _ hr
    generalize hbk:cs[k].map (·.1)=b at *;generalize us[k]=ub at *;clear hbk hmem hob;obtain ⟨gi,oi,ci,rfl,_⟩:=hr.cons hb0;have rdc:=rdk _ _ hr;replace rdc:Hid (Calls Tryz.prog 40 #[.slice (some ⟨gi,oi,none⟩) b.length ci] wr (ReadQ wr (readM b))):=rdc;have hbE:Hid (∀ ns,blkE ns b=if (readM b).2.2=0 then tkE ns (readM b).1 else (readM b).2.2):=fun ns=>rfl
    have hbP:Hid (blkP b=if (readM b).2.1=0 then (b.headD (0,[])).1 else (readM b).2.1):=rfl;have hSB:Hid (∀ (E:Nat) (P:Int) (y:World),blkE (namesD (ps.map (·.1))) b=E→¬ E=0→blkP b=P→Below w.heap.size w y→LinesQ 33 w T (.returned (.tuple #[.slice none 0 0,.int .i64 P,.int .i64 (E:Int)])) y):=fun E P y h1 h2 h3 h4=>st.out.bad hdr h1 h2 h3 h4
    have hSG:Hid (∀ (x:World) (lv fv qv:Value),blkE (namesD (ps.map (·.1))) b=0→DvsG 33 N x lv (ps ++ [((readM b).1,fv,qv)])→BkL N0 x (.slice (some ⟨go,0,none⟩) n cap) us cs→NmAt x gm (namesD (ps.map (·.1)) ++ [(readM b).1.nm])→Below w.heap.size w x→N≤x.heap.size→LsSt w N N0 gm n (some ⟨go,0,none⟩) cap us cs T x lv (ps ++ [((readM b).1,fv,qv)]) (k + 1)):=fun x lv fv qv h1 h2 h3 h4 h5 h6=>st.out.next hdr x lv fv qv h1 h2 h3 h4 h5 h6
    have hj:=read_j b;have hfs:=read_fs b;generalize readM b=RR at *;obtain ⟨d,lr,en⟩:=RR;simp only at hbE hbP hj hfs hSG;have hdi:=hj.i hfs;have N0':Hid (N≤wr.heap.size):=st.out.sz;have NM:Hid (NmAt wr gm (namesD (ps.map (·.1)))):=st.out.nm;have DG:Hid (DvsG 33 N wr u5 ps):=st.out.dg;have hlen:Hid (ps.length=k):=st.out.ln;have BW:Hid (Below w.heap.size w wr):=st.out.b;have gwr:=NM.out.lt;have BL:Hid (BkL N0 wr (.slice (some ⟨go,0,none⟩) n cap) us cs):=st.out.bl;obtain ⟨hd,hhd⟩:∃ hd,(b.headD (0,[])).1=hd:=⟨_,rfl⟩;rw [hhd] at hbP plk;generalize b.length=bn at *;generalize hns:namesD (ps.map (·.1))=ns at *;clear hns hr hhd st hdr hb0 rdk hj hfs hkc hku
    go_upto_region 6 with fail
    go_wp2_with fail
    refine rdc.out.mono ?_;rintro e z ⟨fv,qv,rfl,hf,hq,hb,fN,qN⟩;have hfv:=hf.v;have hqf:=bytes_form hq;have bz:Below z.heap.size z (z.alloc (.cells (dvB d fv qv) 33)):=(Below.refl _ _).alloc (Nat.le_refl _) _;have NZ:Hid (NmAt (z.alloc (.cells (dvB d fv qv) 33)) gm ns):=(NM.out.below hb).below bz;have tkc:Hid (Calls Tryz.prog 34 #[.map (some gm),dvV d fv qv] (z.alloc (.cells (dvB d fv qv) 33)) (TkQ (z.alloc (.cells (dvB d fv qv) 33)) gm ns d)):=tk.out gm d fv qv _ ns hdi hqf (hfv.below bz) NZ.out;have DZ:Hid ((z.alloc (.cells (dvB d fv qv) 33)).heap[z.heap.size]?=some (.cells (dvB d fv qv) 33 (0,0))):=World.alloc_heap_new z _;have BZ:Hid (Below wr.heap.size wr (z.alloc (.cells (dvB d fv qv) 33))):=hb.trans (bz.mono hb.size);have fz:Hid (FldsAt (z.alloc (.cells (dvB d fv qv) 33)) fv d.fs):=hf.below bz;have qz:Hid (BytesAt (z.alloc (.cells (dvB d fv qv) 33)) qv d.rq):=hq.below bz;have zl:wr.heap.size≤z.heap.size:=hb.size;obtain ⟨pf,nf,cf,rfl⟩:=hf.form;obtain ⟨pq,nq,cq,rfl⟩:=hq.form';replace fN:Hid (∀ g,(Value.slice pf nf cf).ownBlock=some g→wr.heap.size≤g):=fN;replace qN:Hid (∀ g,(Value.slice pq nq cq).ownBlock=some g→wr.heap.size≤g):=qN;clear hfv hqf bz hf hq hb NM tk
    by_cases he:en=0
    · subst he
      go_wp2_with fail
      change Calls Tryz.prog _ _ (z.alloc (.cells (dvB d (.slice pf nf cf) (.slice pq nq cq)) 33)) _;have Z1:(z.alloc (.cells (dvB d (.slice pf nf cf) (.slice pq nq cq)) 33)).heap.size=z.heap.size + 1:=World.size_alloc _ _;generalize z.alloc (.cells (dvB d (.slice pf nf cf) (.slice pq nq cq)) 33)=z1 at *;refine tkc.out.mono ?_;rintro e y ⟨rfl,gr,ok,no⟩;have hbE0:Hid (blkE ns b=tkE ns d):=by unfold Hid; rw [hbE.out]; simp
      have BLy:Hid (BkL N0 y (.slice (some ⟨go,0,none⟩) n cap) us cs):=(BL.out.on (grown_below BZ.out _) NN.out.g1).on gr NN.out.g1;have BWy:Hid (Below w.heap.size w y):=(BW.out.trans (BZ.out.mono BW.out.size)).grown gr (by have:=BW.out.size; omega) (fun k e=>by injection e with e; have:=NN.out.g0; omega);have gmN:gm < N:=by have:=NN.out.g1; have:=NN.out.g2; omega
      have DGy:Hid (DvsG 33 N y u5 ps):=(DG.out.on (grown_below BZ.out _) gmN).on gr gmN;have fy:Hid (FldsAt y (.slice pf nf cf) d.fs):=fz.out.on fun g e=>gr.block g (fz.out.lt g e) fun e'=>by injection e' with e'; have:=fN.out g e; omega
      have qy:Hid (BytesAt y (.slice pq nq cq) d.rq):=qz.out.on fun g e=>gr.block g (qz.out.lt g e) fun e'=>by injection e' with e'; have:=qN.out g e; omega
      have DY:Hid (y.heap[z.heap.size]?=some (.cells (dvB d (.slice pf nf cf) (.slice pq nq cq)) 33 (0,0))):=(gr.block _ (by omega) fun e'=>by injection e' with e'; omega).trans DZ.out;have ysz:=gr.size;replace ok:Hid (tkE ns d=0→NmAt y gm (ns ++ [d.nm])):=ok;have DGw:=DG;clear no tkc BZ fz qz DZ NZ BL BW rdc hbE DG;generalize hE:tkE ns d=E at *
      by_cases hE0:E=0
      · subst hE0;have by4:Below y.heap.size y (y.alloc (.cells (dvB d (.slice pf nf cf) (.slice pq nq cq)) 33)):=(Below.refl _ _).alloc (Nat.le_refl _) _;have DG4:=DGy.out.on (grown_below by4 _) gmN;have BL4:=BLy.out.on (grown_below by4 _) NN.out.g1;have f4:=fy.out.below by4;have q4:=qy.out.below by4;have N4:=(ok.out rfl).below by4;have B4:=BWy.out.trans (by4.mono BWy.out.size);have u5l:∀ g,u5.ownBlock=some g→N≤g∧g < wr.heap.size:=fun g e=>⟨(World.ownsRow.lt DGw.out.own g e).1,(World.ownsRow.lt DGw.out.own g e).2⟩
        have own4:Hid ((y.alloc (.cells (dvB d (.slice pf nf cf) (.slice pq nq cq)) 33)).ownsRow N 33 12 u5 k (dvCs ps)):=by have h:=DG4.own; rwa [hlen.out] at h
        have fin:Hid (∀ (g cp:Nat) (yq:World),yq.ownsRow N 33 12 (.slice (some ⟨g,0,none⟩) (k + 1) cp) (k + 1) (dvCs ps ++ (dvB d (.slice pf nf cf) (.slice pq nq cq)).toList)→(y.alloc (.cells (dvB d (.slice pf nf cf) (.slice pq nq cq)) 33)).grownBy yq u5.ownBlock→(u5.ownBlock=some g ∨ g=(y.alloc (.cells (dvB d (.slice pf nf cf) (.slice pq nq cq)) 33)).heap.size) →
         LsSt w N N0 gm n (some ⟨go,0,none⟩) cap us cs T yq (.slice (some ⟨g,0,none⟩) (k + 1) cp) (ps ++ [(d,.slice pf nf cf,.slice pq nq cq)]) (k + 1)):=by
         intro g cp yq h1 h2 h3;have h1':=h1;rw [← hlen.out] at h1;have P4:=DG4.push f4 q4 (fun g e=>by
          have:wr.heap.size≤g:=by
           rcases e with e | e
           · exact fN.out g e
           · exact qN.out g e
          have:=N0'.out;exact ⟨by omega,fun e'=>by have:=(u5l g e').2; omega⟩) h1 h2 h3
         rw [hlen.out] at P4;have hsz:=h2.size;have b4:=by4.size;have h0':=N0'.out;exact hSG.out yq _ _ _ hbE0.out P4 (BL4.kept DG4.own h2) (N4.kept (h2.block _ N4.lt fun e=>by have:=(u5l _ e.symm).1; omega)) (B4.grown h2 B4.size (fun k e=>by have:=(u5l k e).1; have:=NN.out.g0; omega)) (by omega)
        have hone:=one_dev d (fv:=.slice pf nf cf) (qv:=.slice pq nq cq) rfl rfl;have hcn:=cells_new10 y (dvB d (.slice pf nf cf) (.slice pq nq cq)) 33;have h63:k + 1≤maxLen:=by unfold maxLen; omega
        have hby:(k + 1) * 144≤140737488355328:=by omega
        have hbs:Hid (N≤y.heap.size):=by have:=N0'.out; unfold Hid; omega
        obtain ⟨x0,w0,x1,w1,x2,w2,x3,w3,x4,w4,x5,w5,x6,w6,x7,w7,x8,w8,x9,w9,x10,w10,x11,w11⟩:=rd12 DY.out;have wk:IntKind.i64.wrap ((k:Int) + 1)=(k:Int) + 1:=by simp only [IntKind.wrap_i64]; omega
        clear plk hSB hSG BLy BWy DGy fy qy DY ok hbP hbE0 hE ck by4 DG4 BL4 f4 q4 N4 B4 u5l hlen DGw Z1 ysz gr
        go_upto_region 12 with (at_builtin; refine wpList_append_lies _ rfl _ _ 47 rfl N 33 i0 (.agg dz) 12 144 Tryz.underlying47 hi0 hz0 hz1 hz2 rfl (by decide) _ k (dvCs ps) rfl own4.out ⟨y.heap.size,0,none⟩ 1 1 (dvB d (.slice pf nf cf) (.slice pq nq cq)).toList rfl rfl hcn hone (by decide) h63 hby (by have:=hbs.out; rw [World.size_alloc]; omega) (y.alloc (.cells (dvB d (.slice pf nf cf) (.slice pq nq cq)) 33)).heap.size rfl ?_; intro g2 cap2 yq hO gO hat hlt2; have ST2:Hid (LsSt w N N0 gm n (some ⟨go,0,none⟩) cap us cs T yq (.slice (some ⟨g2,0,none⟩) (k + 1) cap2) (ps ++ [(d,.slice pf nf cf,.slice pq nq cq)]) (k + 1)):=fin.out g2 cap2 yq hO gO hat; clear hO gO hat hlt2)
        clear fin own4 hcn hone;go_wp2;refine ⟨⟨k + 1,_,by omega,rfl,ST2⟩,?_⟩;show n - (intOf (.int .i64 ((k:Int) + 1))).toNat < n - (intOf (.int .i64 (k:Int))).toNat;simp only [intOf];omega
      · have e0:((E:Int) == 0)=false:=beq_eq_false_iff_ne.2 (by omega);have e1:((E:Int) != 0)=true:=by rw [bne,e0]; rfl
        have pc:Hid (Calls Tryz.prog 41 #[.int .i64 lr,.slice (some ⟨gi,oi,none⟩) bn ci] y fun e x=>e=.returned (.int .i64 (if lr=0 then hd else lr))∧x=y):=plk.out lr _ BLy.out;have fin:=hSB.out E _ y hbE0.out hE0 hbP.out BWy.out;replace fin:Hid (LinesQ 33 w T (.returned (.tuple #[.slice none 0 0,.int .i64 (if lr=0 then hd else lr),.int .i64 (E:Int)])) y):=fin;clear plk hSB hSG BLy BWy DGy fy qy DY ok hbP hbE0 hE ck;generalize (if lr=0 then hd else lr)=P at *
        go_wp2_with fail
        refine pc.out.mono ?_;rintro e x ⟨rfl,rfl⟩;go_wp2
        try simp only [Exit.inBlock,Exit.then]
        refine bodyPost_ret (results_tmp3 rfl _ _ _) rfl ?_;exact fin.out
    · have e0:((en:Int) == 0)=false:=beq_eq_false_iff_ne.2 (by omega);have e1:((en:Int) != 0)=true:=by rw [bne,e0]; rfl
      have pc:Hid (Calls Tryz.prog 41 #[.int .i64 lr,.slice (some ⟨gi,oi,none⟩) bn ci] (z.alloc (.cells (dvB d (.slice pf nf cf) (.slice pq nq cq)) 33)) fun e y=>e=.returned (.int .i64 (if lr=0 then hd else lr))∧y=(z.alloc (.cells (dvB d (.slice pf nf cf) (.slice pq nq cq)) 33))):=plk.out lr _ (BL.out.on (grown_below BZ.out _) NN.out.g1);have fin:=hSB.out en _ (z.alloc (.cells (dvB d (.slice pf nf cf) (.slice pq nq cq)) 33)) (by rw [hbE.out,if_neg he]) he hbP.out (BW.out.trans (BZ.out.mono BW.out.size));replace fin:Hid (LinesQ 33 w T (.returned (.tuple #[.slice none 0 0,.int .i64 (if lr=0 then hd else lr),.int .i64 (en:Int)])) (z.alloc (.cells (dvB d (.slice pf nf cf) (.slice pq nq cq)) 33))):=fin;clear plk hSB hSG BL BW DG fz qz DZ NZ tkc hbP hbE ck BZ;generalize (if lr=0 then hd else lr)=P at *
      go_wp2_with fail
      refine pc.out.mono ?_;rintro e x ⟨rfl,rfl⟩;go_wp2
      try simp only [Exit.inBlock,Exit.then]
      refine bodyPost_ret (results_tmp3 rfl _ _ _) rfl ?_;exact fin.out
  · have hki:(k:Int)=(n:Int):=by omega
    have hT:Hid (T=(ps.map (·.1),0,0)):=by
     unfold Hid;rw [← st.out.lf,List.drop_of_length_le (by unfold outR; rw [List.length_map,hnc.out]; omega)];rfl
    rw [hki];go_wp2
    try simp only [Exit.inBlock,Exit.then]
    refine bodyPost_ret (results_tmp3 rfl _ _ _) rfl ?_;exact ⟨_,ps,by rw [hT.out]; rfl,by rw [hT.out],st.out.dg.at,st.out.b⟩
theorem rhead_any (r:Lr) (u:Value) (w:World) (hu:WdsAt w.heap.size w u r.2) (hl:(r.2.length:Int)≤4500) :
 Calls Tryz.prog 42 #[.agg #[.int .i64 r.1,u]] w fun e y=>e=.returned (.bool (hdL r))∧Below w.heap.size w y:=by
 obtain ⟨ln,ws⟩:=r;have bz:∀ u,Below w.heap.size w (w.alloc (.cells #[.int .i64 ln,u] 54)):=fun u=>(Below.refl _ _).alloc (Nat.le_refl _) _
 simp only at hu hl ⊢;rcases hu with ⟨a,c,rfl,rfl⟩ | ⟨g,o,cap,rfl,hc,hs,hg⟩
 · go_enter Tryz.func42,Tryz.ntmps42
   go_wp2;go_ret;exact ⟨rfl,bz _⟩
 · cases ws with
   | nil=>
    go_enter Tryz.func42,Tryz.ntmps42
    go_wp2;go_ret;exact ⟨rfl,bz _⟩
   | cons z zs=>
    have c0:=((bz (.slice (some ⟨g,o,none⟩) (z :: zs).length cap)).cell (p:=⟨g,o,none⟩) hg).trans (hs 0 (by simp));have hE:Hid (((txt z).toList == [100,101,118,105,99,101])=hdL (ln,z :: zs)):=by
     have e1:(txt z).toList=z:=by rw [ByteArray.toList_eq]; rfl
     show ((txt z).toList == [100,101,118,105,99,101])=decide (z=kDev);rw [e1,Bool.eq_iff_iff,decide_eq_true_iff,beq_iff_eq];rfl
    have hpos:(0:Int) < ((z :: zs).length:Int):=by rw [List.length_cons]; omega
    have hposn:0 < (z :: zs).length:=by rw [List.length_cons]; omega
    simp only [List.getElem_cons_zero] at c0;have bz1:=bz (.slice (some ⟨g,o,none⟩) (z :: zs).length cap);generalize hdL (ln,z :: zs)=H at *;generalize (z :: zs).length=m at *;generalize (txt z)=s at *
    go_enter Tryz.func42,Tryz.ntmps42
    go_wp2;go_ret;exact ⟨by rw [← show ((s.toList == [100,101,118,105,99,101])=H) from hE.out]; rfl,bz1⟩
theorem RowsC.sub {L0:Nat} {x:World} {g o n cap:Nat} {rs:List Lr} (h:RowsC L0 x (.slice (some ⟨g,o,none⟩) n cap) rs) (i m:Nat) (hm:i + m≤rs.length) (c:Nat):RowsC L0 x (.slice (some ⟨g,o + 2 * i,none⟩) m c) ((rs.drop i).take m):=by
 rcases h with ⟨h,_⟩ | ⟨g',o',cap',h1,h2,h3⟩
 · cases h
 · injection h1 with e1 e2 e3
   injection e1 with e1
   injection e1 with e4 e5
   subst e4 e5;refine .inr ⟨g,o + 2 * i,c,by rw [List.length_take,List.length_drop]; congr 1; omega,fun j hj=>?_,h3⟩;have hj':j < m:=by rw [List.length_take] at hj; omega
   have k:=h2 (i + j) (by omega);rw [List.getElem_take,List.getElem_drop,show o + 2 * i + 2 * j=o + 2 * (i + j) by omega];exact k
theorem RowsC.row {L0:Nat} {x:World} {g o n cap:Nat} {rs:List Lr} (h:RowsC L0 x (.slice (some ⟨g,o,none⟩) n cap) rs) {k:Nat} {r:Lr} (hr:rs[k]?=some r) :
 ∃ pu cu,x.cell? ⟨g,o + k * 2,none⟩=some (.int .i64 r.1)∧x.cell? ⟨g,o + k * 2 + 1,none⟩=some (.slice pu r.2.length cu)∧WdsAt L0 x (.slice pu r.2.length cu) r.2:=by
 rcases h with ⟨h,_⟩ | ⟨g',o',cap',h1,h2,h3⟩
 · cases h
 · injection h1 with e1 e2 e3
   injection e1 with e1
   injection e1 with e4 e5
   subst e4 e5;obtain ⟨hk,e⟩:=List.getElem?_eq_some_iff.1 hr;obtain ⟨q0,u,q1,q2⟩:=h2 k hk;rw [e] at q0 q2;rw [Nat.mul_comm 2 k] at q0 q1;have hu:∃ pu cu,u=.slice pu r.2.length cu:=by
    rcases q2 with ⟨a,c,q,q'⟩ | ⟨_,_,_,q,_⟩
    · exact ⟨a,c,by rw [q,q']; rfl⟩
    · exact ⟨_,_,q⟩
   obtain ⟨pu,cu,rfl⟩:=hu;exact ⟨pu,cu,q0,q1,q2⟩
theorem RowsC.addr {L0:Nat} {x:World} {p:Option Addr} {n cap:Nat} {rs:List Lr} (h:RowsC L0 x (.slice p n cap) rs) (h0:0 < rs.length):∃ g o,p=some ⟨g,o,none⟩∧rs.length=n:=by
 rcases h with ⟨_,h⟩ | ⟨g,o,cap',h1,_⟩
 · rw [h] at h0; cases h0
 · injection h1 with e1 e2 e3
   exact ⟨g,o,e1,e2.symm⟩
structure PosB (rs:List Lr) (bs:List (List Lr)) (q i:Nat):Prop where
 le:i≤rs.length
 dr:rs.drop i=(bs.drop q).flatten
theorem PosB.first {rs:List Lr} {bs:List (List Lr)} (h:BkR rs bs):PosB rs bs 0 0:=⟨Nat.zero_le _,by rw [List.drop_zero,List.drop_zero,h.flat]⟩
theorem PosB.got {rs:List Lr} {bs:List (List Lr)} {q i:Nat} (hp:PosB rs bs q i) (h:BkR rs bs) (hi:i < rs.length):∃ b rest,bs.drop q=b :: rest∧b ≠ []∧rs.drop i=b ++ rest.flatten∧rest=bs.drop (q + 1)∧i + b.length≤rs.length∧b ∈ bs:=by
 cases hd:bs.drop q with
 | nil=>
  have:=hp.dr;rw [hd] at this;have:=congrArg List.length this;simp at this;omega
 | cons b rest=>
  have hq:=hp.dr;rw [hd,List.flatten_cons] at hq;have hb:b ∈ bs:=List.mem_of_mem_drop (by rw [hd]; simp:b ∈ bs.drop q);refine ⟨b,rest,rfl,h.ne b hb,hq,?_,?_,hb⟩
  · rw [← List.drop_drop,hd]; rfl
  · have:=congrArg List.length hq;rw [List.length_drop,List.length_append] at this;omega
theorem PosB.next {rs:List Lr} {bs:List (List Lr)} {q i:Nat} (hp:PosB rs bs q i) (h:BkR rs bs) (hi:i < rs.length) {b:List Lr} {rest:List (List Lr)} (hd:bs.drop q=b :: rest) (hr:rs.drop i=b ++ rest.flatten) (hl:i + b.length≤rs.length) (he:rest=bs.drop (q + 1)):PosB rs bs (q + 1) (i + b.length):=
 ⟨hl,by rw [← List.drop_drop,hr,List.drop_append_length,he]⟩
theorem PosB.inn {rs:List Lr} {bs:List (List Lr)} {i:Nat} (h:BkR rs bs) {b:List Lr} {rest:List (List Lr)} (hr:rs.drop i=b ++ rest.flatten) (hb:b ∈ bs) {m:Nat} (h1:1≤m) (hm:m < b.length):∃ r,rs[i + m]?=some r∧hdL r=false:=by
 refine ⟨b[m],?_,h.tl b hb b[m] ?_⟩
 · rw [← List.getElem?_drop,hr,List.getElem?_append_left hm,List.getElem?_eq_getElem hm]
 · cases b with
   | nil=>cases hm
   | cons r t=>
    obtain ⟨k,rfl⟩:∃ k,m=k + 1:=⟨m - 1,by omega⟩;rw [List.getElem_cons_succ];exact List.getElem_mem _
theorem PosB.hd {rs:List Lr} {bs:List (List Lr)} {q i:Nat} (h:BkR rs bs) {b:List Lr} {rest:List (List Lr)} (hr:rs.drop i=b ++ rest.flatten) (he:rest=bs.drop (q + 1)) (hi:i + b.length < rs.length):∃ r,rs[i + b.length]?=some r∧hdL r=true:=by
 cases rest with
 | nil=>
  have:=congrArg List.length hr;simp at this;omega
 | cons c rest=>
  have hcm:c ∈ bs.tail:=by
   have h1:c ∈ bs.drop (q + 1):=by rw [← he]; simp
   rw [← List.drop_one];rw [show q + 1=1 + q by omega,← List.drop_drop] at h1;exact List.mem_of_mem_drop h1
  have hcn:=h.ne c (List.mem_of_mem_tail hcm)
  cases c with
  | nil=>exact absurd rfl hcn
  | cons r t=>
   refine ⟨r,?_,h.hd _ hcm r (by simp)⟩;rw [← List.getElem?_drop,hr,List.getElem?_append_right (Nat.le_refl _),Nat.sub_self];rfl
theorem PosB.take {rs b:List Lr} {rest:List (List Lr)} {i:Nat} (hr:rs.drop i=b ++ rest.flatten):(rs.drop i).take b.length=b:=by rw [hr,List.take_left]
theorem bkR_ex (rs:List Lr):BkR rs (blkF rs):=by
 have h:∃ bs,BkR rs bs:=by
  suffices ∀ (n:Nat),n≤rs.length→∃ bs,BkR (rs.take n) bs by
   obtain ⟨bs,h⟩:=this rs.length (Nat.le_refl _);rw [List.take_length] at h;exact ⟨bs,h⟩
  intro n
  induction n with
  | zero=>intro _; exact ⟨[],BkR.nil⟩
  | succ n ih=>
   intro hn;obtain ⟨bs,h⟩:=ih (by omega);have e:rs.take (n + 1)=rs.take n ++ [rs[n]]:=by rw [List.take_add_one,List.getElem?_eq_getElem (by omega)]; rfl
   rw [e]
   by_cases hb:bs=[] ∨ isDev rs[n]=true
   · exact ⟨_,h.new hb⟩
   · rw [not_or] at hb;obtain ⟨bs',c,rfl⟩:∃ bs' c,bs=bs' ++ [c]:=⟨bs.dropLast,bs.getLast hb.1,(List.dropLast_concat_getLast hb.1).symm⟩;exact ⟨_,h.old (by simpa using hb.2)⟩
 obtain ⟨bs,h⟩:=h;have:=blkF_uniq bs h.ne h.tl h.hd;rw [h.flat] at this;rw [this];exact h
end Go.Proofs.YthabffjgdhfbmaaGreatDoor
