/-
  Texts that belong together, one behind the other: ShShelf, RoundL, RegInv, RegProps, LexMath, DsTyp, BytesKit, LexMem, DsMemK, LexKit, RegProps3, RegSome, DsKit, Nums. Conditions: as each says.
-/
import Derived.Below
import Derived.ChangeOld
import Derived.Deep.AppendLies
import Derived.Deep.RegionHeld3
import Derived.Handy
import Derived.IntWalk
import Derived.Laws.Bits64
import Derived.Laws.BytesArg
import Derived.Laws.Concat
import Derived.Laws.OwnMore
import Derived.Laws.Tables
import Derived.Lib.BufferOwn
import Derived.Lib.QuietBelowIn
import Derived.Maps.AppendAt
import Derived.OpenShut
import Derived.OwnWalk
import Derived.ProofKit
import Derived.RangeFuncBox
import Derived.RangeFuncCalls
import Derived.RowKit
import Derived.Shelf.Strings.Builder1
import Derived.Shelf.Strings.OnBuilder
import Derived.ShutString
import Derived.Sort.BigQuietIn
import Derived.TacticsIn
import Derived.Test.YthabffjgdhfbmaaGreatDoorChecked
import Derived.Test.YthabffjgdhfbmaaGreatDoorProg
import Derived.WalkKit
import Derived.WalkLawsBesides
import Derived.WalkSpells
set_option maxRecDepth 100000
set_option maxHeartbeats 32000000
set_option linter.unusedVariables false
namespace Go.Proofs.YthabffjgdhfbmaaGreatDoor
open Go.Shelf
def lays156_ren:Go.Shelf.Ren:=⟨fun | 167=>87 | 156=>86 | 165=>120 | 166=>36 | 169=>37 | 240=>69 | 241=>140 | 276=>96 | 277=>150 | n=>n,fun | 31=>52 | 9=>9 | 3=>3 | 4=>4 | 0=>0 | 20=>20 | 72=>82 | 76=>88 | 70=>80 | 37=>23 | 75=>87 | 127=>128 | 164=>165 | 5=>5 | 80=>90 | n=>n,fun | n=>n⟩
theorem lays156:Go.Proofs.Lays.n156 Tryz.prog lays156_ren:={
 mixed:=by kernel_rfl
 f156:=Tryz.func86.trans (congrArg some (by kernel_rfl))
 f165:=Tryz.func120.trans (congrArg some (by kernel_rfl))
 f166:=Tryz.func36.trans (congrArg some (by kernel_rfl))
 f169:=Tryz.func37.trans (congrArg some (by kernel_rfl))
 f240:=Tryz.func69.trans (congrArg some (by kernel_rfl))
 f241:=Tryz.func140.trans (congrArg some (by kernel_rfl))
 f276:=Tryz.func96.trans (congrArg some (by kernel_rfl))
 f277:=Tryz.func150.trans (congrArg some (by kernel_rfl))
 t0:=Tryz.underlying0
 a0:=Tryz.isAgg0
 z0:=Tryz.sizeOf0
 v0:=Tryz.zeroValue0
 t3:=Tryz.underlying3
 a3:=Tryz.isAgg3
 z3:=Tryz.sizeOf3
 v3:=Tryz.zeroValue3
 t4:=Tryz.underlying4
 a4:=Tryz.isAgg4
 z4:=Tryz.sizeOf4
 v4:=Tryz.zeroValue4
 t9:=Tryz.underlying9
 a9:=Tryz.isAgg9
 z9:=Tryz.sizeOf9
 v9:=Tryz.zeroValue9
 t20:=Tryz.underlying20
 a20:=Tryz.isAgg20
 z20:=Tryz.sizeOf20
 v20:=Tryz.zeroValue20
 t31:=Tryz.underlying52
 a31:=Tryz.isAgg52
 z31:=Tryz.sizeOf52
 v31:=Tryz.zeroValue52
 t37:=Tryz.underlying23
 a37:=Tryz.isAgg23
 z37:=Tryz.sizeOf23
 v37:=Tryz.zeroValue23
 t70:=Tryz.underlying80
 a70:=Tryz.isAgg80
 z70:=Tryz.sizeOf80
 v70:=Tryz.zeroValue80
 t72:=Tryz.underlying82
 a72:=Tryz.isAgg82
 z72:=Tryz.sizeOf82
 v72:=Tryz.zeroValue82
 t75:=Tryz.underlying87
 a75:=Tryz.isAgg87
 z75:=Tryz.sizeOf87
 v75:=Tryz.zeroValue87
 t76:=Tryz.underlying88
 a76:=Tryz.isAgg88
 z76:=Tryz.sizeOf88
 v76:=Tryz.zeroValue88
 t127:=Tryz.underlying128
 a127:=Tryz.isAgg128
 z127:=Tryz.sizeOf128
 v127:=Tryz.zeroValue128
 t164:=Tryz.underlying165
 a164:=Tryz.isAgg165
 z164:=Tryz.sizeOf165
 v164:=Tryz.zeroValue165 }
def lays170_ren:Go.Shelf.Ren:=⟨fun | 170=>35 | n=>n,fun | 70=>80 | 3=>3 | 0=>0 | 72=>82 | 37=>23 | 5=>5 | n=>n,fun | n=>n⟩
theorem lays170:Go.Proofs.Lays.n170 Tryz.prog lays170_ren:={
 mixed:=by kernel_rfl
 f170:=Tryz.func35.trans (congrArg some (by kernel_rfl))
 t0:=Tryz.underlying0
 a0:=Tryz.isAgg0
 z0:=Tryz.sizeOf0
 v0:=Tryz.zeroValue0
 t3:=Tryz.underlying3
 a3:=Tryz.isAgg3
 z3:=Tryz.sizeOf3
 v3:=Tryz.zeroValue3
 t37:=Tryz.underlying23
 a37:=Tryz.isAgg23
 z37:=Tryz.sizeOf23
 v37:=Tryz.zeroValue23
 t70:=Tryz.underlying80
 a70:=Tryz.isAgg80
 z70:=Tryz.sizeOf80
 v70:=Tryz.zeroValue80
 t72:=Tryz.underlying82
 a72:=Tryz.isAgg82
 z72:=Tryz.sizeOf82
 v72:=Tryz.zeroValue82 }
end Go.Proofs.YthabffjgdhfbmaaGreatDoor
namespace Go.Proofs.YthabffjgdhfbmaaGreatDoor
def behind (F:Fence) (n:Nat) (P:Program) (ops:Array Oper) (M:Nat) (Q:Exit→Act→World→Prop):Exit→Act→World→Prop
 | .normal,a,w=>wpOpIn F n P ops Q M (fun a w=>Q .normal a w) a w
 | e,a,w=>Q e a w
def backB (md:Region.Mode) (L:List Oper):Bool:=
 (List.range L.length).all fun i=>match L[i]? with
  | none=>true
  | some o=>(o.after.all fun e=>!Region.binds md e || decide (e.on < i)) && (match o.guard with | none=>true | some (j,_)=>decide (j < i))
theorem backB_spec {md:Region.Mode} {L:List Oper} (h:backB md L=true) {i:Nat} {o:Oper} (ho:L[i]?=some o):(∀ e ∈ o.after,Region.binds md e=true→e.on < i)∧∀ j b,o.guard=some (j,b)→j < i:=by
 have hi:i < L.length:=(List.getElem?_eq_some_iff.1 ho).1;have:=List.all_eq_true.1 h i (List.mem_range.2 hi);simp only [ho,Bool.and_eq_true] at this;refine ⟨fun e he hb=>?_,fun j b hg=>?_⟩
 · have q:=Array.all_eq_true'.1 this.1 e he;rw [hb] at q
   simpa using q
 · have q:=this.2;rw [hg] at q
   simpa using q
theorem getD_push {x:Array Bool} {i:Nat} {d b:Bool} (h:i < x.size):(x.push b).getD i d=x.getD i d:=by
 simp [Array.getD_eq_getD_getElem?,Array.getElem?_push,Nat.ne_of_lt h]
theorem ops_at {l:List Oper} {o:Oper} {i:Nat} (h:i < l.length):(l ++ [o]).toArray[i]?=l.toArray[i]?:=by
 rw [List.getElem?_toArray,List.getElem?_toArray,List.getElem?_append_left h]
theorem ready_at {md:Region.Mode} {l:List Oper} {o:Oper} (hb:backB md (l ++ [o])=true) {x:Array Bool} (hx:x.size=l.length) {i:Nat} (hi:i < l.length):i ∈ Region.ready md (l ++ [o]).toArray (x.push false) ↔ i ∈ Region.ready md l.toArray x:=by
 rw [mem_ready,mem_ready,getD_push (by omega),ops_at hi];refine and_congr_right fun _=>?_
 refine exists_congr fun p=>and_congr_right fun hp=>?_
 have hp':(l ++ [o])[i]?=some p:=by rw [List.getElem?_append_left hi]; rwa [List.getElem?_toArray] at hp
 refine forall_congr' fun e=>forall_congr' fun he=>forall_congr' fun hbn=>?_
 have:=(backB_spec hb hp').1 e he hbn;rw [getD_push (by omega)]
theorem ready_some {md:Region.Mode} {L:List Oper} (hb:backB md L=true) {x:Array Bool} (hx:x.size=L.length):∀ k,k < L.length→x.getD k false=false→∃ i,i < L.length∧i ∈ Region.ready md L.toArray x:=by
 intro k
 induction k using Nat.strongRecOn with
 | ind k ih=>
  intro hk hf
  by_cases h:∃ j,j < k∧x.getD j false=false
  · obtain ⟨j,h1,h2⟩:=h;exact ih j h1 (by omega) h2
  · refine ⟨k,hk,?_⟩;rw [mem_ready];have hf':x.getD k true=false:=by
     rw [Array.getD_eq_getD_getElem?,Array.getElem?_eq_getElem (by omega)] at hf ⊢;exact hf
    refine ⟨hf',L[k],by rw [List.getElem?_toArray,List.getElem?_eq_getElem hk],fun e he hbn=>?_⟩;have:=(backB_spec hb (List.getElem?_eq_getElem hk)).1 e he hbn
    cases hq:x.getD e.on false with
    | true=>rfl
    | false=>exact absurd ⟨e.on,this,hq⟩ h
def left (x:Array Bool):Nat:=x.toList.count false
theorem left_set {x:Array Bool} {i:Nat} (h:i < x.size) (hf:x.getD i true=false):left (x.setIfInBounds i true) + 1=left x:=by
 unfold left;rw [Array.toList_setIfInBounds];have hl:i < x.toList.length:=by simpa using h
 have hv:x.toList[i]=false:=by
  rw [Array.getD_eq_getD_getElem?,Array.getElem?_eq_getElem h] at hf
  simpa using hf
 rw [List.count_set hl,hv,if_pos (by decide),if_neg (by decide)];have:0 < x.toList.count false:=List.count_pos_iff.2 (by rw [← hv]; exact List.getElem_mem hl);omega
theorem left_zero {x:Array Bool} (h:left x=0):∀ j,j < x.size→x.getD j false=true:=by
 intro j hj;unfold left at h;rw [List.count_eq_zero] at h;rw [Array.getD_eq_getD_getElem?,Array.getElem?_eq_getElem hj]
 cases hq:x[j] with
 | true=>rfl
 | false=>exact absurd (by rw [← hq]; simp) h
end Go.Proofs.YthabffjgdhfbmaaGreatDoor
namespace Go.Proofs.YthabffjgdhfbmaaGreatDoor
theorem wpAny_inv {P:Program} {md:Region.Mode} {ops:Array Oper} {Q:Exit→Act→World→Prop} (I:Array Bool→Act→World→Prop)
 (step:∀ x a w i,x.size=ops.size→I x a w→i ∈ Region.ready md ops x→wpOp P ops Q i (I (x.setIfInBounds i true)) a w)
 (fin:∀ x a w,x.size=ops.size→I x a w→Region.ready md ops x=[]→Q .normal a w) :
 ∀ (fuel:Nat) (x:Array Bool) (a:Act) (w:World),x.size=ops.size→left x≤fuel→I x a w→wpAny P md ops Q fuel x a w:=by
 intro fuel
 induction fuel with
 | zero=>
  intro x a w hx hl h;have hr:Region.ready md ops x=[]:=by
   refine List.eq_nil_iff_forall_not_mem.2 fun i hi=>?_
   obtain ⟨h1,o,ho,_⟩:=mem_ready.1 hi;have hlt:i < x.size:=by rw [hx]; exact (Array.getElem?_eq_some_iff.1 ho).1
   have h2:=left_zero (Nat.le_zero.1 hl) i hlt;rw [Array.getD_eq_getD_getElem?,Array.getElem?_eq_getElem hlt] at h1 h2;simp at h1 h2;rw [h1] at h2
   cases h2
  exact ⟨hr,fin x a w hx h hr⟩
 | succ fuel ih=>
  intro x a w hx hl h;refine ⟨fun hr=>fin x a w hx h hr,fun i hi=>wpOp_mono (fun a' w' h'=>ih _ a' w' (by simpa using hx) ?_ h') (step x a w i hx h hi)⟩;obtain ⟨h1,o,ho,_⟩:=mem_ready.1 hi;have hlt:i < x.size:=by rw [hx]; exact (Array.getElem?_eq_some_iff.1 ho).1
  have:=left_set hlt h1;omega
end Go.Proofs.YthabffjgdhfbmaaGreatDoor
namespace Go.Proofs.YthabffjgdhfbmaaGreatDoor
def regB (L:List Oper) (n:Nat):Bool:=
 backB .any L && ((List.range L.length).all fun i=>match L[i]? with
  | none=>true
  | some o=>o.guard.isNone && (match o.dst with
   | none=>true
   | some d=>decide (d < n) && ((List.range i).all fun j=>match L[j]? with
    | none=>true
    | some p=>!decide (p.dst=some d))))
theorem regB_spec {L:List Oper} {n:Nat} (h:regB L n=true) {i:Nat} {o:Oper} (ho:L[i]?=some o):o.guard=none∧∀ d,o.dst=some d→d < n∧∀ j p,j < i→L[j]?=some p→p.dst ≠ some d:=by
 have h:=(Bool.and_eq_true_iff.1 h).2;have hi:i < L.length:=(List.getElem?_eq_some_iff.1 ho).1;have k:=List.all_eq_true.1 h i (List.mem_range.2 hi);simp only [ho,Bool.and_eq_true] at k;refine ⟨Option.isNone_iff_eq_none.1 k.1,fun d hd=>?_⟩;have k2:=k.2;rw [hd] at k2;simp only [Bool.and_eq_true,decide_eq_true_eq] at k2;refine ⟨k2.1,fun j p hj hp e=>?_⟩;have k3:=List.all_eq_true.1 k2.2 j (List.mem_range.2 hj);simp only [hp,e] at k3;simp at k3
theorem regB_ne {L:List Oper} {n:Nat} (h:regB L n=true) {i j:Nat} {o p:Oper} (ho:L[i]?=some o) (hp:L[j]?=some p) (hij:i ≠ j) {d:Tmp} (hd:o.dst=some d):p.dst ≠ some d:=by
 rcases Nat.lt_or_gt_of_ne hij with hlt | hgt
 · intro e; exact ((regB_spec h hp).2 d e).2 i o hlt ho hd
 · exact ((regB_spec h ho).2 d hd).2 j p hgt hp
structure RegI (L:List Oper) (T0:Array Value) (D0:List Deferred) (Pv:Nat→Value→World→Prop) (x:Array Bool) (a:Act) (w:World):Prop where
 dfr:a.defers=D0
 size:a.tmps.size=T0.size
 old:∀ t,(∀ (i:Nat) (o:Oper),L[i]?=some o→o.dst ≠ some t)→a.tmps.getD t undef=T0.getD t undef
 val:∀ (i:Nat) (o:Oper) (d:Tmp),L[i]?=some o→o.dst=some d→x.getD i false=true→Pv i (a.tmps.getD d undef) w
def notDst (L:List Oper) (t:Tmp):Bool:=L.all fun o=>!decide (o.dst=some t)
theorem RegI.was {L:List Oper} {T0:Array Value} {D0:List Deferred} {Pv:Nat→Value→World→Prop} {x:Array Bool} {a:Act} {w:World} (h:RegI L T0 D0 Pv x a w) {t:Tmp} (hn:notDst L t=true):a.tmps.getD t undef=T0.getD t undef:=
 h.old t fun i o ho e=>by
  have:=List.all_eq_true.1 hn o (List.mem_of_getElem? ho);simp [e] at this
theorem dep_at {o:Oper} {x:Array Bool} (h:∀ e ∈ o.after,Region.binds .any e=true→x.getD e.on false=true) {j:Nat} (hj:(o.after.any fun e=>Region.binds .any e && e.on == j)=true):x.getD j false=true:=by
 rw [Array.any_eq_true'] at hj;obtain ⟨e,he,hq⟩:=hj;rw [Bool.and_eq_true,beq_iff_eq] at hq;rw [← hq.2];exact h e he hq.1
theorem getD_false {x:Array Bool} {i:Nat} (h:x.getD i true=false):x.getD i false=false:=by
 rw [Array.getD_eq_getD_getElem?] at *
 cases hx:x[i]? with
 | none=>rfl
 | some b=>rw [hx] at h; exact h
theorem getD_set_at {x:Array Bool} {i:Nat} (h:i < x.size):(x.setIfInBounds i true).getD i false=true:=by simp [Array.getD_eq_getD_getElem?,h]
theorem put_at (a:Act) {d:Tmp} (v:Value) (h:d < a.tmps.size):(a.put (some d) v).tmps.getD d undef=v:=by simp [Act.put,Array.getD_eq_getD_getElem?,h]
theorem put_off (a:Act) {d t:Tmp} (v:Value) (h:d ≠ t):(a.put (some d) v).tmps.getD t undef=a.tmps.getD t undef:=by simp [Act.put,Array.getD_eq_getD_getElem?,Array.getElem?_setIfInBounds_ne h]
def RegK (Pv:Nat→Value→World→Prop) (x:Array Bool) (w w':World):Prop:=∀ j v,x.getD j false=true→Pv j v w→Pv j v w'
theorem RegK.refl (Pv:Nat→Value→World→Prop) (x:Array Bool) (w:World):RegK Pv x w w:=fun _ _ _ h=>h
theorem region_props {P:Program} {id:Nat} {L:List Oper} {Q:Exit→Act→World→Prop} (Pv:Nat→Value→World→Prop) (W:Array Bool→World→Prop) {a0:Act} {w0:World}
 (hm:P.follows .mixedOrders=true) (hb:regB L a0.tmps.size=true)
 (step:∀ x a w i o,L[i]?=some o→RegI L a0.tmps a0.defers Pv x a w→(∀ e ∈ o.after,Region.binds .any e=true→x.getD e.on false=true)→x.size=L.length→x.getD i true=false→W x w →
  o.wp P a w (fun a' w'=>∃ v,a'=a.put o.dst v∧(∀ d,o.dst=some d→Pv i v w')∧RegK Pv x w w'∧W (x.setIfInBounds i true) w') Q)
 (fin:∀ x a w,x.size=L.length→(∀ i,i < L.length→x.getD i false=true)→RegI L a0.tmps a0.defers Pv x a w→W x w→Q .normal a w)
 (h0:W (Array.replicate L.length false) { w0 with drawn:=w0.drawn + 1 }):(Code.region id L.toArray true).wp P Q a0 w0:=by
 refine wp_region_any hm ?_;have hs:L.toArray.size=L.length:=List.size_toArray;refine wpAny_inv (fun x a w=>RegI L a0.tmps a0.defers Pv x a w∧W x w) ?_ ?_ _ _ _ _ (by simp) ?_ ?_
 · rintro x a w i hx ⟨hI,hW⟩ hr;obtain ⟨h1,o,ho,haf⟩:=mem_ready.1 hr;have ho':L[i]?=some o:=by rwa [List.getElem?_toArray] at ho
   have gd:=regB_spec hb ho';have hwant:Region.wanted o (yielded L.toArray a.tmps)=true:=by unfold Region.wanted; rw [gd.1]
   unfold wpOp;simp only [ho,hwant,if_true];refine .inl (Oper.wp_mono ?_ (step x a w i o ho' hI haf (by rw [hx,hs]) h1 hW));rintro a' w' ⟨v,rfl,hv,hrl,hW'⟩;refine ⟨?_,hW'⟩;have hxi:i < x.size:=by rw [hx]; exact (Array.getElem?_eq_some_iff.1 ho).1
   cases hd:o.dst with
   | none=>
    refine ⟨hI.dfr,hI.size,hI.old,fun j p d hp hpd hxj=>?_⟩;have hji:j ≠ i:=fun e=>by
     subst e;rw [ho'] at hp
     cases hp
     rw [hd] at hpd
     cases hpd
    rw [getD_set_ne false (Ne.symm hji)] at hxj;exact hrl _ _ hxj (hI.val j p d hp hpd hxj)
   | some d=>
    have gdd:=gd.2 d hd;refine ⟨hI.dfr,?_,fun t ht=>?_,fun j p e hp hpe hxj=>?_⟩
    · show (a.tmps.setIfInBounds d v).size=_;rw [Array.size_setIfInBounds]; exact hI.size
    · rw [put_off a v (fun e=>ht i o ho' (by rw [hd,e]))]; exact hI.old t ht
    · by_cases hji:j=i
      · subst hji;rw [ho'] at hp
        cases hp
        rw [hd] at hpe
        cases hpe
        rw [put_at a v (by rw [hI.size]; exact gdd.1)];exact hv d hd
      · rw [getD_set_ne false (Ne.symm hji)] at hxj;have hne:=regB_ne hb ho' hp (Ne.symm hji) hd;rw [put_off a v (fun h=>hne (by rw [hpe,h]))];exact hrl _ _ hxj (hI.val j p e hp hpe hxj)
 · rintro x a w hx ⟨hI,hW⟩ hr;refine fin x a w (by rw [hx,hs]) (fun i hi=>?_) hI hW
   cases hf:x.getD i false with
   | true=>rfl
   | false=>
    obtain ⟨j,hj,hj2⟩:=ready_some (Bool.and_eq_true_iff.1 hb).1 (by rw [hx,hs]) i hi hf;rw [hr] at hj2
    cases hj2
 · have e:∀ n:Nat,left (Array.replicate n false)=n:=fun n=>by unfold left; simp
   rw [e,hs];exact Nat.le_refl _
 · refine ⟨⟨rfl,rfl,fun _ _=>rfl,fun i o d _ _ hx=>?_⟩,by rw [hs]; exact h0⟩
   exfalso
   rw [Array.getD_eq_getD_getElem?] at hx
   by_cases hlt:i < L.length
   · rw [Array.getElem?_replicate,hs,if_pos hlt] at hx
     cases hx
   · rw [Array.getElem?_replicate,hs,if_neg hlt] at hx
     cases hx
end Go.Proofs.YthabffjgdhfbmaaGreatDoor
namespace Go.Proofs.YthabffjgdhfbmaaGreatDoor
abbrev Wd:=List UInt8
abbrev Ln:=Nat × List Wd
def flushW (ws:List Wd) (w:Wd):List Wd:=if w=[] then ws else ws ++ [w]
def countsB (ws:List Wd):Bool:=
 match ws with
 | []=>false
 | w :: _=>match w with
  | []=>true
  | c :: _=>!(c == 35)
def closeL (l:Nat) (ws:List Wd):List Ln:=if countsB ws=true then [(l,ws)] else []
def scanL (l:Nat) (ws:List Wd) (w:Wd):List UInt8→Except Nat (List Ln)
 | []=>.ok (closeL l (flushW ws w))
 | c :: r=>
  if c=10 then (scanL (l + 1) [] [] r).map (fun t=>closeL l (flushW ws w) ++ t)
  else if c=32 then scanL l (flushW ws w) [] r
  else if 32≤c.toNat∧c.toNat≤126 then scanL l ws (w ++ [c]) r
  else .error l
theorem scan_end (l:Nat) (ws:List Wd) (w:Wd):scanL l ws w []=.ok (closeL l (flushW ws w)):=rfl
theorem scan_line (l:Nat) (ws:List Wd) (w:Wd) (r:List UInt8):scanL l ws w (10 :: r)=(scanL (l + 1) [] [] r).map (fun t=>closeL l (flushW ws w) ++ t):=by rw [scanL,if_pos rfl]
theorem scan_blank (l:Nat) (ws:List Wd) (w:Wd) (r:List UInt8):scanL l ws w (32 :: r)=scanL l (flushW ws w) [] r:=by rw [scanL,if_neg (by decide),if_pos rfl]
theorem scan_byte (l:Nat) (ws:List Wd) (w:Wd) {c:UInt8} (r:List UInt8) (h1:¬ c=10) (h2:¬ c=32) (h3:32≤c.toNat∧c.toNat≤126):scanL l ws w (c :: r)=scanL l ws (w ++ [c]) r:=by rw [scanL,if_neg h1,if_neg h2,if_pos h3]
theorem scan_bad (l:Nat) (ws:List Wd) (w:Wd) {c:UInt8} (r:List UInt8) (h1:¬ c=10) (h2:¬ c=32) (h3:¬ (32≤c.toNat∧c.toNat≤126)):scanL l ws w (c :: r)=.error l:=by rw [scanL,if_neg h1,if_neg h2,if_neg h3]
theorem map_ok {a b:Type} (f:a→b) (x:a):(Except.ok x:Except Nat a).map f=.ok (f x):=rfl
theorem map_err {a b:Type} (f:a→b) (n:Nat):(Except.error n:Except Nat a).map f=.error n:=rfl
theorem map_map' {a b c:Type} (f:a→b) (g:b→c) (x:Except Nat a):(x.map f).map g=x.map (fun t=>g (f t)):=by cases x <;> rfl
def tRows (T:Except Nat (List Ln)):List Ln:=match T with | .ok r=>r | .error _=>[]
def tLine (T:Except Nat (List Ln)):Nat:=match T with | .ok _=>0 | .error n=>n
def tErr (T:Except Nat (List Ln)):Nat:=match T with | .ok _=>0 | .error _=>6
def lexRows (s:List UInt8):List Ln:=if s.length≤4000 then tRows (scanL 1 [] [] s) else []
def lexLine (s:List UInt8):Nat:=if s.length≤4000 then tLine (scanL 1 [] [] s) else 0
def lexErr (s:List UInt8):Nat:=if s.length≤4000 then tErr (scanL 1 [] [] s) else 7
theorem close_len (l:Nat) (ws:List Wd):(closeL l ws).length≤1:=by unfold closeL; split <;> simp
theorem scan_len (s:List UInt8):∀ l ws w r,scanL l ws w s=.ok r→r.length≤s.length + 1:=by
 induction s with
 | nil => intro l ws w r h; have e : closeL l (flushW ws w) = r := by simpa [scanL] using h
          rw [← e]; exact close_len _ _
 | cons c s ih=>
  intro l ws w r h
  by_cases h1:c=10
  · subst h1;rw [scan_line] at h
    cases hs:scanL (l + 1) [] [] s with
    | error n=>rw [hs] at h; cases h
    | ok a=>
     rw [hs,map_ok] at h;have e:=ih _ _ _ _ hs;have e2:closeL l (flushW ws w) ++ a=r:=by simpa using h
     rw [← e2,List.length_append,List.length_cons];have:=close_len l (flushW ws w);omega
  · rw [List.length_cons]
    by_cases h2:c=32
    · subst h2; rw [scan_blank] at h; have:=ih _ _ _ _ h; omega
    · by_cases h3:32≤c.toNat∧c.toNat≤126
      · rw [scan_byte _ _ _ _ h1 h2 h3] at h; have:=ih _ _ _ _ h; omega
      · rw [scan_bad _ _ _ _ h1 h2 h3] at h; cases h
theorem counts_ne {ws:List Wd} (h:countsB ws=true):¬ ws=[]:=fun e=>by rw [e] at h; cases h
theorem flush_len (ws:List Wd) (w:Wd):(flushW ws w).length≤ws.length + 1:=by unfold flushW; split <;> simp
theorem close_ok {l:Nat} {ws:List Wd} {x:Ln} (h:x ∈ closeL l ws):¬ x.2=[]∧x.2.length=ws.length:=by
 unfold closeL at h
 split at h
 · rename_i hc
   rw [List.mem_singleton.1 h];exact ⟨counts_ne hc,rfl⟩
 · cases h
theorem scan_ok (s:List UInt8):∀ l ws w r,scanL l ws w s=.ok r→∀ x ∈ r,¬ x.2=[]∧x.2.length≤ws.length + s.length + 1:=by
 induction s with
 | nil=>
  intro l ws w r h x hx;have e:closeL l (flushW ws w)=r:=by simpa [scanL] using h
  rw [← e] at hx;obtain ⟨h1,h2⟩:=close_ok hx;have:=flush_len ws w;exact ⟨h1,by simp; omega⟩
 | cons c s ih=>
  intro l ws w r h x hx
  by_cases h1:c=10
  · subst h1;rw [scan_line] at h
    cases hs:scanL (l + 1) [] [] s with
    | error n=>rw [hs] at h; cases h
    | ok a=>
     rw [hs,map_ok] at h;have e2:closeL l (flushW ws w) ++ a=r:=by simpa using h
     rw [← e2] at hx;rcases List.mem_append.1 hx with hx | hx
     · obtain ⟨q1,q2⟩:=close_ok hx;have:=flush_len ws w;exact ⟨q1,by simp; omega⟩
     · obtain ⟨q1,q2⟩:=ih _ _ _ _ hs x hx;exact ⟨q1,by simp at q2 ⊢; omega⟩
  · by_cases h2:c=32
    · subst h2;rw [scan_blank] at h;obtain ⟨q1,q2⟩:=ih _ _ _ _ h x hx;have:=flush_len ws w;exact ⟨q1,by simp; omega⟩
    · by_cases h3:32≤c.toNat∧c.toNat≤126
      · rw [scan_byte _ _ _ _ h1 h2 h3] at h;obtain ⟨q1,q2⟩:=ih _ _ _ _ h x hx;exact ⟨q1,by simp; omega⟩
      · rw [scan_bad _ _ _ _ h1 h2 h3] at h; cases h
theorem lex_ok (s:List UInt8):(lexRows s).length≤s.length + 1∧∀ x ∈ lexRows s,¬ x.2=[]∧x.2.length≤s.length + 1:=by
 unfold lexRows
 split
 · cases h:scanL 1 [] [] s with
   | error n=>exact ⟨Nat.zero_le _,fun x hx=>by cases hx⟩
   | ok r=>
    refine ⟨scan_len s _ _ _ _ h,fun x hx=>?_⟩;have:=scan_ok s _ _ _ _ h x hx;exact ⟨this.1,by have:=this.2; simp at this; exact this⟩
 · exact ⟨Nat.zero_le _,fun x hx=>by cases hx⟩
theorem lex_len (s:List UInt8):(lexRows s).length≤4001∧∀ x ∈ lexRows s,x.2.length≤4001:=by
 by_cases h:s.length≤4000
 · obtain ⟨h1,h2⟩:=lex_ok s;exact ⟨by omega,fun x hx=>by have:=(h2 x hx).2; omega⟩
 · unfold lexRows;rw [if_neg h];exact ⟨Nat.zero_le _,fun x hx=>by cases hx⟩
end Go.Proofs.YthabffjgdhfbmaaGreatDoor
namespace Go.Proofs.YthabffjgdhfbmaaGreatDoor
open Go.RowKit
structure Fd where
 nm:Wd
 pl:Int
 kd:Wd
 wd:Int
 sn:Int
 sd:Int
 on:Int
 od:Int
 un:Wd
structure Dv where
 nm:Wd
 st:Int
 es:Int
 mx:Int
 sz:Int
 sm:Wd
 fs:List Fd
 rq:List Nat
 po:Int
 ti:Int
 re:Int
 ag:Int
end Go.Proofs.YthabffjgdhfbmaaGreatDoor
namespace Go.Proofs.YthabffjgdhfbmaaGreatDoor
open Go.ChangeShapes Go.WideShapes Go.ChangeAt Go.RowKit
theorem belowT {a b c:World} (h:Below a.heap.size a b) (k:Below b.heap.size b c):Below a.heap.size a c:=h.trans (k.mono h.size)
theorem blk_far (w:World) (a:Addr) (u:Value) (k:Nat) (h:k ≠ a.block):(w.setCell a u).heap[k]?=w.heap[k]?:=by
 simp [World.setCell,Array.getElem?_modify,Ne.symm h]
def BytesIn (w:World) (gb ob:Nat) (bs:List Nat):Prop:=∀ j (h:j < bs.length),w.cell? ⟨gb,ob + j,none⟩=some (.int .u8 (bs[j]:Int))
def AllBytes (bs:List Nat):Prop:=∀ c ∈ bs,c < 256
theorem BytesIn.at {w x:World} {gb ob:Nat} {bs:List Nat} (h:BytesIn w gb ob bs) (hg:gb < w.heap.size) (hb:Below w.heap.size w x) (k:Nat) (hk:k < bs.length):x.cell? ⟨gb,ob + k,none⟩=some (.int .u8 (bs[k]:Int)):=
 (hb.cell (p:=⟨gb,ob + k,none⟩) hg).trans (h k hk)
def BytesAt (w:World) (b:Value) (bs:List Nat):Prop:=
 (b=.slice none 0 0∧bs=[]) ∨ ∃ g o cap,b=.slice (some ⟨g,o,none⟩) bs.length cap∧BytesIn w g o bs∧g < w.heap.size
theorem BytesAt.below {w x:World} {b:Value} {bs:List Nat} (h:BytesAt w b bs) (k:Below w.heap.size w x):BytesAt x b bs:=by
 rcases h with h | ⟨g,o,cap,h1,h2,h3⟩
 · exact .inl h
 · exact .inr ⟨g,o,cap,h1,fun j hj=>h2.at h3 k j hj,Nat.lt_of_lt_of_le h3 k.size⟩
theorem bd_u8 {n:Int} (h:(Lit.int .u8 n).wf=true):0≤n∧n < 256:=by
 simp [Lit.wf,IntKind.min,IntKind.max,IntKind.bits,IntKind.signed] at h; omega
theorem bd_i64 {n:Int} (h:(Lit.int .i64 n).wf=true):-9223372036854775808≤n∧n≤9223372036854775807:=by
 simp [Lit.wf,IntKind.min,IntKind.max,IntKind.bits,IntKind.signed] at h; omega
theorem addr_add (g o j:Nat):(⟨g,o,none⟩:Addr).add j=⟨g,o + j,none⟩:=by
 unfold Addr.add
 by_cases h:j=0
 · subst h; simp
 · simp [h]
theorem info_u8:(Tryz.prog.info? 5).map (fun i=>(i.zero,i.size,i.bytes))=some (some (.int .u8 0),1,1):=by kernel_rfl
abbrev u8v (bs:List Nat):List Value:=bs.map fun (n:Nat)=>Value.int .u8 (n:Int)
def RowU (x:World) (g cap:Nat) (bs:List Nat):Prop:=
 bs.length≤cap∧cap≤maxLen∧∃ cur:Array Value,x.heap[g]?=some (.cells cur 5 (0,0))∧cur.size=cap∧cur.toList.take bs.length=u8v bs
theorem RowU.lt {x:World} {g cap:Nat} {bs:List Nat} (h:RowU x g cap bs):g < x.heap.size:=by
 obtain ⟨_,_,cur,h4,_⟩:=h;exact (Array.getElem?_eq_some_iff.1 h4).1
theorem RowU.cell {x:World} {g cap:Nat} {bs:List Nat} (h:RowU x g cap bs) (j:Nat) (hj:j < bs.length):x.cell? ⟨g,j,none⟩=some (.int .u8 (bs[j]:Int))∧x.frozen? ⟨g,j,none⟩=false:=by
 obtain ⟨h2,h3,cur,h4,h5,h6⟩:=h;refine ⟨?_,?_⟩
 · have:cur[j]?=some (.int .u8 (bs[j]:Int)):=by
    rw [← Array.getElem?_toList];have e:(cur.toList.take bs.length)[j]?=some (.int .u8 (bs[j]:Int)):=by rw [h6,List.getElem?_map,List.getElem?_eq_getElem hj]; rfl
    rwa [List.getElem?_take_of_lt (by omega)] at e
   simp [World.cell?,h4,this]
 · simp [World.frozen?,h4]
theorem RowU.set {x:World} {g cap:Nat} {bs:List Nat} (h:RowU x g cap bs) (j b:Nat):RowU (x.setCell ⟨g,j,none⟩ (.int .u8 (b:Int))) g cap (bs.set j b):=by
 obtain ⟨h2,h3,cur,h4,h5,h6⟩:=h;refine ⟨by rw [List.length_set]; exact h2,h3,cur.setIfInBounds j (.int .u8 (b:Int)),?_,by simp [h5],?_⟩
 · rw [setCell_eq_setRow x g j cur _ (0,0) _ h4]; exact setRow_heap x g cur _ _ (0,0) h4
 · rw [List.length_set,Array.toList_setIfInBounds,List.take_set,h6]; exact List.map_set.symm
theorem RowU.at {x:World} {g cap:Nat} {bs:List Nat} (h:RowU x g cap bs):BytesAt x (.slice (some ⟨g,0,none⟩) bs.length cap) bs:=
 .inr ⟨g,0,cap,rfl,fun j hj=>by rw [Nat.zero_add]; exact (h.cell j hj).1,h.lt⟩
theorem bytes_one (bs:List Nat):∀ u ∈ u8v bs,u.oneCell'=true:=fun u hu=>by
 obtain ⟨b,_,rfl⟩:=List.mem_map.1 hu; rfl
def RowB (w:World) (base:Nat) (x:Value) (l:List Nat):Prop:=w.ownsRow base 5 1 x l.length (u8v l)
theorem RowB.form {w:World} {base:Nat} {x:Value} {l:List Nat} (h:RowB w base x l):(x=.slice none 0 0∧l=[]) ∨ ∃ g cap,x=.slice (some ⟨g,0,none⟩) l.length cap∧l.length≤cap∧base≤g∧g < w.heap.size:=by
 rcases h.2 with ⟨h1,h2⟩ | ⟨g,cap,cur,h1,h2,h3,h4,_⟩
 · exact .inl ⟨h1,List.length_eq_zero_iff.1 h2⟩
 · exact .inr ⟨g,cap,h1,h4,h2,(Array.getElem?_eq_some_iff.1 h3).1⟩
theorem RowB.at {w:World} {base:Nat} {x:Value} {l:List Nat} (h:RowB w base x l):BytesAt w x l:=by
 rcases h.form with h1 | ⟨g,cap,rfl,_,_,hl⟩
 · exact .inl h1
 · refine .inr ⟨g,0,cap,rfl,fun j hj=>?_,hl⟩;rw [Nat.zero_add];rw [World.ownsRow.cellAt h j (by omega),List.getElem?_map,List.getElem?_eq_getElem hj]; rfl
theorem rowB_one (w:World) (base:Nat) (b:Nat) (h:base≤w.heap.size):(w.alloc (.cells #[.int .u8 (b:Int)] 5)).ownsRow base 5 1 (.slice (some ⟨w.heap.size,0,none⟩) 1 1) 1 [.int .u8 (b:Int)]:=
 ⟨rfl,.inr ⟨w.heap.size,1,#[.int .u8 (b:Int)],rfl,h,World.alloc_heap_new w _,by omega,by unfold maxLen; omega,rfl,rfl⟩⟩
theorem new_bytes (w:World) (l:List Nat) (c:Array Value) (hc:c.toList=u8v l):BytesAt (w.alloc (.cells c 5)) (.slice (some ⟨w.heap.size,0,none⟩) l.length l.length) l:=by
 refine .inr ⟨w.heap.size,0,l.length,rfl,fun j hj=>?_,by simp⟩;have hb:(w.alloc (.cells c 5)).heap[w.heap.size]?=some (.cells c 5):=World.alloc_heap_new w _;simp only [World.cell?,hb,Nat.zero_add];rw [← Array.getElem?_toList,hc,List.getElem?_map,List.getElem?_eq_getElem hj];rfl
theorem txt_eq (a b:ByteArray):(a.toList == b.toList)=decide (a=b):=by
 rw [ByteArray.toList_eq,ByteArray.toList_eq]
 by_cases h:a=b
 · subst h; simp
 · rw [decide_eq_false h,beq_eq_false_iff_ne];exact fun e=>h (ByteArray.ext (Array.toList_inj.mp e))
theorem txt_no {a b:ByteArray} (h:¬ a=b):(a.toList == b.toList)=false:=by rw [txt_eq,decide_eq_false h]
def strOf (bs:List Nat):ByteArray:=strOfNums (bs.map fun (n:Nat)=>(n:Int))
theorem conv_at {x:World} {v:Value} {bs:List Nat} (h:BytesAt x v bs):(convert 23 9 v).run Tryz.prog x=.ok (.string (strOf bs)) x:=by
 rcases h with ⟨rfl,rfl⟩ | ⟨g,o,cap,rfl,hi,_⟩
 · exact run_convert_bytes_nil x 23 5 Tryz.underlying23 Tryz.underlying5 0 0 9 Tryz.underlying9
 · refine run_convert_bytes_arg x 23 5 Tryz.underlying23 Tryz.underlying5 g o bs.length cap (bs.map fun (n:Nat)=>(n:Int)) (by simp) ?_ 9 Tryz.underlying9;intro i hl;rw [hi i hl];simp [List.getD_eq_getElem?_getD,List.getElem?_map,List.getElem?_eq_getElem hl]
theorem snoc_ind {P:List Nat→Prop} (h0:P []) (h1:∀ bs c,P bs→P (bs ++ [c])):∀ bs,P bs:=by
 intro bs;have k:∀ n,∀ l:List Nat,l.length=n→P l:=by
  intro n
  induction n with
  | zero=>intro l h; rw [List.length_eq_zero_iff.1 h]; exact h0
  | succ n ih=>
   intro l h;have e:l=l.dropLast ++ [l.getLast (by intro e; rw [e] at h; cases h)]:=(List.dropLast_concat_getLast _).symm;rw [e];exact h1 _ _ (ih _ (by simp [h]))
 exact k _ bs rfl
theorem take_snoc (bs:List Nat) {k:Nat} (h:k < bs.length):bs.take (k + 1)=bs.take k ++ [bs[k]]:=(List.take_append_getElem h).symm
theorem take_bytes {bs:List Nat} (h:AllBytes bs) (k:Nat):AllBytes (bs.take k):=fun x hx=>h x (List.mem_of_mem_take hx)
def bigL (v:Nat):Nat→List Nat
 | 0=>[]
 | n + 1=>bigL (v / 256) n ++ [v % 256]
theorem bigL_len (n:Nat):∀ v,(bigL v n).length=n:=by
 induction n with
 | zero=>intro v; rfl
 | succ n ih=>intro v; simp [bigL,ih]
theorem bigL_cons (n:Nat):∀ v,bigL v (n + 1)=(v / 256 ^ n % 256) :: bigL v n:=by
 induction n with
 | zero=>intro v; simp [bigL]
 | succ n ih=>
  intro v;rw [bigL,ih]
  conv=>rhs; rw [bigL]
  rw [List.cons_append,Nat.div_div_eq_div_mul,Nat.pow_succ,Nat.mul_comm 256]
end Go.Proofs.YthabffjgdhfbmaaGreatDoor
namespace Go.Proofs.YthabffjgdhfbmaaGreatDoor
open Go.RowKit
def txt (w:Wd):ByteArray:=⟨w.toArray⟩
theorem txt_inj {a b:Wd} (h:txt a=txt b):a=b:=by
 have e:(txt a).data.toList=(txt b).data.toList:=by rw [h]
 exact e
theorem txt_size (w:Wd):(txt w).size=w.length:=by unfold txt; simp [ByteArray.size]
theorem txt_of (s:ByteArray):txt s.data.toList=s:=by unfold txt; simp
def StrsIn (x:World) (g o:Nat) (ws:List Wd):Prop:=∀ j (h:j < ws.length),x.cell? ⟨g,o + j,none⟩=some (.string (txt ws[j]))
def StrsAt (x:World) (v:Value) (ws:List Wd):Prop:=(v=.slice none 0 0∧ws=[]) ∨ ∃ g o cap,v=.slice (some ⟨g,o,none⟩) ws.length cap∧StrsIn x g o ws∧g < x.heap.size
def RowIn (x:World) (g a:Nat) (r:Ln):Prop:=x.cell? ⟨g,a,none⟩=some (.int .i64 (r.1:Int))∧∃ u,x.cell? ⟨g,a + 1,none⟩=some u∧StrsAt x u r.2
def RowsAt (x:World) (v:Value) (rs:List Ln):Prop:=(v=.slice none 0 0∧rs=[]) ∨ ∃ g o cap,v=.slice (some ⟨g,o,none⟩) rs.length cap∧(∀ j (h:j < rs.length),RowIn x g (o + 2 * j) rs[j])∧g < x.heap.size
abbrev strV (ws:List Wd):List Value:=ws.map fun w=>Value.string (txt w)
abbrev Dn:=Ln × Value
def dnC (fs:List Dn):List Value:=fs.flatMap fun f=>[.int .i64 (f.1.1:Int),f.2]
theorem dnC_snoc (fs:List Dn) (f:Dn):dnC (fs ++ [f])=dnC fs ++ [.int .i64 (f.1.1:Int),f.2]:=by unfold dnC; simp
theorem dnC_get {fs:List Dn} {j:Nat} (h:j < fs.length):(dnC fs)[2 * j]?=some (.int .i64 (fs[j].1.1:Int))∧(dnC fs)[2 * j + 1]?=some fs[j].2:=by
 induction fs generalizing j with
 | nil=>cases h
 | cons f fs ih=>
  unfold dnC at *;rw [List.flatMap_cons]
  cases j with
  | zero=>exact ⟨rfl,rfl⟩
  | succ j=>
   have:=ih (j:=j) (by simpa using h);rw [show 2 * (j + 1)=2 * j + 2 by omega];simp only [List.getElem_cons_succ];exact this
structure DnOk (w x:World) (f:Dn) (a b:Option Nat):Prop where
 sl:∃ g cap,(f.2=.slice (some ⟨g,0,none⟩) f.1.2.length cap∧f.1.2.length≤cap)∧StrsIn x g 0 f.1.2∧g < x.heap.size∧some g ≠ a∧some g ≠ b
 one:f.2.oneCell'=true
structure LxSt (w x:World) (T:TypeId) (vo vw:Value) (fs:List Dn) (ws:List Wd):Prop where
 ro:x.ownsRow w.heap.size T 2 vo fs.length (dnC fs)
 rw:x.ownsRow w.heap.size 9 1 vw ws.length (strV ws)
 fin:∀ f ∈ fs,DnOk w x f vo.ownBlock vw.ownBlock
 ne:vo.ownBlock=none ∨ vo.ownBlock ≠ vw.ownBlock
 b:Below w.heap.size w x
theorem own_slice {x:World} {base:Nat} {e:TypeId} {size:Nat} {v:Value} {n:Nat} {xs:List Value} (h:x.ownsRow base e size v n xs):(v=.slice none 0 0∧n=0) ∨ ∃ g cap,v=.slice (some ⟨g,0,none⟩) n cap∧base≤g∧g < x.heap.size:=by
 rcases h.2 with h1 | ⟨g,cap,cur,h1,h2,h3,_⟩
 · exact .inl h1
 · exact .inr ⟨g,cap,h1,h2,(Array.getElem?_eq_some_iff.1 h3).1⟩
theorem own_room {x:World} {base:Nat} {e:TypeId} {size:Nat} {v:Value} {n:Nat} {xs:List Value} (h:x.ownsRow base e size v n xs):∀ p m c,v=.slice p m c→m≤c:=by
 rcases h.2 with ⟨h1,_⟩ | ⟨g,cap,cur,h1,_,_,h4,_⟩
 · intro p m c e; rw [h1] at e; injection e with _ e1 e2; omega
 · intro p m c e; rw [h1] at e; injection e with _ e1 e2; omega
theorem LxSt.letGo {w x:World} {T:TypeId} {vo vw:Value} {fs:List Dn} {ws:List Wd} (h:LxSt w x T vo vw fs ws):LxSt w x T vo (.slice none 0 0) fs []:=
 ⟨h.ro,World.ownsRow_nil _ _ _ _,fun f hf=>by
  obtain ⟨⟨g,cap,q1,q2,q3,q4,q5⟩,q6⟩:=h.fin f hf;exact ⟨⟨g,cap,q1,q2,q3,q4,by simp [Value.ownBlock]⟩,q6⟩,by
  cases hvo:vo.ownBlock with
  | none=>exact .inl rfl
  | some g=>right; simp [Value.ownBlock],h.b⟩
theorem LxSt.line {w x y:World} {T:TypeId} {vo vw v':Value} {fs:List Dn} {ws:List Wd} {o:Obj} (h:LxSt w x T vo vw fs ws) (hws:¬ ws=[]) (l:Nat) (hown:y.ownsRow w.heap.size T 2 v' (fs.length + 1) (dnC fs ++ [.int .i64 (l:Int),vw])) (hg:(x.alloc o).grownBy y vo.ownBlock) (hv:v'.ownBlock=vo.ownBlock ∨ v'.ownBlock=some (x.alloc o).heap.size):LxSt w y T v' (.slice none 0 0) (fs ++ [((l,ws),vw)]) []:=by
 have lw:=World.ownsRow.lt h.rw;have eh:∀ {g:Nat},g < x.heap.size→some g ≠ vo.ownBlock→some g ≠ v'.ownBlock:=fun {g} hg1 hg2=>by
  rcases hv with hv | hv
  · rw [hv]; exact hg2
  · rw [hv,World.size_alloc]; intro e; have:=Option.some.inj e; omega
 obtain ⟨gw,capw,hvw,_,hgw⟩:∃ g cap,vw=.slice (some ⟨g,0,none⟩) ws.length cap∧w.heap.size≤g∧g < x.heap.size:=by
  rcases own_slice h.rw with ⟨_,e⟩ | k
  · exact absurd (List.length_eq_zero_iff.1 e) hws
  · exact k
 have nw:some gw ≠ vo.ownBlock:=by
  rcases h.ne with h1 | h1
  · rw [h1]; simp
  · rw [hvw] at h1; exact fun e=>h1 e.symm
 refine ⟨?_,World.ownsRow_nil _ _ _ _,?_,?_,?_⟩
 · rw [List.length_append,List.length_singleton,dnC_snoc]; exact hown
 · intro f hf;rcases List.mem_append.1 hf with hf | hf
   · obtain ⟨⟨g0,cap0,q1,q2,q3,q4,q5⟩,q6⟩:=h.fin f hf;exact ⟨⟨g0,cap0,q1,fun j hj=>hg.cell ((World.grownBy_alloc x o none).cell (q2 j hj) (by simp)) q4,Nat.lt_of_lt_of_le q3 (Nat.le_trans (World.grownBy_alloc x o none).size hg.size),eh q3 q4,by simp [Value.ownBlock]⟩,q6⟩
   · obtain rfl:=List.mem_singleton.1 hf;refine ⟨⟨gw,capw,⟨hvw,own_room h.rw _ _ _ hvw⟩,fun j hj=>?_,Nat.lt_of_lt_of_le hgw (Nat.le_trans (World.grownBy_alloc x o none).size hg.size),eh hgw nw,by simp [Value.ownBlock]⟩,by rw [hvw]; rfl⟩;have hc:x.cell? ⟨gw,0 + j,none⟩=some (.string (txt ws[j])):=by
      have hj':j < ws.length:=hj;have k:=h.rw;rw [hvw] at k;rw [Nat.zero_add,World.ownsRow.cellAt k j (by omega),List.getElem?_map,List.getElem?_eq_getElem hj'];rfl
     exact hg.cell ((World.grownBy_alloc x o none).cell hc (by simp)) nw
 · cases hvo:v'.ownBlock with
   | none=>exact .inl rfl
   | some g=>right; simp [Value.ownBlock]
 · exact (h.b.alloc h.b.size _).grown hg (by have:=h.b.size; rw [World.size_alloc]; omega) (fun k e=>(World.ownsRow.lt h.ro k e).1)
theorem LxSt.rows {w x:World} {T:TypeId} {vo vw:Value} {fs:List Dn} {ws:List Wd} (h:LxSt w x T vo vw fs ws):RowsAt x vo (fs.map (·.1)):=by
 rcases own_slice h.ro with ⟨h1,h2⟩ | ⟨g,cap,h1,h2,h3⟩
 · exact .inl ⟨h1,by rw [List.length_eq_zero_iff.1 h2]; rfl⟩
 · refine .inr ⟨g,0,cap,by rw [List.length_map]; exact h1,?_,h3⟩;intro j hj;have hj':j < fs.length:=by rwa [List.length_map] at hj
   have k:=h.ro;rw [h1] at k;obtain ⟨c1,c2⟩:=dnC_get hj';rw [List.getElem_map];refine ⟨?_,fs[j].2,?_,?_⟩
   · rw [Nat.zero_add,World.ownsRow.cellAt k _ (by omega)]; exact c1
   · rw [Nat.zero_add,World.ownsRow.cellAt k _ (by omega)]; exact c2
   · obtain ⟨⟨g0,cap0,q1,q2,q3,q4,q5⟩,q6⟩:=h.fin fs[j] (List.getElem_mem hj');exact .inr ⟨g0,0,cap0,q1.1,q2,q3⟩
def RowInC (x:World) (g a:Nat) (r:Ln):Prop:=x.cell? ⟨g,a,none⟩=some (.int .i64 (r.1:Int))∧∃ u,x.cell? ⟨g,a + 1,none⟩=some u∧StrsAt x u r.2∧∀ p m c,u=.slice p m c→m≤c
def RowsAtC (x:World) (v:Value) (rs:List Ln):Prop:=(v=.slice none 0 0∧rs=[]) ∨ ∃ g o cap,v=.slice (some ⟨g,o,none⟩) rs.length cap∧(∀ j (h:j < rs.length),RowInC x g (o + 2 * j) rs[j])∧g < x.heap.size
theorem LxSt.rowsC {w x:World} {T:TypeId} {vo vw:Value} {fs:List Dn} {ws:List Wd} (h:LxSt w x T vo vw fs ws):RowsAtC x vo (fs.map (·.1)):=by
 rcases own_slice h.ro with ⟨h1,h2⟩ | ⟨g,cap,h1,h2,h3⟩
 · exact .inl ⟨h1,by rw [List.length_eq_zero_iff.1 h2]; rfl⟩
 · refine .inr ⟨g,0,cap,by rw [List.length_map]; exact h1,?_,h3⟩;intro j hj;have hj':j < fs.length:=by rwa [List.length_map] at hj
   have k:=h.ro;rw [h1] at k;obtain ⟨c1,c2⟩:=dnC_get hj';rw [List.getElem_map];refine ⟨?_,fs[j].2,?_,?_,?_⟩
   · rw [Nat.zero_add,World.ownsRow.cellAt k _ (by omega)]; exact c1
   · rw [Nat.zero_add,World.ownsRow.cellAt k _ (by omega)]; exact c2
   · obtain ⟨⟨g0,cap0,q1,q2,q3,q4,q5⟩,q6⟩:=h.fin fs[j] (List.getElem_mem hj');exact .inr ⟨g0,0,cap0,q1.1,q2,q3⟩
   · obtain ⟨⟨g0,cap0,q1,q2,q3,q4,q5⟩,q6⟩:=h.fin fs[j] (List.getElem_mem hj');intro p m c e;rw [q1.1] at e;injection e with _ e1 e2
     have:=q1.2;omega
def fdC (f:Fd):List Value:=[.string (txt f.nm),.int .i64 f.pl,.string (txt f.kd),.int .i64 f.wd,.int .i64 f.sn,.int .i64 f.sd,.int .i64 f.on,.int .i64 f.od,.string (txt f.un)]
theorem fdC_len (f:Fd):(fdC f).length=9:=rfl
abbrev dvV (d:Dv) (fv qv:Value):Value:=.agg #[.string (txt d.nm),.int .i64 d.st,.int .i64 d.es,.int .i64 d.mx,.int .i64 d.sz,.string (txt d.sm),fv,qv,.int .i64 d.po,.int .i64 d.ti,.int .i64 d.re,.int .i64 d.ag]
def FldsIn (x:World) (g o:Nat) (fs:List Fd):Prop:=∀ j (h:j < fs.length) k v,(fdC fs[j])[k]?=some v→x.cell? ⟨g,o + 9 * j + k,none⟩=some v
def FldsAt (x:World) (v:Value) (fs:List Fd):Prop:=(v=.slice none 0 0∧fs=[]) ∨ ∃ g o cap,v=.slice (some ⟨g,o,none⟩) fs.length cap∧fs.length≤cap∧FldsIn x g o fs∧g < x.heap.size
theorem FldsAt.below {x y:World} {v:Value} {fs:List Fd} (h:FldsAt x v fs) (k:Below x.heap.size x y):FldsAt y v fs:=by
 rcases h with h | ⟨g,o,cap,h1,h0,h2,h3⟩
 · exact .inl h
 · exact .inr ⟨g,o,cap,h1,h0,fun j hj i u hu=>(k.cell (p:=⟨g,o + 9 * j + i,none⟩) h3).trans (h2 j hj i u hu),Nat.lt_of_lt_of_le h3 k.size⟩
theorem cell_two_new (w:World) (a b:Value) (t:TypeId):∀ j u,[a,b][j]?=some u→(w.alloc (.cells #[a,b] t)).cell? ((⟨w.heap.size,0,none⟩:Addr).add j)=some u:=by
 intro j u hj
 match j,hj with
 | 0,hj=>simp at hj; subst hj; simp [Addr.add]
 | 1,hj=>simp at hj; subst hj; simp [Addr.add]
theorem info_st:(Tryz.prog.info? 9).map (fun i=>(i.zero,i.size,i.bytes))=some (some (.string ⟨#[]⟩),1,16):=by kernel_rfl
theorem str_cell {x:World} {base:Nat} {g cap n:Nat} {ws:List Wd} {w0:Wd} {r:List Wd} (h:x.ownsRow base 9 1 (.slice (some ⟨g,0,none⟩) n cap) n (strV ws)) (hn:0 < n) (hw:ws=w0 :: r):x.cell? ⟨g,0,none⟩=some (.string (txt w0)):=by
 rw [World.ownsRow.cellAt h 0 (by omega),hw]; rfl
theorem map_dn (fs:List Dn) (f:Dn):(fs ++ [f]).map (·.1)=fs.map (·.1) ++ [f.1]:=by simp
end Go.Proofs.YthabffjgdhfbmaaGreatDoor
namespace Go.Proofs.YthabffjgdhfbmaaGreatDoor
theorem region_props3 {G:Type} {P:Program} {id:Nat} {L:List Oper} {Q:Exit→Act→World→Prop} (Pv:G→Array Bool→Nat→Value→World→Prop) (W:G→Array Bool→World→Prop) (g0:G) {a0:Act} {w0:World}
 (hm:P.follows .mixedOrders=true) (hb:regB L a0.tmps.size=true)
 (step:∀ (γ:G) x a w i o,L[i]?=some o→RegI L a0.tmps a0.defers (Pv γ x) x a w→(∀ e ∈ o.after,Region.binds .any e=true→x.getD e.on false=true)→x.size=L.length→x.getD i true=false→W γ x w →
  o.wp P a w (fun a' w'=>∃ v γ',a'=a.put o.dst v∧(∀ d,o.dst=some d→Pv γ' (x.setIfInBounds i true) i v w')∧(∀ j v,x.getD j false=true→Pv γ x j v w→Pv γ' (x.setIfInBounds i true) j v w')∧W γ' (x.setIfInBounds i true) w') Q)
 (fin:∀ γ x a w,x.size=L.length→(∀ i,i < L.length→x.getD i false=true)→RegI L a0.tmps a0.defers (Pv γ x) x a w→W γ x w→Q .normal a w)
 (h0:W g0 (Array.replicate L.length false) { w0 with drawn:=w0.drawn + 1 }):(Code.region id L.toArray true).wp P Q a0 w0:=by
 refine wp_region_any hm ?_;have hs:L.toArray.size=L.length:=List.size_toArray;refine wpAny_inv (fun x a w=>∃ γ,RegI L a0.tmps a0.defers (Pv γ x) x a w∧W γ x w) ?_ ?_ _ _ _ _ (by simp) ?_ ?_
 · rintro x a w i hx ⟨γ,hI,hW⟩ hr;obtain ⟨h1,o,ho,haf⟩:=mem_ready.1 hr;have ho':L[i]?=some o:=by rwa [List.getElem?_toArray] at ho
   have gd:=regB_spec hb ho';have hwant:Region.wanted o (yielded L.toArray a.tmps)=true:=by unfold Region.wanted; rw [gd.1]
   unfold wpOp;simp only [ho,hwant,if_true];refine .inl (Oper.wp_mono ?_ (step γ x a w i o ho' hI haf (by rw [hx,hs]) h1 hW));rintro a' w' ⟨v,γ',rfl,hv,hrl,hW'⟩;refine ⟨γ',?_,hW'⟩;have hxi:i < x.size:=by rw [hx]; exact (Array.getElem?_eq_some_iff.1 ho).1
   cases hd:o.dst with
   | none=>
    refine ⟨hI.dfr,hI.size,hI.old,fun j p d hp hpd hxj=>?_⟩;have hji:j ≠ i:=fun e=>by
     subst e;rw [ho'] at hp
     cases hp
     rw [hd] at hpd
     cases hpd
    rw [getD_set_ne false (Ne.symm hji)] at hxj;exact hrl _ _ hxj (hI.val j p d hp hpd hxj)
   | some d=>
    have gdd:=gd.2 d hd;refine ⟨hI.dfr,?_,fun t ht=>?_,fun j p e hp hpe hxj=>?_⟩
    · show (a.tmps.setIfInBounds d v).size=_;rw [Array.size_setIfInBounds]; exact hI.size
    · rw [put_off a v (fun e=>ht i o ho' (by rw [hd,e]))]; exact hI.old t ht
    · by_cases hji:j=i
      · subst hji;rw [ho'] at hp
        cases hp
        rw [hd] at hpe
        cases hpe
        rw [put_at a v (by rw [hI.size]; exact gdd.1)];exact hv d hd
      · rw [getD_set_ne false (Ne.symm hji)] at hxj;have hne:=regB_ne hb ho' hp (Ne.symm hji) hd;rw [put_off a v (fun h=>hne (by rw [hpe,h]))];exact hrl _ _ hxj (hI.val j p e hp hpe hxj)
 · rintro x a w hx ⟨γ,hI,hW⟩ hr;refine fin γ x a w (by rw [hx,hs]) (fun i hi=>?_) hI hW
   cases hf:x.getD i false with
   | true=>rfl
   | false=>
    obtain ⟨j,hj,hj2⟩:=ready_some (Bool.and_eq_true_iff.1 hb).1 (by rw [hx,hs]) i hi hf;rw [hr] at hj2
    cases hj2
 · have e:∀ n:Nat,left (Array.replicate n false)=n:=fun n=>by unfold left; simp
   rw [e,hs];exact Nat.le_refl _
 · refine ⟨g0,⟨rfl,rfl,fun _ _=>rfl,fun i o d _ _ hx=>?_⟩,by rw [hs]; exact h0⟩
   exfalso
   rw [Array.getD_eq_getD_getElem?] at hx
   by_cases hlt:i < L.length
   · rw [Array.getElem?_replicate,hs,if_pos hlt] at hx
     cases hx
   · rw [Array.getElem?_replicate,hs,if_neg hlt] at hx
     cases hx
def putsL (V:Nat→Value):List Oper→Nat→Array Value→Array Value
 | [],_,T=>T
 | o :: L,i,T=>putsL V L (i + 1) (match o.dst with
  | some d=>T.setIfInBounds d (V i)
  | none=>T)
theorem putsL_size (V:Nat→Value):∀ (L:List Oper) (i:Nat) (T:Array Value),(putsL V L i T).size=T.size
 | [],_,_=>rfl
 | o :: L,i,T=>by
  unfold putsL;rw [putsL_size V L]
  split
  · exact Array.size_setIfInBounds
  · rfl
theorem putsL_off (V:Nat→Value) (t:Tmp):∀ (L:List Oper) (i:Nat) (T:Array Value),(∀ (j:Nat) (o:Oper),L[j]?=some o→o.dst ≠ some t)→(putsL V L i T).getD t undef=T.getD t undef
 | [],_,_,_=>rfl
 | o :: L,i,T,h=>by
  unfold putsL;rw [putsL_off V t L _ _ (fun j p hp=>h (j + 1) p hp)];have h0:=h 0 o rfl
  cases hd:o.dst with
  | none=>rfl
  | some d=>
   have hn:d ≠ t:=fun e=>h0 (by rw [hd,e])
   simp only;rw [Array.getD_eq_getD_getElem?,Array.getD_eq_getD_getElem?,Array.getElem?_setIfInBounds_ne hn]
theorem putsL_at (V:Nat→Value) {d:Tmp}:∀ (L:List Oper) (i:Nat) (T:Array Value) (j:Nat) (o:Oper),L[j]?=some o→o.dst=some d→d < T.size→(∀ (k:Nat) (p:Oper),k ≠ j→L[k]?=some p→p.dst ≠ some d)→(putsL V L i T).getD d undef=V (i + j)
 | [],_,_,j,o,ho,_,_,_=>by cases ho
 | p :: L,i,T,0,o,ho,hd,hs,hu=>by
  obtain rfl:p=o:=Option.some.inj ho;unfold putsL;rw [putsL_off V d L _ _ (fun k q hq=>hu (k + 1) q (by omega) hq),hd];simp only;rw [Array.getD_eq_getD_getElem?,Array.getElem?_setIfInBounds_self_of_lt hs];rfl
 | p :: L,i,T,j + 1,o,ho,hd,hs,hu=>by
  unfold putsL;rw [putsL_at V L (i + 1) _ j o ho hd (by split <;> simpa using hs) (fun k q hk hq=>hu (k + 1) q (by omega) hq)]
  congr 1
  omega
theorem RegI.tmps {L:List Oper} {T0:Array Value} {D0:List Deferred} {V:Nat→Value} {x:Array Bool} {a:Act} {w:World} (h:RegI L T0 D0 (fun i v _=>v=V i) x a w) (hb:regB L T0.size=true) (hall:∀ i,i < L.length→x.getD i false=true):a=⟨putsL V L 0 T0,D0⟩:=by
 obtain ⟨T,D⟩:=a;have e1:D=D0:=h.dfr;subst e1;have e2:T.size=T0.size:=h.size
 congr 1
 refine Array.ext (by rw [e2,putsL_size]) fun t h1 h2=>?_
 have g:T.getD t undef=(putsL V L 0 T0).getD t undef:=by
  by_cases hc:∃ (i:Nat) (o:Oper),L[i]?=some o∧o.dst=some t
  · obtain ⟨i,o,ho,hd⟩:=hc;have k:=h.val i o t ho hd (hall i (List.getElem?_eq_some_iff.1 ho).1);rw [putsL_at V L 0 T0 i o ho hd ((regB_spec hb ho).2 t hd).1 (fun j p hj hp=>regB_ne hb ho hp (Ne.symm hj) hd),Nat.zero_add];exact k
  · have hn:∀ (i:Nat) (o:Oper),L[i]?=some o→o.dst ≠ some t:=fun i o ho hd=>hc ⟨i,o,ho,hd⟩
    rw [putsL_off V t L 0 T0 hn];exact h.old t hn
 rw [Array.getD_eq_getD_getElem?,Array.getD_eq_getD_getElem?,Array.getElem?_eq_getElem h1,Array.getElem?_eq_getElem h2] at g;exact g
end Go.Proofs.YthabffjgdhfbmaaGreatDoor
namespace Go.Proofs.YthabffjgdhfbmaaGreatDoor
theorem RegI.slots {L:List Oper} {T0:Array Value} {D0:List Deferred} {Pv:Nat→Value→World→Prop} {x:Array Bool} {a:Act} {w:World} (h:RegI L T0 D0 Pv x a w) (hb:regB L T0.size=true) (hall:∀ i,i < L.length→x.getD i false=true):∃ V:Nat→Value,a=⟨putsL V L 0 T0,D0⟩:=by
 refine ⟨fun i=>match L[i]? with
  | some o=>(match o.dst with
   | some d=>a.tmps.getD d undef
   | none=>undef)
  | none=>undef,?_⟩
 refine RegI.tmps (x:=x) (w:=w) ⟨h.dfr,h.size,h.old,fun i o d ho hd _=>?_⟩ hb hall;simp only [ho,hd]
end Go.Proofs.YthabffjgdhfbmaaGreatDoor
namespace Go.Proofs.YthabffjgdhfbmaaGreatDoor
open Go.RowKit
def fdCs (fs:List Fd):List Value:=fs.flatMap fdC
theorem fdCs_snoc (fs:List Fd) (f:Fd):fdCs (fs ++ [f])=fdCs fs ++ fdC f:=by unfold fdCs; simp
theorem rd_cell {x:World} {B:Nat} {C:Array Value} {t:TypeId} (h:x.heap[B]?=some (.cells C t (0,0))) (i:Nat):x.cell? ⟨B,i,none⟩=C[i]?∧x.frozen? ⟨B,i,none⟩=false:=by
 constructor
 · simp [World.cell?,h]
 · simp [World.frozen?,h]
theorem rd_set {x:World} {B:Nat} {C:Array Value} {t:TypeId} (h:x.heap[B]?=some (.cells C t (0,0))) (i:Nat) (v:Value):(x.setCell ⟨B,i,none⟩ v).heap[B]?=some (.cells (C.setIfInBounds i v) t (0,0)):=by
 rw [setCell_eq_setRow _ _ i C _ (0,0) _ h]; exact setRow_heap _ _ C _ _ (0,0) h
abbrev dz:Array Value:=#[.string ⟨#[]⟩,.int .i64 0,.int .i64 0,.int .i64 0,.int .i64 0,.string ⟨#[]⟩,.slice none 0 0,.slice none 0 0,.int .i64 0,.int .i64 0,.int .i64 0,.int .i64 0]
abbrev dvA (d:Dv) (fv qv:Value):Array Value:=#[.string (txt d.nm),.int .i64 d.st,.int .i64 d.es,.int .i64 d.mx,.int .i64 d.sz,.string (txt d.sm),fv,qv,.int .i64 d.po,.int .i64 d.ti,.int .i64 d.re,.int .i64 d.ag]
def put12 (y:World) (R:Nat) (v0 v1 v2 v3 v4 v5 v6 v7 v8 v9 v10 v11:Value):World:=(((((((((((y.setCell ⟨R,0,none⟩ v0).setCell ⟨R,1,none⟩ v1).setCell ⟨R,2,none⟩ v2).setCell ⟨R,3,none⟩ v3).setCell ⟨R,4,none⟩ v4).setCell ⟨R,5,none⟩ v5).setCell ⟨R,6,none⟩ v6).setCell ⟨R,7,none⟩ v7).setCell ⟨R,8,none⟩ v8).setCell ⟨R,9,none⟩ v9).setCell ⟨R,10,none⟩ v10).setCell ⟨R,11,none⟩ v11
theorem put12_at {y:World} {R:Nat} {a0 a1 a2 a3 a4 a5 a6 a7 a8 a9 a10 a11:Value} {t:TypeId} (h:y.heap[R]?=some (.cells #[a0,a1,a2,a3,a4,a5,a6,a7,a8,a9,a10,a11] t (0,0))) (v0 v1 v2 v3 v4 v5 v6 v7 v8 v9 v10 v11:Value) :
 (put12 y R v0 v1 v2 v3 v4 v5 v6 v7 v8 v9 v10 v11).heap[R]?=some (.cells #[v0,v1,v2,v3,v4,v5,v6,v7,v8,v9,v10,v11] t (0,0)):=by
 unfold put12;refine (rd_set (rd_set (rd_set (rd_set (rd_set (rd_set (rd_set (rd_set (rd_set (rd_set (rd_set (rd_set h 0 v0) 1 v1) 2 v2) 3 v3) 4 v4) 5 v5) 6 v6) 7 v7) 8 v8) 9 v9) 10 v10) 11 v11).trans ?_;simp only [List.setIfInBounds_toArray,List.set_cons_zero,List.set_cons_succ]
theorem put12_below {w y:World} {L R:Nat} (h:Below L w y) (hR:L≤R) (v0 v1 v2 v3 v4 v5 v6 v7 v8 v9 v10 v11:Value):Below L w (put12 y R v0 v1 v2 v3 v4 v5 v6 v7 v8 v9 v10 v11):=by
 unfold put12
 repeat (refine Below.setCell ?_ hR _)
 exact h
theorem put12_off {y:World} {R k:Nat} (hk:k ≠ R) (v0 v1 v2 v3 v4 v5 v6 v7 v8 v9 v10 v11:Value):(put12 y R v0 v1 v2 v3 v4 v5 v6 v7 v8 v9 v10 v11).heap[k]?=y.heap[k]?:=by
 unfold put12;simp only [Below.heap_setCell _ _ _ _ (show k ≠ (⟨R,_,none⟩:Addr).block from hk)]
theorem fdCs_get:∀ (fs:List Fd) (j k:Nat) (h:j < fs.length),k < 9→(fdCs fs)[9 * j + k]?=(fdC fs[j])[k]?
 | [],j,k,h,_=>by cases h
 | f :: fs,0,k,h,hk=>by
  unfold fdCs;rw [List.flatMap_cons,Nat.mul_zero,Nat.zero_add,List.getElem?_append_left (by rw [fdC_len]; exact hk)];rfl
 | f :: fs,j + 1,k,h,hk=>by
  have ih:=fdCs_get fs j k (by simpa using h) hk;unfold fdCs at *;rw [List.flatMap_cons,List.getElem?_append_right (by rw [fdC_len]; omega),fdC_len,show 9 * (j + 1) + k - 9=9 * j + k by omega,ih];rfl
theorem belowT2 {a b c:World} (h:Below a.heap.size a b) (k:Below b.heap.size b c):Below a.heap.size a c:=h.trans (k.mono h.size)
theorem kp {w x:World} {p:Addr} {v:Value} (h:Below w.heap.size w x) (hc:w.cell? p=some v):x.cell? p=some v:=(h.cell (block_lt_of_cell hc)).trans hc
theorem kpf {w x:World} {p:Addr} {v:Value} (h:Below w.heap.size w x) (hc:w.cell? p=some v) (hf:w.frozen? p=false):x.frozen? p=false:=(h.frozen (block_lt_of_cell hc)).trans hf
theorem ownsRow_below {w x:World} {base:Nat} {e:TypeId} {size:Nat} {v:Value} {n:Nat} {xs:List Value} (hb:Below w.heap.size w x) (h:w.ownsRow base e size v n xs):x.ownsRow base e size v n xs:=by
 refine ⟨h.1,?_⟩;rcases h.2 with h | ⟨g,cap,cur,h1,h2,h3,h4⟩
 · exact .inl h
 · exact .inr ⟨g,cap,cur,h1,h2,(hb.block g (Array.getElem?_eq_some_iff.1 h3).1).trans h3,h4⟩
theorem info_fd:(Tryz.prog.info? 70).map (fun i=>(i.zero,i.size,i.bytes))=some (some (.agg #[.string ⟨#[]⟩,.int .i64 0,.string ⟨#[]⟩,.int .i64 0,.int .i64 0,.int .i64 0,.int .i64 0,.int .i64 0,.string ⟨#[]⟩]),9,96):=by kernel_rfl
def ApY (w8:World) (base m:Nat) (xs:List Value) (fv:Value) (fc:List Value) (y:World) (v:Value):Prop:=
 ∃ gg cap',v=.slice (some ⟨gg,0,none⟩) (m + 1) cap'∧y.ownsRow base 70 9 v (m + 1) (xs ++ fc)∧w8.grownBy y fv.ownBlock∧(fv.ownBlock=some gg ∨ w8.heap.size≤gg)
def ApR (w8:World) (base B m:Nat) (xs:List Value) (fv:Value) (fc:List Value) (v:Value) (x:World):Prop:=
 ApY w8 base m xs fv fc x v ∨ ∃ u,x.cell? ⟨B,6,none⟩=some u∧u ≠ fv
theorem rd12 {x:World} {B:Nat} {v0 v1 v2 v3 v4 v5 v6 v7 v8 v9 v10 v11:Value} {t:TypeId} (h:x.heap[B]?=some (.cells #[v0,v1,v2,v3,v4,v5,v6,v7,v8,v9,v10,v11] t (0,0))) :
 x.cell? ⟨B,0,none⟩=some v0∧x.frozen? ⟨B,0,none⟩=false∧x.cell? ⟨B,1,none⟩=some v1∧x.frozen? ⟨B,1,none⟩=false∧x.cell? ⟨B,2,none⟩=some v2∧x.frozen? ⟨B,2,none⟩=false∧x.cell? ⟨B,3,none⟩=some v3∧x.frozen? ⟨B,3,none⟩=false∧x.cell? ⟨B,4,none⟩=some v4∧x.frozen? ⟨B,4,none⟩=false∧x.cell? ⟨B,5,none⟩=some v5∧x.frozen? ⟨B,5,none⟩=false∧x.cell? ⟨B,6,none⟩=some v6∧x.frozen? ⟨B,6,none⟩=false∧x.cell? ⟨B,7,none⟩=some v7∧x.frozen? ⟨B,7,none⟩=false∧x.cell? ⟨B,8,none⟩=some v8∧x.frozen? ⟨B,8,none⟩=false∧x.cell? ⟨B,9,none⟩=some v9∧x.frozen? ⟨B,9,none⟩=false∧x.cell? ⟨B,10,none⟩=some v10∧x.frozen? ⟨B,10,none⟩=false∧x.cell? ⟨B,11,none⟩=some v11∧x.frozen? ⟨B,11,none⟩=false:=by
 have c:=rd_cell h;exact ⟨(c 0).1,(c 0).2,(c 1).1,(c 1).2,(c 2).1,(c 2).2,(c 3).1,(c 3).2,(c 4).1,(c 4).2,(c 5).1,(c 5).2,(c 6).1,(c 6).2,(c 7).1,(c 7).2,(c 8).1,(c 8).2,(c 9).1,(c 9).2,(c 10).1,(c 10).2,(c 11).1,(c 11).2⟩
abbrev putD (y:World) (R:Nat) (d:Dv) (f q:Value):World:=put12 y R (.string (txt d.nm)) (.int .i64 d.st) (.int .i64 d.es) (.int .i64 d.mx) (.int .i64 d.sz) (.string (txt d.sm)) f q (.int .i64 d.po) (.int .i64 d.ti) (.int .i64 d.re) (.int .i64 d.ag)
theorem putD_at {y:World} {R:Nat} {a0 a1 a2 a3 a4 a5 a6 a7 a8 a9 a10 a11:Value} {t:TypeId} (h:y.heap[R]?=some (.cells #[a0,a1,a2,a3,a4,a5,a6,a7,a8,a9,a10,a11] t (0,0))) (d:Dv) (f q:Value):(putD y R d f q).heap[R]?=some (.cells #[.string (txt d.nm),.int .i64 d.st,.int .i64 d.es,.int .i64 d.mx,.int .i64 d.sz,.string (txt d.sm),f,q,.int .i64 d.po,.int .i64 d.ti,.int .i64 d.re,.int .i64 d.ag] t (0,0)):=put12_at h _ _ _ _ _ _ _ _ _ _ _ _
theorem putD_below {w y:World} {L R:Nat} (h:Below L w y) (hR:L≤R) (d:Dv) (f q:Value):Below L w (putD y R d f q):=put12_below h hR _ _ _ _ _ _ _ _ _ _ _ _
end Go.Proofs.YthabffjgdhfbmaaGreatDoor
namespace Go.Proofs.YthabffjgdhfbmaaGreatDoor
open Go.RowKit (wrap64)
def fitB (n:Int):Bool:=decide (-9223372036854775808≤n) && decide (n≤9223372036854775807)
def fitV (n:Int):Int:=if fitB n=true then n else 0
theorem fitB_iff (n:Int):fitB n=true ↔ -9223372036854775808≤n∧n≤9223372036854775807:=by
 unfold fitB; simp
theorem fit_yes {n:Int} (h:-9223372036854775808≤n∧n≤9223372036854775807):fitB n=true∧fitV n=n:=by
 have:=(fitB_iff n).2 h;exact ⟨this,by unfold fitV; simp [this]⟩
theorem fit_no {n:Int} (h:¬(-9223372036854775808≤n∧n≤9223372036854775807)):fitB n=false∧fitV n=0:=by
 have h2:fitB n=false:=by
  cases e:fitB n
  · rfl
  · exact absurd ((fitB_iff n).1 e) h
 exact ⟨h2,by unfold fitV; simp [h2]⟩
theorem fitV_bd (n:Int):-9223372036854775808≤fitV n∧fitV n≤9223372036854775807:=by
 by_cases h:-9223372036854775808≤n∧n≤9223372036854775807
 · rw [(fit_yes h).2]; exact h
 · rw [(fit_no h).2]; omega
theorem add_over {a b:Int} (ha:-9223372036854775808≤a∧a≤9223372036854775807) (hb:-9223372036854775808≤b∧b≤9223372036854775807)
 (h:(!decide (a < wrap64 (a + b)) == decide (0 < b))=true):fitV (a + b)=0∧fitB (a + b)=false:=by
 have h3:¬(-9223372036854775808≤a + b∧a + b≤9223372036854775807):=by
  intro hc;rw [Go.IntWalk.wrap64_in _ hc] at h;simp at h;omega
 exact ⟨(fit_no h3).2,(fit_no h3).1⟩
theorem add_fine {a b:Int} (ha:-9223372036854775808≤a∧a≤9223372036854775807) (hb:-9223372036854775808≤b∧b≤9223372036854775807)
 (h:(!decide (a < wrap64 (a + b)) == decide (0 < b))=false):fitV (a + b)=wrap64 (a + b)∧fitB (a + b)=true:=by
 have h3:(-9223372036854775808≤a + b∧a + b≤9223372036854775807):=by
  simp at h;unfold wrap64 at h;omega
 exact ⟨by rw [(fit_yes h3).2,Go.IntWalk.wrap64_in _ h3],(fit_yes h3).1⟩
theorem neg_over {a:Int} (h:(a == -9223372036854775808)=true):fitV (-a)=0∧fitB (-a)=false:=by
 simp at h;exact ⟨(fit_no (by omega)).2,(fit_no (by omega)).1⟩
theorem neg_fine {a:Int} (ha:-9223372036854775808≤a∧a≤9223372036854775807) (h:(a == -9223372036854775808)=false):fitV (-a)=-a∧fitB (-a)=true:=by
 simp at h;exact ⟨(fit_yes (by omega)).2,(fit_yes (by omega)).1⟩
theorem tdiv_bd (x a:Int) (h0:a ≠ 0) (h1:a ≠ -1) (hx:-9223372036854775808≤x∧x≤9223372036854775807) :
 -9223372036854775808≤x.tdiv a∧x.tdiv a≤9223372036854775807:=by
 have h:=Int.natAbs_tdiv x a
 by_cases h2:a=1
 · subst h2; simpa using hx
 · have h3:2≤a.natAbs:=by omega
   have h4:x.natAbs / a.natAbs≤x.natAbs / 2:=Nat.div_le_div_left h3 (by omega);have h5:x.natAbs≤9223372036854775808:=by omega
   have h6:(x.tdiv a).natAbs≤9223372036854775808 / 2:=by
    rw [h]; exact Nat.le_trans h4 (Nat.div_le_div_right h5)
   omega
theorem mul_back {a b:Int} (h0:a ≠ 0) (h1:a ≠ -1) (ha:-9223372036854775808≤a∧a≤9223372036854775807) :
 wrap64 ((wrap64 (a * b)).tdiv a)=b ↔ (-9223372036854775808≤a * b∧a * b≤9223372036854775807)∧(-9223372036854775808≤b∧b≤9223372036854775807):=by
 have hw:-9223372036854775808≤wrap64 (a * b)∧wrap64 (a * b)≤9223372036854775807:=by unfold wrap64; omega
 have ht:=tdiv_bd (wrap64 (a * b)) a h0 h1 hw;rw [Go.IntWalk.wrap64_in _ ht]
 constructor
 · intro h;refine ⟨?_,by rw [← h]; exact ht⟩
   by_cases hc:-9223372036854775808≤a * b∧a * b≤9223372036854775807
   · exact hc
   · exfalso
     have e:=Int.mul_tdiv_add_tmod (wrap64 (a * b)) a;rw [h] at e;have hl:((wrap64 (a * b)).tmod a).natAbs < a.natAbs:=by
      rw [Int.natAbs_tmod]; exact Nat.mod_lt _ (by omega)
     unfold wrap64 at e hl;generalize a * b=p at *;generalize ((p + 9223372036854775808) % 18446744073709551616 - 9223372036854775808).tmod a=r at *;omega
 · intro h;rw [Go.IntWalk.wrap64_in _ h.1];exact Int.mul_tdiv_cancel_left _ h0
theorem mul_over {a b:Int} (h0:a ≠ 0) (h1:a ≠ -1) (ha:-9223372036854775808≤a∧a≤9223372036854775807) (hb:-9223372036854775808≤b∧b≤9223372036854775807)
 (h:(wrap64 ((wrap64 (a * b)).tdiv a) != b)=true):fitV (a * b)=0∧fitB (a * b)=false:=by
 have h3:¬(-9223372036854775808≤a * b∧a * b≤9223372036854775807):=by
  intro hc;have:=(mul_back h0 h1 ha).2 ⟨hc,hb⟩;simp [this] at h
 exact ⟨(fit_no h3).2,(fit_no h3).1⟩
theorem mul_fine {a b:Int} (h0:a ≠ 0) (h1:a ≠ -1) (ha:-9223372036854775808≤a∧a≤9223372036854775807) (hb:-9223372036854775808≤b∧b≤9223372036854775807)
 (h:(wrap64 ((wrap64 (a * b)).tdiv a) != b)=false):fitV (a * b)=wrap64 (a * b)∧fitB (a * b)=true:=by
 have h3:(-9223372036854775808≤a * b∧a * b≤9223372036854775807):=by
  simp at h;exact ((mul_back h0 h1 ha).1 h).1
 exact ⟨by rw [(fit_yes h3).2,Go.IntWalk.wrap64_in _ h3],(fit_yes h3).1⟩
theorem ret_nb {k:IntKind} {a c:Int} {b d:Bool} (h:c=a∧d=b):Ending.returned (.tuple #[.int k a,.bool b])=.returned (.tuple #[.int k c,.bool d]):=by rw [h.1,h.2]
theorem ret_n {k:IntKind} {a c:Int} (h:c=a):Ending.returned (.int k a)=.returned (.int k c):=by rw [h]
theorem ret_nn {k l:IntKind} {a b c d:Int} (h:c=a∧d=b):Ending.returned (.tuple #[.int k a,.int l b])=.returned (.tuple #[.int k c,.int l d]):=by rw [h.1,h.2]
end Go.Proofs.YthabffjgdhfbmaaGreatDoor
