/-
  Texts that belong together, one behind the other: Range2, LexConK, LexPR, DsRwsK, DsRes, DsReadK, DsRR0, RegProps4, DsBk0, BitMath, UnTab. Conditions: as each says.
-/
import Derived.BigQuiet
import Derived.Deep.AppendLies
import Derived.Deep.CutRange
import Derived.Deep.QuietTactic
import Derived.Deep.RegionHeld3
import Derived.Handy
import Derived.Laws.Tables
import Derived.Lib.QuietBelowIn
import Derived.Lib.SliceRun
import Derived.Maps.AppendAt
import Derived.Maps.OwnIn
import Derived.RangeFuncBound
import Derived.RangeFuncBox
import Derived.RangeFuncCalls
import Derived.RangeFuncLeaves
import Derived.RangeFuncNested
import Derived.Sort.BigQuietIn
import Derived.Test.YthabffjgdhfbmaaGreatDoorProg
import Derived.WalkKit
import Derived.Test.YthabffjgdhfbmaaGreatDoorJm1
import Derived.Test.YthabffjgdhfbmaaGreatDoorJm2
import Derived.Test.YthabffjgdhfbmaaGreatDoorJm3
import Derived.Test.YthabffjgdhfbmaaGreatDoorJm4
import Derived.Test.YthabffjgdhfbmaaGreatDoorJm5
import Derived.Test.YthabffjgdhfbmaaGreatDoorJm6
import Derived.Test.YthabffjgdhfbmaaGreatDoorJm7
set_option maxRecDepth 100000
set_option maxHeartbeats 32000000
set_option linter.unusedVariables false
namespace Go.Proofs.YthabffjgdhfbmaaGreatDoor
open Go.RowKit
def upd2 (a:Act) (i1 i2 s1 s2:Nat) (u v:Value):Act:={ tmps:=(((a.tmps.setIfInBounds i1 u).setIfInBounds i2 v).setIfInBounds s1 u).setIfInBounds s2 v,defers:=[] }
theorem range2 {F:Fence} {n:Nat} {P:Program} {α:Type} {g:Operand} {ps:Array Tmp} {assign body:Code} {Q:Exit→Act→World→Prop} {a:Act} {w:World} (i1 i2 s1 s2:Nat) (u v:α→Value)
 (hro:F.round=none) (h1:1≤n) {gf:Nat} {lb:Array Value} (hg:a.eval g=.func (.func gf) #[] lb) (hFg:F.fn gf) (eg:∀ args w,(callFunc gf args).run P w=.ok (.enter gf args) w)
 {Kp:World→World→Prop} {S Sp:List α→Prop} {N:Nat} {w0:World} (hseq:SeqStopsK F (n - 1) P gf lb (fun x=>#[u x,v x]) Kp S Sp N w0)
 (hKt:∀ {A B C:World},Kp A B→Kp B C→Kp A C) (hKb:∀ (W:World) (l:Nat) (o o':Obj),w.heap.size≤l→W.heap[l]?=some o→o.isCells=false→o.isWalk=false→Kp W (W.putObj l o')) (hb0:Below w0.heap.size w0 w) (hps:ps.size=2)
 (I:List α→World→Prop) (Ix:Code→List α→World→Prop) (hI:OwnFrom w.heap.size I) (hIx:∀ c,OwnFrom w.heap.size (Ix c)) (h0:I [] w)
 (hassign:∀ (l:Nat) (x:α) (W:World) (K:Act→World→Prop),K (upd2 a i1 i2 s1 s2 (u x) (v x)) W →
  assign.wpIn (F.inRound l) (n - 1 - 1) P (Exit.then K (fun _ _ _=>False)) { tmps:=(ps.zip #[u x,v x]).foldl (fun t (p,v)=>t.setIfInBounds p v) a.tmps,defers:=[] } W)
 (hbody:∀ (l:Nat) (pre:List α) (x:α) (W:World),I pre W→pre.length < N→body.wpIn (F.inRound l) (n - 1 - 1) P (ownPostG w.heap.size Kp I Ix (pre ++ [x]) W) (upd2 a i1 i2 s1 s2 (u x) (v x)) W)
 (hdone:∀ (D:Nat) (xs:List α) (W:World),w.heap.size≤D→S xs→I xs W→W.heap[D]?=some (.deferred (some []))→Q .normal { a with defers:={ target:=.collected D,args:=#[] } :: a.defers } W)
 (hstop:∀ (D:Nat) (c:Code) (pre:List α) (W:World),w.heap.size≤D→Sp pre→Ix c pre W→W.heap[D]?=some (.deferred (some []))→c.wpIn F n P Q { a with defers:={ target:=.collected D,args:=#[] } :: a.defers } W)
 (hKr:∀ W,Kp W W):(Code.rangeFunc g ps assign body).wpIn F n P Q a w:=
 wpIn_rangeFunc_ownG_of_H hro h1 hg hFg eg hseq hKt hKb hb0 (fun x=>by rw [hps]; rfl) I Ix hI hIx h0 (fun x=>upd2 a i1 i2 s1 s2 (u x) (v x)) hassign hbody hdone hstop hKr
def RowsPC:Prop:=∀ (s:ByteArray) (w:World),Tab7 w→Calls Tryz.prog 38 #[.string s] w fun e w'=>∃ v,e=.returned (.tuple #[v,.int .i64 ((lexLine s.data.toList:Nat):Int),.int .i64 ((lexErr s.data.toList:Nat):Int)])∧RowsAtC w' v (lexRows s.data.toList)∧Below w.heap.size w w'
end Go.Proofs.YthabffjgdhfbmaaGreatDoor
namespace Go.Proofs.YthabffjgdhfbmaaGreatDoor
open Go.RowKit Go.Shelf
attribute [local go_sem] Oper.semAt_some
theorem info_prow:(Tryz.prog.info? 56).map (fun i=>(i.zero,i.size,i.bytes))=some (some (.agg #[.int .i64 0,.slice none 0 0]),2,32):=by kernel_rfl
theorem boxAt {x:World} {B:Nat} (t:TypeId) (v:Value) (h:x.heap.size=B):Boxed (x.alloc (.cells #[v] t)) B t v:=by subst h; exact Boxed.new x t v
theorem boxOwn {X Y:World} {row:Option Nat} {B:Nat} {t:TypeId} {v:Value} (h:Boxed X B t v) (hg:X.grownBy Y row) (hr:∀ r,row=some r→∃ o:Obj,X.heap[r]?=some o∧o.isCells=false):Boxed Y B t v:=boxed_own B t (fun _:Unit=>v) () X Y row h hg hr
theorem cntF_le7:∀ (l:List UInt8) (ws:Bool),Lib.cntF ws l≤l.length
 | [],_=>Nat.le_refl _
 | b :: t,ws=>by
  have:=cntF_le7 t (Lib.isSp b);simp only [Lib.cntF,List.length_cons]
  split <;> omega
theorem fiveW (w:World) (s:ByteArray):∃ W0,(((((w.alloc (.cells #[(.slice none 0 0)] 55)).alloc (.cells #[.int .i64 0] 3)).alloc (.cells #[.int .i64 0] 28)).alloc (.cells #[(.slice none 0 0)] 55)).alloc (.cells #[.string s] 9))=W0 ∧
 Boxed W0 (w.heap.size) 55 (.slice none 0 0)∧Boxed W0 (w.heap.size + 1) 3 (.int .i64 0)∧Boxed W0 (w.heap.size + 1 + 1) 28 (.int .i64 0)∧Boxed W0 (w.heap.size + 1 + 1 + 1) 55 (.slice none 0 0)∧Boxed W0 (w.heap.size + 1 + 1 + 1 + 1) 9 (.string s)∧Below w.heap.size w W0∧W0.heap.size=w.heap.size + 5:=by
 refine ⟨_,rfl,?_,?_,?_,?_,?_,?_,?_⟩
 · exact (((((boxAt _ _ (by simp)).alloc _).alloc _).alloc _).alloc _)
 · exact ((((boxAt _ _ (by simp)).alloc _).alloc _).alloc _)
 · exact (((boxAt _ _ (by simp)).alloc _).alloc _)
 · exact ((boxAt _ _ (by simp)).alloc _)
 · exact (boxAt _ _ (by simp))
 · go_grown
 · simp
def RwI (w:World) (s:ByteArray) (Ls:List Wd) (pre:List (Fin Ls.length)) (W:World):Prop:=
 (∃ vo fs,Boxed W (w.heap.size + 1 + 1 + 1) 55 vo∧LxSt w W 56 vo (.slice none 0 0) fs []∧fs.map (·.1)=rowsF Ls 1 pre∧∀ y ∈ pre,priB Ls[y.1]=true)∧Boxed W (w.heap.size) 55 (.slice none 0 0)∧Boxed W (w.heap.size + 1) 3 (.int .i64 0)∧Boxed W (w.heap.size + 1 + 1) 28 (.int .i64 0)∧Boxed W (w.heap.size + 1 + 1 + 1 + 1) 9 (.string s)
def RwX (w:World) (Ls:List Wd) (c:Code) (pre:List (Fin Ls.length)) (W:World):Prop:=
 (c=.ret∧∃ q x,pre=q ++ [x]∧(∀ y ∈ q,priB Ls[y.1]=true)∧priB Ls[x.1]=false∧Boxed W (w.heap.size + 1) 3 (.int .i64 ((x.1 + 1:Nat):Int)))∧Boxed W (w.heap.size) 55 (.slice none 0 0)∧Boxed W (w.heap.size + 1 + 1) 28 (.int .i64 6)∧Below w.heap.size w W
theorem rwI_own (w:World) (s:ByteArray) (Ls:List Wd) (B:Nat) (hB:w.heap.size≤B):OwnFrom B (RwI w s Ls):=fun pre X Y row ⟨⟨vo,fs,h1,h2,h3,h4⟩,b0,b1,b2,b4⟩ hg hr=>
 have hr2:∀ r,row=some r→∃ o:Obj,X.heap[r]?=some o∧o.isCells=false:=fun r e=>(hr r e).2
 ⟨⟨vo,fs,boxOwn h1 hg hr2,h2.own hg (fun r e=>⟨Nat.le_trans hB (hr r e).1,(hr r e).2⟩),h3,h4⟩,boxOwn b0 hg hr2,boxOwn b1 hg hr2,boxOwn b2 hg hr2,boxOwn b4 hg hr2⟩
theorem rwX_own (w:World) (Ls:List Wd) (B:Nat) (hB:w.heap.size≤B) (c:Code):OwnFrom B (RwX w Ls c):=fun pre X Y row ⟨⟨hc,q,x,e,h1,h2,b1⟩,b0,b2,hb⟩ hg hr=>
 have hr2:∀ r,row=some r→∃ o:Obj,X.heap[r]?=some o∧o.isCells=false:=fun r e=>(hr r e).2
 ⟨⟨hc,q,x,e,h1,h2,boxOwn b1 hg hr2⟩,boxOwn b0 hg hr2,boxOwn b2 hg hr2,hb.grown hg hb.size (fun k e=>Nat.le_trans hB (hr k e).1)⟩
theorem cell_two_nx (x:World) (a b:Value) (t:TypeId) (n:Nat) (hn:n=x.heap.size):∀ j u,[a,b][j]?=some u→(x.alloc (.cells #[a,b] t)).cell? ((⟨n,0,none⟩:Addr).add j)=some u:=by
 subst hn; exact cell_two_new x a b t
theorem slice_no_str {x:World} {base:Nat} {e:TypeId} {size:Nat} {v:Value} {n:Nat} {xs:List Value} (h:x.ownsRow base e size v n xs):∀ s,v ≠ .string s:=by
 intro s hs;rcases own_slice h with ⟨h1,_⟩ | ⟨g,cap,h1,_⟩ <;> rw [h1] at hs <;> cases hs
theorem RwI.more {w W y:World} {s:ByteArray} {Ls:List Wd} {pre:List (Fin Ls.length)} {x:Fin Ls.length} {vo v':Value} {fs:List Dn} {ws:List Wd} {tmp:Obj} (bR:Boxed W (w.heap.size + 1 + 1 + 1) 55 vo) (st1:LxSt w (W.alloc (.cells (strV ws).toArray 9)) 56 vo (.slice (some ⟨W.heap.size,0,none⟩) ws.length ws.length) fs ws)
 (b0:Boxed W (w.heap.size) 55 (.slice none 0 0)) (b1:Boxed W (w.heap.size + 1) 3 (.int .i64 0)) (b2:Boxed W (w.heap.size + 1 + 1) 28 (.int .i64 0)) (b4:Boxed W (w.heap.size + 1 + 1 + 1 + 1) 9 (.string s)) (hne:¬ ws=[])
 (hO:y.ownsRow w.heap.size 56 2 v' (fs.length + 1) (dnC fs ++ [.int .i64 ((x.1:Int) + 1),(.slice (some ⟨W.heap.size,0,none⟩) ws.length ws.length)])) (gO:((W.alloc (.cells (strV ws).toArray 9)).alloc tmp).grownBy y vo.ownBlock) (vO:v'.ownBlock=vo.ownBlock ∨ v'.ownBlock=some ((W.alloc (.cells (strV ws).toArray 9)).alloc tmp).heap.size)
 (hm:fs.map (·.1) ++ [(1 + x.1,ws)]=rowsF Ls 1 (pre ++ [x])) (hp:∀ z ∈ pre ++ [x],priB Ls[z.1]=true) :
 Boxed y (w.heap.size + 1 + 1 + 1) 55 vo∧KeepsOthers W (y.setCell ⟨w.heap.size + 1 + 1 + 1,0,none⟩ v')∧KeepO (w.heap.size + 1 + 1 + 1 + 1) W (y.setCell ⟨w.heap.size + 1 + 1 + 1,0,none⟩ v')∧RwI w s Ls (pre ++ [x]) (y.setCell ⟨w.heap.size + 1 + 1 + 1,0,none⟩ v'):=by
 have e1:((1 + x.1:Nat):Int)=(x.1:Int) + 1:=by omega
 have st2:=LxSt.line st1 hne (1 + x.1) (by rw [e1]; exact hO) gO vO;obtain ⟨hv1,hv2,_,hk2,_⟩:=(bR.alloc (.cells (strV ws).toArray 9)).appended (by decide) st1.ro st1.b.size (by omega) hO gO;have st3:=st2.store hv1 (by decide) (slice_no_str st1.ro) (by omega) v';have keep:∀ {B:Nat} {t:TypeId} {v:Value},Boxed W B t v→t ≠ 56→B ≠ w.heap.size + 1 + 1 + 1→Boxed (y.setCell ⟨w.heap.size + 1 + 1 + 1,0,none⟩ v') B t v:=fun hb ht hB=>
  (((hb.alloc (.cells (strV ws).toArray 9)).alloc tmp).kept gO (((hb.alloc (.cells (strV ws).toArray 9))).not_row ht st1.ro)).other hB _
 have c4:=keep b4 (by decide) (by omega);exact ⟨hv1,(KeepsOthers.alloc W _).trans hk2,(show _ from c4:Boxed _ _ _ _).trans b4.symm,⟨_,_,hv2,st3,by rw [map_dn]; exact hm,hp⟩,keep b0 (by decide) (by omega),keep b1 (by decide) (by omega),keep b2 (by decide) (by omega),c4⟩
theorem rows_long (s:ByteArray) (w:World) (hs:4000 < (s.size:Int)) :
 Calls Tryz.prog 38 #[.string s] w fun e w'=>e=.returned (.tuple #[(.slice none 0 0),.int .i64 0,.int .i64 7])∧Below w.heap.size w w':=by
 have q1:decide (4000 < (s.size:Int))=true:=decide_eq_true hs
 go_enter Tryz.func38,Tryz.ntmps38
 go_wp2;go_returns;exact ⟨rfl,by go_grown⟩
theorem rows_in (F:Fence) (n:Nat) (h1:F.fn 38) (h2:F.fn 70) (h3:F.fn 97) (h4:F.fn 71) (h5:F.fn 72) (h6:F.fn 73) (hro:F.round=none) (hn:3≤n) (w:World) (T7:Tab7 w) (s:ByteArray) (hs:(s.size:Int)≤4000) (Ls:List Wd) (hLs:linesL s.data.toList=Ls)
 (cL:Hid (∀ m x,CallsIn F m Tryz.prog 70 #[.string s] x fun e w'=>e=.returned (.func (.func 97) #[] #[.pointer (some ⟨x.heap.size,0,none⟩)])∧w'=x.alloc (.cells #[.string s] 9)))
 (cS:Hid (∀ m W0,1≤m→Boxed W0 (w.heap.size + 1 + 1 + 1 + 1) 9 (.string s)→SeqStopsK F m Tryz.prog 97 #[.pointer (some ⟨w.heap.size + 1 + 1 + 1 + 1,0,none⟩)] (fun x:Fin Ls.length=>#[.int .i64 ((x.1 + 1:Nat):Int),.string (txt Ls[x.1])]) (KeepO (w.heap.size + 1 + 1 + 1 + 1)) (fun xs=>xs=List.finRange Ls.length) (fun pre=>pre <+: List.finRange Ls.length) Ls.length W0))
 (cP:Hid (∀ m (u:ByteArray) x,(u.size:Int)≤4000→CallsIn F m Tryz.prog 71 #[.string u] x fun e w'=>e=.returned (.bool (priB u.data.toList))∧w'=x))
 (cF:Hid (∀ m (u:ByteArray) x,u.size≤4000→priB u.data.toList=true→Tab7 x→CallsIn F m Tryz.prog 72 #[.string u] x fun e w'=>e=.returned (.slice (some ⟨x.heap.size,0,none⟩) (Lib.fields u.data.toList).length (Lib.fields u.data.toList).length)∧w'=x.alloc (.cells ((Lib.fields u.data.toList).map fun l=>Value.string (txt l)).toArray 9)))
 (cC:Hid (∀ m x (g cap:Nat) (ws:List Wd),(∀ d ∈ ws,¬ d=[])→(∀ (h:0 < ws.length),x.cell? ⟨g,0,none⟩=some (.string (txt ws[0])))→CallsIn F m Tryz.prog 73 #[.slice (some ⟨g,0,none⟩) ws.length cap] x fun e w'=>e=.returned (.bool (countsB ws))∧w'=x)) :
 CallsIn F n Tryz.prog 38 #[.string s] w fun e w'=>∃ v,e=.returned (.tuple #[v,.int .i64 ((lexLine s.data.toList:Nat):Int),.int .i64 ((lexErr s.data.toList:Nat):Int)])∧RowsAtC w' v (lexRows s.data.toList)∧Below w.heap.size w w':=by
 have hn1:1≤n:=by omega
 have q1:decide (4000 < (s.size:Int))=false:=decide_eq_false (by omega);obtain ⟨r0,hri,hr0,hr1,hr2⟩:=info_parts info_prow;refine callsIn_of_wp_marks Tryz.func38 rfl h1 ?_ hro;simp only [Tryz.ntmps38,List.size_toArray,List.length_cons,List.length_nil,Nat.reduceAdd,Nat.reduceSub,Array.replicate_succ,Array.replicate_zero,List.push_toArray,List.append_toArray,List.nil_append,List.cons_append]
 gi_wp2_with (gi_at_call 70; refine (cL.out _ _).mono ?_; rintro e w' ⟨rfl,rfl⟩)
 obtain ⟨W0,hW0,b0,b1,b2,b3,b4,hB0,hsz⟩:=fiveW w s;rw [hW0];clear hW0 cL;have hLn:Ls.length≤4001:=by
  have h1:=lines_len s.data.toList;rw [show s.data.toList.length=s.size from by simp] at h1;rw [← hLs]; omega
 have hLi:∀ x:Fin Ls.length,(Ls[x.1]).length≤4000:=fun x=>by
  have:=(lines_in s.data.toList (Ls[x.1]) (by rw [hLs]; exact List.getElem_mem _)).2;rw [show s.data.toList.length=s.size from by simp] at this;omega
 refine range2 14 15 6 7 (fun x:Fin Ls.length=>.int .i64 ((x.1 + 1:Nat):Int)) (fun x:Fin Ls.length=>.string (txt Ls[x.1])) hro hn1 (gf:=97) (lb:=#[.pointer (some ⟨w.heap.size + 1 + 1 + 1 + 1,0,none⟩)]) rfl h3 (enters_of Tryz.func97 (by kernel_rfl) rfl)
  (cS.out (n - 1) W0 (by omega) b4) KeepO.trans (fun W l o o' hl _ _ _=>KeepO.put (w:=W0) (by omega) W l o o' hl) (Below.refl _ _) rfl
  (RwI w s Ls) (RwX w Ls) (rwI_own w s Ls _ (by omega)) (rwX_own w Ls _ (by omega))
  ⟨⟨_,[],b3,⟨World.ownsRow_nil _ _ _ _,World.ownsRow_nil _ _ _ _,fun f hf=>(by cases hf),.inl rfl,hB0⟩,rfl,fun y hy=>by cases hy⟩,b0,b1,b2,b4⟩
  ?assign ?body ?done ?stop (fun W=>KeepO.refl _ W)
 case assign=>
  intro l x W K hK;simp only [upd2,List.setIfInBounds_toArray,List.set_cons_zero,List.set_cons_succ] at hK
  gi_wp2
  exact hK
 case body=>
  rintro l pre x W ⟨⟨vo,fs,bR,st,hfs,hpr⟩,b0,b1,b2,b4⟩ hlt;simp only [upd2,List.setIfInBounds_toArray,List.set_cons_zero,List.set_cons_succ];have hd:1≤n - 1 - 1:=by omega
  have hT:Tab7 W:=T7.below st.b;have hux:(txt Ls[x.1]).data.toList=Ls[x.1]:=rfl;have hus:(txt Ls[x.1]).size≤4000:=by rw [txt_size]; exact hLi x
  have hn63:fs.length + 1≤4002:=by
   have e1:=congrArg List.length hfs;rw [List.length_map] at e1;have e2:=rowsF_len Ls 1 pre;omega
  have hpl:((x.1 + 1:Nat):Int)=(x.1:Int) + 1:=by simp
  have hxl:(x.1:Int) + 1≤4001:=by have:=x.2; omega
  have cp:Hid (∀ m y,CallsIn (F.inRound l) m Tryz.prog 71 #[.string (txt Ls[x.1])] y fun e w'=>e=.returned (.bool (priB Ls[x.1]))∧w'=y):=fun m y=>(cP.out m (txt Ls[x.1]) y (by omega)).inRound l
  have g4:(F.inRound l).fn 71:=h4;have g5:(F.inRound l).fn 72:=h5;have g6:(F.inRound l).fn 73:=h6
  cases hp:priB Ls[x.1] with
  | false=>
   rw [hp] at cp;have c0:=b0.cell;have f0:=b0.frozen;have c1:=b1.cell;have f1:=b1.frozen;have c2:=b2.cell;have f2:=b2.frozen;have XX:Hid (RwX w Ls .ret (pre ++ [x]) (((W.setCell ⟨w.heap.size,0,none⟩ (.slice none 0 0)).setCell ⟨w.heap.size + 1,0,none⟩ (.int .i64 ((x.1:Int) + 1))).setCell ⟨w.heap.size + 1 + 1,0,none⟩ (.int .i64 6))):=
    ⟨⟨rfl,pre,x,rfl,hpr,hp,by rw [hpl]; exact ((b1.other (by omega) _).set _).other (by omega) _⟩,((b0.set _).other (by omega) _).other (by omega) _,((b2.other (by omega) _).other (by omega) _).set _,
     ((st.b.setCell (p:=⟨w.heap.size,0,none⟩) (Nat.le_refl _) _).setCell (p:=⟨w.heap.size + 1,0,none⟩) (by show w.heap.size≤w.heap.size + 1; omega) _).setCell (p:=⟨w.heap.size + 1 + 1,0,none⟩) (by show w.heap.size≤w.heap.size + 1 + 1; omega) _⟩
   have KK:Hid (KeepsOthers W (((W.setCell ⟨w.heap.size,0,none⟩ (.slice none 0 0)).setCell ⟨w.heap.size + 1,0,none⟩ (.int .i64 ((x.1:Int) + 1))).setCell ⟨w.heap.size + 1 + 1,0,none⟩ (.int .i64 6))):=((KeepsOthers.setCell W _ _).trans (KeepsOthers.setCell _ _ _)).trans (KeepsOthers.setCell _ _ _);rw [hpl];clear hpr hfs st hT hux hp hLi cF cC cS cP;generalize txt Ls[x.1]=u at *
   gi_wp2_with (gi_at_call 71; refine (cp.out _ _).mono ?_; rintro e w' ⟨rfl,rfl⟩)
   exact ⟨KK.out.from _,XX.out⟩
  | true=>
   rw [hp] at cp;have cf:Hid (∀ m,CallsIn (F.inRound l) m Tryz.prog 72 #[.string (txt Ls[x.1])] W fun e w'=>e=.returned (.slice (some ⟨W.heap.size,0,none⟩) (Lib.fields Ls[x.1]).length (Lib.fields Ls[x.1]).length)∧w'=W.alloc (.cells (strV (Lib.fields Ls[x.1])).toArray 9)):=fun m=>(cF.out m (txt Ls[x.1]) W hus hp hT).inRound l
   have hfl:(Lib.fields Ls[x.1]).length≤4000:=by
    rw [Lib.fields_length];exact Nat.le_trans (cntF_le7 _ _) (hLi x)
   have hfn:=counts_fields Ls[x.1];have hsn:=rowsF_snoc Ls 1 pre x;have hpr2:∀ y ∈ pre ++ [x],priB Ls[y.1]=true:=fun y hy=>(List.mem_append.1 hy).elim (hpr y) (fun e=>by rw [List.mem_singleton.1 e]; exact hp)
   obtain ⟨ws,hws⟩:∃ ws,Lib.fields Ls[x.1]=ws:=⟨_,rfl⟩;rw [hws] at cf hfl hfn hsn;have st1:=st.words ws (by unfold maxLen; omega);have cc:Hid (∀ m,CallsIn (F.inRound l) m Tryz.prog 73 #[.slice (some ⟨W.heap.size,0,none⟩) ws.length ws.length] (W.alloc (.cells (strV ws).toArray 9)) fun e w'=>e=.returned (.bool (countsB ws))∧w'=(W.alloc (.cells (strV ws).toArray 9))):=fun m=>(cC.out m _ W.heap.size ws.length ws hfn (fun h=>by
    have:=str_cell (w0:=ws[0]) (r:=ws.drop 1) st1.rw h (by have:=List.drop_eq_getElem_cons h; simpa using this);exact this)).inRound l
   have KA:=KeepsOthers.alloc W (.cells (strV ws).toArray 9);rw [hpl];clear hpr cF cC cS cP hT hus hws hux hp hLi st;generalize txt Ls[x.1]=u at *
   cases hc:countsB ws with
   | false=>
    rw [hc] at cc;have II:Hid (RwI w s Ls (pre ++ [x]) (W.alloc (.cells (strV ws).toArray 9))):=⟨⟨vo,fs,bR.alloc _,st1.letGo,by rw [hsn,hfs]; unfold closeL; rw [hc]; simp,hpr2⟩,b0.alloc _,b1.alloc _,b2.alloc _,b4.alloc _⟩;have KO:Hid (KeepO (w.heap.size + 1 + 1 + 1 + 1) W (W.alloc (.cells (strV ws).toArray 9))):=(b4.alloc _:Boxed (W.alloc (.cells (strV ws).toArray 9)) _ _ _).trans b4.symm;clear hsn hpr2 hfs hfn st1
    gi_wp2_with (first | (gi_at_call 71; refine (cp.out _ _).mono ?_; rintro e y ⟨rfl,hy⟩; replace hy:=hy.symm; subst hy) | (gi_at_call 72; refine (cf.out _).mono ?_; rintro e w' ⟨rfl,rfl⟩) | (gi_at_call 73; refine (cc.out _).mono ?_; rintro e w' ⟨rfl,rfl⟩))
    exact ⟨KA.from _,KO.out,II.out⟩
   | true=>
    rw [hc] at cc;have bR1:=bR.alloc (.cells (strV ws).toArray 9);have cR:=bR1.cell;have hne:¬ ws=[]:=counts_ne hc;have hm:fs.map (·.1) ++ [(1 + x.1,ws)]=rowsF Ls 1 (pre ++ [x]):=by rw [hsn,hfs]; unfold closeL; rw [hc]; simp
    have hf63:fs.length + 1≤maxLen:=by unfold maxLen; omega
    have hfby:(fs.length + 1) * 32≤140737488355328:=by omega
    have hsz1:=st1.b.size;replace hpr2:Hid _:=hpr2;replace hm:Hid _:=hm;clear hsn hfs hfn
    gi_wp2_with (first | (gi_at_call 71; refine (cp.out _ _).mono ?_; rintro e y ⟨rfl,hy⟩; replace hy:=hy.symm; subst hy) | (gi_at_call 72; refine (cf.out _).mono ?_; rintro e w' ⟨rfl,rfl⟩) | (gi_at_call 73; refine (cc.out _).mono ?_; rintro e w' ⟨rfl,rfl⟩) | (gi_at_builtin; refine wpListIn_append_own_at _ rfl _ _ 55 rfl w.heap.size 56 r0 (.agg #[.int .i64 0,.slice none 0 0]) 2 32 Tryz.underlying55 hri hr0 hr1 hr2 rfl (by decide) _ _ _ rfl (World.ownsRow.alloc st1.ro _) ⟨W.heap.size + 1,0,none⟩ 1 1 [.int .i64 ((x.1:Int) + 1),(.slice (some ⟨W.heap.size,0,none⟩) ws.length ws.length)] rfl rfl (cell_two_nx _ _ _ _ _ (by simp)) (by simp [Value.oneCell']) hf63 hfby (by simp at hsz1 ⊢; omega) ?_; intro v2 y2 hO gO _ vO; obtain ⟨g2,cap2,rfl⟩:=ownsRow_succ hO; obtain ⟨hv1,hk2,hko,hrw⟩:=RwI.more bR st1 b0 b1 b2 b4 hne hO gO vO hm.out hpr2.out; have hc1:=hv1.cell; have hf1:=hv1.frozen))
    exact ⟨hk2.from _,hko,hrw⟩
 case done=>
  rintro D ys W hD rfl ⟨⟨vo,fs,bR,st,hfs,hpr⟩,b0,b1,b2,b4⟩ hK;have hz:Hid (lexRows s.data.toList=fs.map (·.1)∧lexLine s.data.toList=0∧lexErr s.data.toList=0):=by
   subst hLs;have hl:s.data.toList.length≤4000:=by rw [show s.data.toList.length=s.size from by simp]; omega
   have:=lex_done hl hpr;rw [hfs]; exact this
  clear hfs hpr cF cC cS cP hLi;have c0:=b0.cell;have f0:=b0.frozen;have c1:=b1.cell;have f1:=b1.frozen;have c2:=b2.cell;have f2:=b2.frozen;have cR:=bR.cell;rcases own_slice st.ro with ⟨rfl,_⟩ | ⟨g,cap,rfl,_⟩
  · gi_wp2
    have hK':=(((KeepsOthers.setCell W ⟨w.heap.size,0,none⟩ (.slice none 0 0)).trans (KeepsOthers.setCell _ ⟨w.heap.size + 1,0,none⟩ (.int .i64 0))).trans (KeepsOthers.setCell _ ⟨w.heap.size + 1 + 1,0,none⟩ (.int .i64 0))).same D _ hK rfl;have R0:=(((b0.set (.slice none 0 0)).other (B':=w.heap.size + 1) (by omega) (.int .i64 0)).other (B':=w.heap.size + 1 + 1) (by omega) (.int .i64 0)).kept (grownBy_putObj' _ D (.deferred none)) (fun e=>by injection e with e; omega);have R1:=(((b1.other (B':=w.heap.size) (by omega) (.slice none 0 0)).set (.int .i64 0)).other (B':=w.heap.size + 1 + 1) (by omega) (.int .i64 0)).kept (grownBy_putObj' _ D (.deferred none)) (fun e=>by injection e with e; omega);have R2:=(((b2.other (B':=w.heap.size) (by omega) (.slice none 0 0)).other (B':=w.heap.size + 1) (by omega) (.int .i64 0)).set (.int .i64 0)).kept (grownBy_putObj' _ D (.deferred none)) (fun e=>by injection e with e; omega);have st4:=(((st.store b0 (by decide) (fun s h=>by cases h) (Nat.le_refl _) (.slice none 0 0)).store (b1.other (B':=w.heap.size) (by omega) (.slice none 0 0)) (by decide) (fun s h=>by cases h) (by omega) (.int .i64 0)).store ((b2.other (B':=w.heap.size) (by omega) (.slice none 0 0)).other (B':=w.heap.size + 1) (by omega) (.int .i64 0)) (by decide) (fun s h=>by cases h) (by omega) (.int .i64 0)).putObj (.deferred none) hK' rfl (by omega);refine ⟨by simp,.inl ⟨_,_,rfl,run_takeDeferred hK',?_⟩⟩;refine ⟨.tuple #[(.slice none 0 0),.int .i64 0,.int .i64 0],?_,_,by rw [hz.out.2.1,hz.out.2.2]; rfl,by rw [hz.out.1]; exact st4.rowsC,st4.b⟩;have c0:=R0.cell;have c1:=R1.cell;have c2:=R2.cell;simp [results,Tryz.f38,go_sem,c0,c1,c2]
  · gi_wp2
    have hK':=(((KeepsOthers.setCell W ⟨w.heap.size,0,none⟩ (.slice (some ⟨g,0,none⟩) fs.length cap)).trans (KeepsOthers.setCell _ ⟨w.heap.size + 1,0,none⟩ (.int .i64 0))).trans (KeepsOthers.setCell _ ⟨w.heap.size + 1 + 1,0,none⟩ (.int .i64 0))).same D _ hK rfl;have R0:=(((b0.set (.slice (some ⟨g,0,none⟩) fs.length cap)).other (B':=w.heap.size + 1) (by omega) (.int .i64 0)).other (B':=w.heap.size + 1 + 1) (by omega) (.int .i64 0)).kept (grownBy_putObj' _ D (.deferred none)) (fun e=>by injection e with e; omega);have R1:=(((b1.other (B':=w.heap.size) (by omega) (.slice (some ⟨g,0,none⟩) fs.length cap)).set (.int .i64 0)).other (B':=w.heap.size + 1 + 1) (by omega) (.int .i64 0)).kept (grownBy_putObj' _ D (.deferred none)) (fun e=>by injection e with e; omega);have R2:=(((b2.other (B':=w.heap.size) (by omega) (.slice (some ⟨g,0,none⟩) fs.length cap)).other (B':=w.heap.size + 1) (by omega) (.int .i64 0)).set (.int .i64 0)).kept (grownBy_putObj' _ D (.deferred none)) (fun e=>by injection e with e; omega);have st4:=(((st.store b0 (by decide) (fun s h=>by cases h) (Nat.le_refl _) (.slice (some ⟨g,0,none⟩) fs.length cap)).store (b1.other (B':=w.heap.size) (by omega) (.slice (some ⟨g,0,none⟩) fs.length cap)) (by decide) (fun s h=>by cases h) (by omega) (.int .i64 0)).store ((b2.other (B':=w.heap.size) (by omega) (.slice (some ⟨g,0,none⟩) fs.length cap)).other (B':=w.heap.size + 1) (by omega) (.int .i64 0)) (by decide) (fun s h=>by cases h) (by omega) (.int .i64 0)).putObj (.deferred none) hK' rfl (by omega);refine ⟨by simp,.inl ⟨_,_,rfl,run_takeDeferred hK',?_⟩⟩;refine ⟨.tuple #[(.slice (some ⟨g,0,none⟩) fs.length cap),.int .i64 0,.int .i64 0],?_,_,by rw [hz.out.2.1,hz.out.2.2]; rfl,by rw [hz.out.1]; exact st4.rowsC,st4.b⟩;have c0:=R0.cell;have c1:=R1.cell;have c2:=R2.cell;simp [results,Tryz.f38,go_sem,c0,c1,c2]
 case stop=>
  rintro D c pre W hD hpre ⟨⟨rfl,q,x,rfl,hq,hx,b1⟩,b0,b2,hB⟩ hK;have hz:Hid (lexRows s.data.toList=[]∧lexLine s.data.toList=x.1 + 1∧lexErr s.data.toList=6):=by
   subst hLs;have hl:s.data.toList.length≤4000:=by rw [show s.data.toList.length=s.size from by simp]; omega
   exact lex_left hl hpre hq hx
  clear hq hx hpre cF cC cS cP hLi
  gi_wp2
  have R0:=b0.kept (grownBy_putObj' _ D (.deferred none)) (fun e=>by injection e with e; omega);have R1:=b1.kept (grownBy_putObj' _ D (.deferred none)) (fun e=>by injection e with e; omega);have R2:=b2.kept (grownBy_putObj' _ D (.deferred none)) (fun e=>by injection e with e; omega);refine ⟨by simp,.inl ⟨_,_,rfl,run_takeDeferred hK,?_⟩⟩;refine ⟨.tuple #[(.slice none 0 0),.int .i64 ((x.1 + 1:Nat):Int),.int .i64 6],?_,_,by rw [hz.out.2.1,hz.out.2.2]; rfl,by rw [hz.out.1]; exact .inl ⟨rfl,rfl⟩,hB.trans (belowK_b (w:=w) (Nat.le_refl _) W D _ _ (by omega) hK rfl rfl)⟩;have c0:=R0.cell;have c1:=R1.cell;have c2:=R2.cell;simp [results,Tryz.f38,go_sem,c0,c1,c2]
theorem HRC:RowsPC:=fun s w T7=>by
 have hl:s.data.toList.length=s.size:=by simp
 by_cases hs:(s.size:Int)≤4000
 · exact (callsIn_wide (n:=3)).1 (rows_in Fence.wide 3 trivial trivial trivial trivial trivial trivial rfl (Nat.le_refl _) w T7 s hs _ rfl
    (fun m x=>callsIn_wide.2 (lines_mk x s))
    (fun m W0 hm hb=>lines_stops m hm s (by omega) _ rfl _ W0 hb)
    (fun m u x hu=>callsIn_wide.2 (printable_any u x hu))
    (fun m u x hu hp hT=>callsIn_wide.2 (fields_any u x hu hp hT))
    (fun m x g cap ws h1 h2=>callsIn_wide.2 (counts_any x g cap ws h1 h2)))
 · refine (rows_long s w (by omega)).mono ?_;rintro e w' ⟨rfl,hb⟩;have h4:¬ s.data.toList.length≤4000:=by rw [hl]; omega
   unfold lexRows lexLine lexErr;rw [if_neg h4,if_neg h4,if_neg h4];exact ⟨_,rfl,.inl ⟨rfl,rfl⟩,hb⟩
end Go.Proofs.YthabffjgdhfbmaaGreatDoor
namespace Go.Proofs.YthabffjgdhfbmaaGreatDoor
open Go.RowKit
abbrev Rn:=Lr × Value
def rnC (fs:List Rn):List Value:=fs.flatMap fun f=>[.int .i64 f.1.1,f.2]
theorem rnC_snoc (fs:List Rn) (f:Rn):rnC (fs ++ [f])=rnC fs ++ [.int .i64 f.1.1,f.2]:=by unfold rnC; simp
theorem rnC_get {fs:List Rn} {j:Nat} (h:j < fs.length):(rnC fs)[2 * j]?=some (.int .i64 fs[j].1.1)∧(rnC fs)[2 * j + 1]?=some fs[j].2:=by
 induction fs generalizing j with
 | nil=>cases h
 | cons f fs ih=>
  unfold rnC at *;rw [List.flatMap_cons]
  cases j with
  | zero=>exact ⟨rfl,rfl⟩
  | succ j=>
   have:=ih (j:=j) (by simpa using h);rw [show 2 * (j + 1)=2 * j + 2 by omega];simp only [List.getElem_cons_succ];exact this
theorem results_cell_tmp2 {fn:Func} {p u v:Tmp} {ty:TypeId} (h:fn.results=#[.cell p ty,.tmp u,.tmp v]) (tmps:Array Value) (P:Program) (w:World) :
 (results fn tmps).run P w =
  ((asAddr (tmps.getD p undef)).run P w).andThen fun a w1=>((loadVar ty a).run P w1).andThen fun x w2=>.ok (.tuple #[x,tmps.getD u undef,tmps.getD v undef]) w2:=by
 simp only [results,h];simp [Sem.run_bind,Result.andThen]
theorem res_dev3 {fn:Func} {p u v:Tmp} (h:fn.results=#[.cell p 33,.tmp u,.tmp v]) {tmps:Array Value} {w:World} {b:Nat} {v0 v1 v2 v3 v4 v5 v6 v7 v8 v9 v10 v11 e1 e2:Value}
 (hp:tmps.getD p undef=.pointer (some ⟨b,0,none⟩)) (hu:tmps.getD u undef=e1) (hv:tmps.getD v undef=e2)
 (hc:w.heap[b]?=some (.cells #[v0,v1,v2,v3,v4,v5,v6,v7,v8,v9,v10,v11] 33 (0,0))) :
 (results fn tmps).run Tryz.prog w=.ok (.tuple #[.agg #[v0,v1,v2,v3,v4,v5,v6,v7,v8,v9,v10,v11],e1,e2]) w:=by
 have c:=rd_cell hc;have c0:=(c 0).1;have c1:=(c 1).1;have c2:=(c 2).1;have c3:=(c 3).1;have c4:=(c 4).1;have c5:=(c 5).1;have c6:=(c 6).1;have c7:=(c 7).1;have c8:=(c 8).1;have c9:=(c 9).1;have c10:=(c 10).1;have c11:=(c 11).1;simp only [List.getElem?_toArray,List.getElem?_cons_zero,List.getElem?_cons_succ] at c0 c1 c2 c3 c4 c5 c6 c7 c8 c9 c10 c11;rw [results_cell_tmp2 h,hp,hu,hv];simp only [asAddr];simp [go_sem,Result.andThen,c0,c1,c2,c3,c4,c5,c6,c7,c8,c9,c10,c11]
theorem flds_own {x:World} {N:Nat} {fv:Value} {fs:List Fd} (h:x.ownsRow N 70 9 fv fs.length (fdCs fs)):FldsAt x fv fs:=by
 rcases own_slice h with ⟨e,hn⟩ | ⟨g,cap,e,_,hg⟩
 · exact .inl ⟨e,List.length_eq_zero_iff.1 hn⟩
 · refine .inr ⟨g,0,cap,e,?_,fun j hj k v hv=>?_,hg⟩
   · rcases h.2 with ⟨h1,_⟩ | ⟨g',cap',cur,h1,_,_,h4,_⟩
     · rw [e] at h1; cases h1
     · rw [e] at h1; cases h1; exact h4
   have hk:k < 9:=by
    have:=(List.getElem?_eq_some_iff.1 hv).1
    rwa [fdC_len] at this
   have k2:=h;rw [e] at k2;rw [Nat.zero_add,World.ownsRow.cellAt k2 (9 * j + k) (by omega),fdCs_get fs j k hj hk];exact hv
theorem step_err {d:Dv} {seen:List Wd} {ws:List Wd} {n:Nat} (h:stepM d seen ws=.error n):n=6 ∨ n=7 ∨ n=8:=by
 unfold stepM at h
 split at h
 · cases h; exact .inl rfl
 · split at h
   · cases h; exact .inl rfl
   split at h
   · cases h; exact .inr (.inr rfl)
   split at h
   · cases h; exact .inr (.inl rfl)
   split at h
   · cases h; exact .inl rfl
   · cases h
abbrev nilS:Value:=.slice none 0 0
structure RdSt (w:World) (R B M N G:Nat) (ms:Array MapEntry) (mc:Nat) (x:World) (d:Dv) (fv qv:Value) (seen:List Wd):Prop where
 st:DsSt N B M x d fv qv seen
 mn:MeanOk N B M x G ms mc
 sn:SeenOk d seen
 rc:x.heap[R]?=some (.cells dz 33 (0,0))
 b:Below w.heap.size w x
structure RdN (w:World) (R B M N:Nat):Prop where
 R0:w.heap.size≤R
 M0:w.heap.size≤M
 B0:w.heap.size≤B
 RN:R < N
 MN:M < N
 BN:B < N
 RB:R ≠ B
 RM:R ≠ M
 BM:B ≠ M
theorem Fr.below {w x y:World} {B M:Nat} {r:Option Nat} {L:Nat} (h:Fr B M r x y) (hb:Below L w x) (hL:L≤x.heap.size) (hB:L≤B) (hM:L≤M) (hr:∀ j,j < L→some j ≠ r):Below L w y:=
 ⟨h.os.trans hb.os,h.tape.trans hb.tape,h.output.trans hb.output,Nat.le_trans hb.size h.size,fun k hk=>(h.block k (by omega) (by omega) (by omega) (hr k hk)).trans (hb.block k hk)⟩
theorem RdSt.step {w:World} {R B M N G:Nat} {ms:Array MapEntry} {mc:Nat} {x y:World} {d d':Dv} {fv qv fv' qv':Value} {seen seen':List Wd} (nn:RdN w R B M N) (h:RdSt w R B M N G ms mc x d fv qv seen) (hf:Fr B M fv.ownBlock x y) (hs:DsSt N B M y d' fv' qv' seen') (hsn:SeenOk d' seen'):RdSt w R B M N G ms mc y d' fv' qv' seen':=by
 have hr:∀ j,j < N→some j ≠ fv.ownBlock:=fun j hj=>own_ge h.st.ro hj
 refine ⟨hs,h.mn.fr hf hr,hsn,?_,hf.below h.b h.b.size nn.B0 nn.M0 (fun j hj=>hr j (by have:=nn.R0; have:=nn.RN; omega))⟩;exact (hf.block R (Array.getElem?_eq_some_iff.1 h.rc).1 nn.RB nn.RM (hr R nn.RN)).trans h.rc
theorem RdSt.below {w:World} {R B M N G:Nat} {ms:Array MapEntry} {mc:Nat} {x y:World} {d:Dv} {fv qv:Value} {seen:List Wd} (nn:RdN w R B M N) (h:RdSt w R B M N G ms mc x d fv qv seen) (hb:Below x.heap.size x y):RdSt w R B M N G ms mc y d fv qv seen:=
 h.step nn (.of_below hb) (h.st.below nn.BN nn.MN hb) h.sn
def TkC (R B M N G:Nat) (ms:Array MapEntry) (mc:Nat) (w:World):Prop:=∀ (x:World) (d:Dv) (fv qv:Value) (seen:List Wd),RdSt w R B M N G ms mc x d fv qv seen→(seen.length:Int)≤5000→∀ (ws:List Wd) (vw:Value),WdsAt w.heap.size x vw ws→(∀ z ∈ ws,(z.length:Int)≤5000)→(ws.length:Int)≤5000→Calls Tryz.prog 76 #[.pointer (some ⟨B,0,none⟩),.map (some G),vw] x (TakeQ N B M x d fv qv seen ws)
theorem tkC {R B M N G:Nat} {ms:Array MapEntry} {mc:Nat} {w:World} (nn:RdN w R B M N):TkC R B M N G ms mc w:=fun x d fv qv seen h hsl ws vw hw hz hl=>take_any nn.BN nn.MN nn.BM nn.B0 h.st h.mn h.sn hsl hw hz hl
def LaC (R B M N G:Nat) (ms:Array MapEntry) (mc:Nat) (w:World):Prop:=∀ (x:World) (d:Dv) (fv qv:Value) (seen:List Wd),RdSt w R B M N G ms mc x d fv qv seen→(seen.length:Int)≤5000→Calls Tryz.prog 77 #[.pointer (some ⟨B,0,none⟩),.map (some G)] x fun e y=>e=.returned (.bool (lackB seen))∧Below x.heap.size x y
theorem laC {R B M N G:Nat} {ms:Array MapEntry} {mc:Nat} {w:World} (nn:RdN w R B M N):LaC R B M N G ms mc w:=fun x d fv qv seen h hsl=>lacks_any h.mn nn.BN nn.MN nn.BM h.st hsl
theorem map_under (w:World) (o:Obj) (b:Obj) (g:Nat) (h:w.heap[g]?=some o):(w.alloc b).heap[g]?=some o:=by
 have hg:g < w.heap.size:=(Array.getElem?_eq_some_iff.1 h).1;rw [show (w.alloc b).heap=w.heap.push b from rfl,Array.getElem?_push_lt hg,← Array.getElem?_eq_getElem hg]; exact h
theorem own_off {x y:World} {N:Nat} {e:TypeId} {s:Nat} {v:Value} {n:Nat} {xs:List Value} (h:x.ownsRow N e s v n xs) (hk:∀ k,N≤k→y.heap[k]?=x.heap[k]?):y.ownsRow N e s v n xs:=by
 refine ⟨h.1,?_⟩;rcases h.2 with h | ⟨g,cap,cur,h1,h2,h3,h4⟩
 · exact .inl h
 · exact .inr ⟨g,cap,cur,h1,h2,(hk g h2).trans h3,h4⟩
theorem rq_off {x y:World} {N:Nat} {fv qv:Value} {bs:List Nat} (h:RqAt N x fv qv bs) (hk:∀ k,N≤k→y.heap[k]?=x.heap[k]?):BytesAt y qv bs:=by
 rcases h with h | ⟨g,o,cap,h1,h2,h3,h4,_⟩
 · exact .inl h
 · refine .inr ⟨g,o,cap,h1,fun j hj=>?_,?_⟩
   · exact (World.cell?_of_block (a:=⟨g,o + j,none⟩) (hk g h4)).trans (h2 j hj)
   · have:=hk g h4;rw [Array.getElem?_eq_getElem h3] at this;exact (Array.getElem?_eq_some_iff.1 this).1
theorem drew_cell (W:World) (a:Addr):W.drew.cell? a=W.cell? a:=rfl
theorem drew_heap (W:World):W.drew.heap=W.heap:=rfl
def errP (rb:Nat) (ln n:Int) (i:Nat) (v:Value) (z:World):Prop:=
 match i with
 | 0=>v=.agg dz
 | 1=>v=.pointer (some ⟨rb,0,none⟩)
 | 2=>v=.int .i64 ln
 | 3=>v=.int .i64 n
 | 5=>v=.int .i64 ln
 | 6=>v=.int .i64 n
 | _=>True
structure ErrW (y:World) (R rb:Nat) (ln:Int) (x:Array Bool) (z:World):Prop where
 lr:z.cell? ⟨rb,0,none⟩=some (.int .i64 ln)
 f0:x.getD 4 false=false→z=y.drew
 f1:x.getD 4 false=true→z=(put12 y R (.string ⟨#[]⟩) (.int .i64 0) (.int .i64 0) (.int .i64 0) (.int .i64 0) (.string ⟨#[]⟩) (.slice none 0 0) (.slice none 0 0) (.int .i64 0) (.int .i64 0) (.int .i64 0) (.int .i64 0)).drew
theorem ErrW.other {y:World} {R rb:Nat} {ln:Int} {x:Array Bool} {z:World} (h:ErrW y R rb ln x z) {i:Nat} (hi:i ≠ 4):ErrW y R rb ln (x.setIfInBounds i true) z:=
 ⟨h.lr,by rw [getD_set_ne false hi]; exact h.f0,by rw [getD_set_ne false hi]; exact h.f1⟩
theorem ErrW.stored {y:World} {R rb:Nat} {ln:Int} {x:Array Bool} {z:World} (h:ErrW y R rb ln x z) (hr:rb ≠ R) (hx:x.getD 4 false=false) (hs:4 < x.size):ErrW y R rb ln (x.setIfInBounds 4 true) (put12 y R (.string ⟨#[]⟩) (.int .i64 0) (.int .i64 0) (.int .i64 0) (.int .i64 0) (.string ⟨#[]⟩) (.slice none 0 0) (.slice none 0 0) (.int .i64 0) (.int .i64 0) (.int .i64 0) (.int .i64 0)).drew:=by
 have e:=getD_set_at hs;have hl:=h.lr;rw [h.f0 hx,drew_cell] at hl;have k:(put12 y R (.string ⟨#[]⟩) (.int .i64 0) (.int .i64 0) (.int .i64 0) (.int .i64 0) (.string ⟨#[]⟩) (.slice none 0 0) (.slice none 0 0) (.int .i64 0) (.int .i64 0) (.int .i64 0) (.int .i64 0)).cell? ⟨rb,0,none⟩=some (.int .i64 ln):=(World.cell?_of_block (a:=⟨rb,0,none⟩) (put12_off (y:=y) hr (.string ⟨#[]⟩) (.int .i64 0) (.int .i64 0) (.int .i64 0) (.int .i64 0) (.string ⟨#[]⟩) (.slice none 0 0) (.slice none 0 0) (.int .i64 0) (.int .i64 0) (.int .i64 0) (.int .i64 0))).trans hl;refine ⟨by rw [drew_cell]; exact k,fun h4=>?_,fun _=>rfl⟩
 · rw [e] at h4; cases h4
theorem errK {rb:Nat} {ln n:Int} {x:Array Bool} {z z':World}:RegK (errP rb ln n) x z z':=fun j v _ h=>by unfold errP at *; exact h
theorem sn_len {d:Dv} {seen:List Wd} (h:SeenOk d seen):seen.length≤18:=by
 have h1:(notF seen).length≤10:=nodup_sub (notF seen) tenK h.nd (fun x hx=>by
  have hm:=List.mem_filter.1 hx;exact (h.sub x hm.1).resolve_right (by simpa using hm.2))
 have h2:∀ l:List Wd,l.length=(notF l).length + l.count kFie:=fun l=>by
  induction l with
  | nil=>rfl
  | cons a l ih=>
   unfold notF at *
   by_cases ha:a=kFie
   · subst ha; simp; omega
   · simp [ha]; omega
 have:=h2 seen;have:=h.cnt;have:=h.le;omega
theorem FldsAt.lt {x:World} {v:Value} {fs:List Fd} (h:FldsAt x v fs):∀ g,v.ownBlock=some g→g < x.heap.size:=by
 intro g hg;rcases h with ⟨rfl,_⟩ | ⟨g',o,cap,rfl,_,_,h3⟩
 · cases hg
 · cases hg; exact h3
theorem BytesAt.lt {x:World} {v:Value} {bs:List Nat} (h:BytesAt x v bs):∀ g,v.ownBlock=some g→g < x.heap.size:=by
 intro g hg;rcases h with ⟨rfl,_⟩ | ⟨g',o,cap,rfl,_,h3⟩
 · cases hg
 · cases hg; exact h3
theorem FldsAt.on {x y:World} {v:Value} {fs:List Fd} (h:FldsAt x v fs) (hk:∀ g,v.ownBlock=some g→y.heap[g]?=x.heap[g]?):FldsAt y v fs:=by
 rcases h with h | ⟨g,o,cap,rfl,h0,h2,h3⟩
 · exact .inl h
 · have k:=hk g rfl;refine .inr ⟨g,o,cap,rfl,h0,fun j hj i u hu=>(World.cell?_of_block (a:=⟨g,o + 9 * j + i,none⟩) k).trans (h2 j hj i u hu),?_⟩;rw [Array.getElem?_eq_getElem h3] at k;exact (Array.getElem?_eq_some_iff.1 k).1
theorem BytesAt.on {x y:World} {v:Value} {bs:List Nat} (h:BytesAt x v bs) (hk:∀ g,v.ownBlock=some g→y.heap[g]?=x.heap[g]?):BytesAt y v bs:=by
 rcases h with h | ⟨g,o,cap,rfl,h2,h3⟩
 · exact .inl h
 · have k:=hk g rfl;refine .inr ⟨g,o,cap,rfl,fun j hj=>(World.cell?_of_block (a:=⟨g,o + j,none⟩) k).trans (h2 j hj),?_⟩;rw [Array.getElem?_eq_getElem h3] at k;exact (Array.getElem?_eq_some_iff.1 k).1
theorem own_on {x y:World} {N:Nat} {e:TypeId} {s:Nat} {v:Value} {n:Nat} {xs:List Value} (h:x.ownsRow N e s v n xs) (hk:∀ g,v.ownBlock=some g→y.heap[g]?=x.heap[g]?):y.ownsRow N e s v n xs:=by
 refine ⟨h.1,?_⟩;rcases h.2 with h | ⟨g,cap,cur,h1,h2,h3,h4⟩
 · exact .inl h
 · exact .inr ⟨g,cap,cur,h1,h2,(hk g (by rw [h1]; rfl)).trans h3,h4⟩
end Go.Proofs.YthabffjgdhfbmaaGreatDoor
namespace Go.Proofs.YthabffjgdhfbmaaGreatDoor
def ClosedB (L:List Oper) (x:Array Bool):Prop:=∀ (j:Nat) (o:Oper),L[j]?=some o→x.getD j false=true→∀ e ∈ o.after,Region.binds .any e=true→x.getD e.on false=true
theorem ClosedB.at {L:List Oper} {x:Array Bool} (h:ClosedB L x) {j:Nat} {o:Oper} (ho:L[j]?=some o) {k:Nat} (hk:(o.after.any fun e=>Region.binds .any e && e.on == k)=true) (hx:x.getD j false=true):x.getD k false=true:=dep_at (h j o ho hx) hk
theorem getD_put_true {x:Array Bool} {i j:Nat} (h:x.getD j false=true):(x.setIfInBounds i true).getD j false=true:=by
 by_cases e:i=j
 · subst e;refine getD_set_at ?_;rw [Array.getD_eq_getD_getElem?] at h
   cases hx:x[i]? with
   | none=>rw [hx] at h; cases h
   | some b=>exact (Array.getElem?_eq_some_iff.1 hx).1
 · rw [getD_set_ne false e]; exact h
theorem region_props4 {G:Type} {P:Program} {id:Nat} {L:List Oper} {Q:Exit→Act→World→Prop} (Pv:G→Nat→Value→Prop) (W:G→Array Bool→World→Prop) (g0:G) {a0:Act} {w0:World}
 (hm:P.follows .mixedOrders=true) (hb:regB L a0.tmps.size=true)
 (step:∀ (γ:G) x a w i o,L[i]?=some o→RegI L a0.tmps a0.defers (fun i v _=>Pv γ i v) x a w→(∀ e ∈ o.after,Region.binds .any e=true→x.getD e.on false=true)→ClosedB L x→x.size=L.length→x.getD i true=false→W γ x w →
  o.wp P a w (fun a' w'=>∃ v γ',a'=a.put o.dst v∧(∀ d,o.dst=some d→Pv γ' i v)∧(∀ j v,x.getD j false=true→Pv γ j v→Pv γ' j v)∧W γ' (x.setIfInBounds i true) w') Q)
 (fin:∀ γ x a w,x.size=L.length→(∀ i,i < L.length→x.getD i false=true)→RegI L a0.tmps a0.defers (fun i v _=>Pv γ i v) x a w→W γ x w→Q .normal a w)
 (h0:W g0 (Array.replicate L.length false) { w0 with drawn:=w0.drawn + 1 }):(Code.region id L.toArray true).wp P Q a0 w0:=by
 refine region_props3 (G:=G) (fun γ _ i v _=>Pv γ i v) (fun γ x w=>W γ x w∧ClosedB L x) g0 hm hb ?_ ?_ ⟨h0,?_⟩
 · rintro γ x a w i o ho hI haf hx hxi ⟨hW,hc⟩;refine Oper.wp_mono ?_ (step γ x a w i o ho hI haf hc hx hxi hW);rintro a' w' ⟨v,γ',e,hv,hk,hw⟩;refine ⟨v,γ',e,hv,hk,hw,fun j p hp hj e' he' hb'=>?_⟩
   by_cases hji:j=i
   · subst hji;rw [ho] at hp
     cases hp
     exact getD_put_true (haf e' he' hb')
   · rw [getD_set_ne false (Ne.symm hji)] at hj;exact getD_put_true (hc j p hp hj e' he' hb')
 · rintro γ x a w hx hall hI ⟨hW,_⟩;exact fin γ x a w hx hall hI hW
 · intro j o _ hj
   exfalso
   rw [Array.getD_eq_getD_getElem?] at hj
   by_cases hlt:j < L.length
   · rw [Array.getElem?_replicate,if_pos hlt] at hj
     cases hj
   · rw [Array.getElem?_replicate,if_neg hlt] at hj
     cases hj
end Go.Proofs.YthabffjgdhfbmaaGreatDoor
namespace Go.Proofs.YthabffjgdhfbmaaGreatDoor
open Go.RowKit
theorem info_row8p:(Tryz.prog.info? 56).map (fun i=>(i.zero,i.size,i.bytes))=some (some (.agg #[.int .i64 0,.slice none 0 0]),2,32):=by kernel_rfl
theorem info_rws:(Tryz.prog.info? 55).map (fun i=>(i.zero,i.size,i.bytes))=some (some (.slice none 0 0),1,24):=by kernel_rfl
theorem own_apart {x:World} {b b':Nat} {T T':TypeId} {s s':Nat} {v v':Value} {n n':Nat} {xs xs':List Value} (h:x.ownsRow b T s v n xs) (h':x.ownsRow b' T' s' v' n' xs') (hne:T ≠ T'):v.ownBlock=none ∨ v.ownBlock ≠ v'.ownBlock:=by
 rcases h.2 with ⟨e,_⟩ | ⟨g,c,cur,e,_,hb,_⟩
 · left; rw [e]; rfl
 · rcases h'.2 with ⟨e',_⟩ | ⟨g',c',cur',e',_,hb',_⟩
   · right; rw [e,e']; simp [Value.ownBlock]
   · right
     rw [e,e'];intro h;have h:g=g':=by simpa [Value.ownBlock] using h
     subst h;rw [hb] at hb';injection hb' with hb'
     injection hb' with _ ht _
     exact hne ht
theorem own_below {x y:World} {b:Nat} {T:TypeId} {s:Nat} {v:Value} {n:Nat} {xs:List Value} (h:x.ownsRow b T s v n xs) (hb:Below x.heap.size x y):y.ownsRow b T s v n xs:=
 own_on h fun g hg=>hb.block g (World.ownsRow.lt h g hg).2
theorem own_base {x:World} {b b':Nat} {T:TypeId} {s:Nat} {v:Value} {n:Nat} {xs:List Value} (h:x.ownsRow b T s v n xs) (hb:b'≤b):x.ownsRow b' T s v n xs:=by
 refine ⟨h.1,?_⟩;rcases h.2 with h | ⟨g,cap,cur,h1,h2,h3⟩
 · exact .inl h
 · exact .inr ⟨g,cap,cur,h1,Nat.le_trans hb h2,h3⟩
def WcAt (N:Nat) (x:World) (v:Value) (ws:List Wd):Prop:=(ws=[]∧∃ a c,v=.slice a 0 c) ∨ x.ownsRow N 9 1 v ws.length (strV ws)
theorem WcAt.below {N:Nat} {x y:World} {v:Value} {ws:List Wd} (h:WcAt N x v ws) (hb:Below x.heap.size x y):WcAt N y v ws:=h.imp id fun h=>own_below h hb
theorem WcAt.kept {N b:Nat} {x y:World} {v v':Value} {ws:List Wd} {T:TypeId} {s n:Nat} {xs:List Value} (h:WcAt N x v ws) (h':x.ownsRow b T s v' n xs) (hne:9 ≠ T) (hg:x.grownBy y v'.ownBlock):WcAt N y v ws:=
 h.imp id fun h=>World.ownsRow.kept h hg (own_apart h h' hne)
theorem WcAt.base {N N':Nat} {x:World} {v:Value} {ws:List Wd} (h:WcAt N x v ws) (hb:N'≤N):WcAt N' x v ws:=h.imp id fun h=>own_base h hb
theorem WcAt.wds {N:Nat} {x:World} {v:Value} {ws:List Wd} (h:WcAt N x v ws):WdsAt x.heap.size x v ws:=by
 rcases h with ⟨h1,a,c,h2⟩ | h
 · exact .inl ⟨a,c,h2,h1⟩
 · rcases own_slice h with ⟨e,e2⟩ | ⟨g,cap,e,_,hl⟩
   · exact .inl ⟨none,0,e,List.length_eq_zero_iff.1 e2⟩
   · have hr:=own_room h _ _ _ e;refine .inr ⟨g,0,cap,e,hr,fun j hj=>?_,hl⟩;rw [e] at h;have k:=World.ownsRow.cellAt h j (by omega);rw [Nat.zero_add,k];unfold strV;rw [List.getElem?_map,List.getElem?_eq_getElem hj];rfl
structure BkSt (w x:World) (vo:Value) (us:List Value) (cs:List (List Rn)):Prop where
 len:us.length=cs.length
 ro:x.ownsRow w.heap.size 55 1 vo us.length us
 inn:∀ i (h:i < us.length) (h':i < cs.length),x.ownsRow w.heap.size 56 2 us[i] cs[i].length (rnC cs[i])
 dj:∀ i j (hi:i < us.length) (hj:j < us.length),i ≠ j→us[i].ownBlock=none ∨ us[i].ownBlock ≠ us[j].ownBlock
 b:Below w.heap.size w x
 wo:∀ c ∈ cs,∀ f ∈ c,WcAt w.heap.size x f.2 f.1.2
theorem BkSt.first (w:World):BkSt w w (.slice none 0 0) [] []:=
 ⟨rfl,World.ownsRow_nil _ _ _ _,fun i h=>(by cases h),fun i j h=>(by cases h),Below.refl _ _,fun c h=>(by cases h)⟩
theorem BkSt.below {w x y:World} {vo:Value} {us:List Value} {cs:List (List Rn)} (h:BkSt w x vo us cs) (hb:Below x.heap.size x y):BkSt w y vo us cs:=
 ⟨h.len,own_below h.ro hb,fun i h1 h2=>own_below (h.inn i h1 h2) hb,h.dj,h.b.trans (hb.mono h.b.size),fun c hc f hf=>(h.wo c hc f hf).below hb⟩
theorem BkSt.push {w x y:World} {vo vo':Value} {us:List Value} {cs:List (List Rn)} (h:BkSt w x vo us cs) (hown:y.ownsRow w.heap.size 55 1 vo' (us.length + 1) (us ++ [.slice none 0 0])) (hg:x.grownBy y vo.ownBlock):BkSt w y vo' (us ++ [.slice none 0 0]) (cs ++ [[]]):=by
 refine ⟨by simp [h.len],by rw [List.length_append]; exact hown,fun i h1 h2=>?_,fun i j hi hj hij=>?_,h.b.grown hg h.b.size (fun k e=>(World.ownsRow.lt h.ro k e).1),fun c hc f hf=>?_⟩
 · rw [List.length_append] at h1
   by_cases hi:i < us.length
   · rw [List.getElem_append_left hi,List.getElem_append_left (by rw [← h.len]; exact hi)];exact World.ownsRow.kept (h.inn i hi (by rw [← h.len]; exact hi)) hg (own_apart (h.inn i hi (by rw [← h.len]; exact hi)) h.ro (by decide))
   · have e:i=us.length:=by simp at h1; omega
     subst e;have e1:(us ++ [Value.slice none 0 0])[us.length]=.slice none 0 0:=by simp
     have e2:(cs ++ [[]])[us.length]'h2=[]:=by simp [h.len]
     rw [e1,e2];exact World.ownsRow_nil _ _ _ _
 · by_cases h1:i < us.length
   · rw [List.getElem_append_left h1]
     by_cases h2:j < us.length
     · rw [List.getElem_append_left h2]; exact h.dj i j h1 h2 hij
     · have e:j=us.length:=by simp at hj; omega
       subst e;have e1:(us ++ [Value.slice none 0 0])[us.length]=.slice none 0 0:=by simp
       rw [e1]
       cases hu:us[i].ownBlock with
       | none=>exact .inl rfl
       | some g=>right; simp [Value.ownBlock]
   · have e:i=us.length:=by simp at hi; omega
     subst e
     left
     have e1:(us ++ [Value.slice none 0 0])[us.length]=.slice none 0 0:=by simp
     rw [e1]; rfl
 · rcases List.mem_append.1 hc with hc | hc
   · exact (h.wo c hc f hf).kept h.ro (by decide) hg
   · rw [List.mem_singleton.1 hc] at hf; cases hf
theorem BkSt.grow {w x z2 z3:World} {go n capo:Nat} {us0:List Value} {u u':Value} {cs0:List (List Rn)} {c:List Rn} {f:Rn} (h:BkSt w x (.slice (some ⟨go,0,none⟩) n capo) (us0 ++ [u]) (cs0 ++ [c])) (hb:Below x.heap.size x z2)
 (hown:z3.ownsRow w.heap.size 56 2 u' (c.length + 1) (rnC c ++ [.int .i64 f.1.1,f.2])) (hg:z2.grownBy z3 u.ownBlock) (hn:u'.ownBlock=u.ownBlock ∨ ∃ g,u'.ownBlock=some g∧z2.heap.size≤g) (hwf:WcAt w.heap.size z2 f.2 f.1.2) :
 BkSt w (z3.setCell ⟨go,us0.length,none⟩ u') (.slice (some ⟨go,0,none⟩) n capo) (us0 ++ [u']) (cs0 ++ [c ++ [f]]):=by
 have h2:=h.below hb;have ln:us0.length=cs0.length:=by have:=h.len; simpa using this
 have nn:n=us0.length + 1:=by
  rcases h.ro.2 with ⟨e,_⟩ | ⟨g,cap,cur,e,_⟩
  · cases e
  · injection e with _ e _; simpa using e
 subst nn;have eu:(us0 ++ [u])[us0.length]'(by simp)=u:=by simp
 have ec:(cs0 ++ [c])[us0.length]'(by simp [ln])=c:=by simp [ln]
 have hu:=h2.inn us0.length (by simp) (by simp [ln]);rw [eu,ec] at hu;have ro2:=h2.ro;rw [show (us0 ++ [u]).length=us0.length + 1 by simp] at ro2;have ro3:=World.ownsRow.kept ro2 hg (own_apart ro2 hu (by decide));obtain ⟨ro4,g4⟩:=World.ownsRow.stored ro3 us0.length u';have es:(us0 ++ [u]).set us0.length u'=us0 ++ [u']:=by rw [List.set_append_right _ _ (Nat.le_refl _),Nat.sub_self]; rfl
 rw [es] at ro4;have keep:∀ {v:Value} {k:Nat} {xs:List Value},z3.ownsRow w.heap.size 56 2 v k xs→(z3.setCell ⟨go,us0.length,none⟩ u').ownsRow w.heap.size 56 2 v k xs:=fun hv=>World.ownsRow.kept hv g4 (own_apart hv ro3 (by decide))
 have old:∀ i (hi:i < us0.length),z3.ownsRow w.heap.size 56 2 us0[i] (cs0[i]'(by omega)).length (rnC (cs0[i]'(by omega)))∧(us0[i].ownBlock=none ∨ us0[i].ownBlock ≠ u.ownBlock):=by
  intro i hi;have k:=h2.inn i (by simp; omega) (by simp; omega);rw [List.getElem_append_left hi,List.getElem_append_left (by omega)] at k;have d:=h2.dj i us0.length (by simp; omega) (by simp) (by omega);rw [List.getElem_append_left hi,eu] at d;exact ⟨World.ownsRow.kept k hg d,d⟩
 have new:∀ i (hi:i < us0.length),us0[i].ownBlock=none ∨ us0[i].ownBlock ≠ u'.ownBlock:=by
  intro i hi;have k:=h2.inn i (by simp; omega) (by simp; omega);rw [List.getElem_append_left hi] at k;rcases hn with hn | ⟨g,hn,hge⟩
  · rw [hn]; exact (old i hi).2
  · cases hv:us0[i].ownBlock with
    | none=>exact .inl rfl
    | some g'=>
     right
     rw [hn];intro e;have e:=Option.some.inj e;have:=(World.ownsRow.lt k g' hv).2;omega
 refine ⟨by simp [ln],by rw [show (us0 ++ [u']).length=us0.length + 1 by simp]; exact ro4,fun i h1 h2'=>?_,fun i j hi hj hij=>?_,?_,fun d hd q hq=>?_⟩
 · by_cases hi:i < us0.length
   · rw [List.getElem_append_left hi,List.getElem_append_left (by omega)];exact keep (old i hi).1
   · have e:i=us0.length:=by simp at h1; omega
     subst e;have e1:(us0 ++ [u'])[us0.length]'h1=u':=by simp
     have e2:(cs0 ++ [c ++ [f]])[us0.length]'h2'=c ++ [f]:=by simp [ln]
     rw [e1,e2,List.length_append,List.length_singleton,rnC_snoc];exact keep hown
 · by_cases h1:i < us0.length
   · rw [List.getElem_append_left h1]
     by_cases h2:j < us0.length
     · rw [List.getElem_append_left h2];have d:=h.dj i j (by simp; omega) (by simp; omega) hij
       rwa [List.getElem_append_left h1,List.getElem_append_left h2] at d
     · have e:j=us0.length:=by simp at hj; omega
       subst e;have e1:(us0 ++ [u'])[us0.length]'hj=u':=by simp
       rw [e1]; exact new i h1
   · have e:i=us0.length:=by simp at hi; omega
     subst e;have e1:(us0 ++ [u'])[us0.length]'hi=u':=by simp
     have hj':j < us0.length:=by simp at hj; omega
     rw [e1,List.getElem_append_left hj'];rcases new j hj' with d | d
     · cases hv:u'.ownBlock with
       | none=>exact .inl rfl
       | some g=>right; rw [d]; simp
     · exact .inr (Ne.symm d)
 · have b3:=h2.b.grown hg h2.b.size (fun k e=>(World.ownsRow.lt hu k e).1);have lo:=(World.ownsRow.lt ro3 go rfl).1;exact b3.setCell (p:=⟨go,us0.length,none⟩) lo u'
 · have kq:WcAt w.heap.size z2 q.2 q.1.2:=by
    rcases List.mem_append.1 hd with hd | hd
    · exact h2.wo d (List.mem_append_left _ hd) q hq
    · rw [List.mem_singleton.1 hd] at hq;rcases List.mem_append.1 hq with hq | hq
      · exact h2.wo c (by simp) q hq
      · rw [List.mem_singleton.1 hq]; exact hwf
   exact (kq.kept hu (by decide) hg).kept ro3 (by decide) g4
def ClF (w:World) (ws:List Wd):Prop:=∀ (y:World) (v':Value),(w.alloc (.cells #[] 9)).grownBy y (some w.heap.size)→y.ownsRow w.heap.size 9 1 v' (0 + ws.length) ([] ++ strV ws)→∃ p c,v'=.slice p ws.length c∧Below w.heap.size w y∧WcAt w.heap.size y (.slice p ws.length c) ws
def NwW (z:World) (a:Addr) (l:List Value):Prop:=∀ j u,l[j]?=some u→z.cell? (a.add j)=some u
def OneV (l:List Value):Prop:=∀ u ∈ l,u.oneCell'=true
theorem clone_any (v:Value) (w:World) (ws:List Wd) (hv:WdsAt w.heap.size w v ws) (hl:(ws.length:Int)≤4500) :
 Calls Tryz.prog 74 #[v] w fun e y=>∃ p c,e=.returned (.slice p ws.length c)∧Below w.heap.size w y∧WcAt w.heap.size y (.slice p ws.length c) ws:=by
 obtain ⟨i0,hi0,hz0,hz1,hz2⟩:=info_parts info_st;have fin:∀ {y:World} {v':Value},(w.alloc (.cells #[] 9)).grownBy y (some w.heap.size)→y.ownsRow w.heap.size 9 1 v' (0 + ws.length) ([] ++ strV ws)→∃ p c,v'=.slice p ws.length c∧Below w.heap.size w y∧WcAt w.heap.size y (.slice p ws.length c) ws:=by
  intro y v' hg ho;rw [Nat.zero_add] at ho;have ba:Below w.heap.size w (w.alloc (.cells #[] 9)):=(Below.refl _ _).alloc (Nat.le_refl _) _;have bl:=ba.grown hg ba.size (fun k e=>by have:=Option.some.inj e; omega);rcases own_slice ho with ⟨e,e2⟩ | ⟨g,cap,e,_⟩
  · exact ⟨none,0,by rw [e,e2],bl,.inl ⟨List.length_eq_zero_iff.1 e2,none,0,by rw [e2]⟩⟩
  · exact ⟨_,_,e,bl,.inr (by rw [← e]; exact ho)⟩
 have own0:(w.alloc (.cells #[] 9)).ownsRow w.heap.size 9 1 (.slice (some ⟨w.heap.size,0,none⟩) 0 0) 0 []:=⟨rfl,.inr ⟨w.heap.size,0,#[],rfl,Nat.le_refl _,World.alloc_heap_new w _,Nat.le_refl _,Nat.zero_le _,rfl,rfl⟩⟩;have hm:0 + ws.length≤maxLen:=by unfold maxLen; omega
 have hby:(0 + ws.length) * 16≤140737488355328:=by omega
 replace fin:Hid (ClF w ws):=fun y v' h1 h2=>fin h1 h2
 have ba:Below w.heap.size w (w.alloc (.cells #[] 9)):=(Below.refl _ _).alloc (Nat.le_refl _) _;obtain ⟨p,c,rfl⟩:=hv.form
 cases p with
 | none=>
  obtain rfl:ws=[]:=by
   rcases hv with ⟨_,_,_,h⟩ | ⟨g,o,cap,e,_⟩
   · exact h
   · injection e with e _ _; cases e
  clear fin own0 hv ba;have eq0:∀ x:World,(binOp .eql 52 (.slice none 0 c) (.slice none 0 0)).run Tryz.prog x=.ok (.bool true) x:=fun x=>Lib.run_eql_slice_nil x _ _ none 0 c 0 0 Tryz.underlying52
  go_enter Tryz.func74,Tryz.ntmps74
  go_wp2;go_ret;exact ⟨none,0,rfl,Below.refl _ _,.inl ⟨rfl,none,0,rfl⟩⟩
 | some a=>
  have news:Hid (NwW (w.alloc (.cells #[] 9)) a (strV ws)):=by
   intro j u hu;rcases hv with ⟨_,_,_,rfl⟩ | ⟨g,o,cap,e,_,hi,hg⟩
   · cases hu
   · injection e with e _ _
     injection e with e
     subst e;rw [addr_add];have hj:j < ws.length:=by have:=(List.getElem?_eq_some_iff.1 hu).1; simpa using this
     have k:=(ba.cell (p:=⟨g,o + j,none⟩) hg).trans (hi j hj);rw [k];have e2:(strV ws)[j]?=some (Value.string (txt ws[j])):=by unfold strV; rw [List.getElem?_map,List.getElem?_eq_getElem hj]; rfl
     rw [hu] at e2;exact e2.symm
  have one:Hid (OneV (strV ws)):=by
   intro u hu;unfold strV at hu;obtain ⟨z,_,rfl⟩:=List.mem_map.1 hu;rfl
  have ln:Hid ((strV ws).length=ws.length * 1):=by unfold strV Hid; simp
  replace own0:Hid ((w.alloc (.cells #[] 9)).ownsRow w.heap.size 9 1 (.slice (some ⟨w.heap.size,0,none⟩) 0 0) 0 []):=own0;clear hv ba;obtain ⟨m,hm'⟩:∃ m,ws.length=m:=⟨_,rfl⟩;rw [hm'] at hm hby ln ⊢;replace hm':Hid (ws.length=m):=hm';clear hl;have eq0:∀ x:World,(binOp .eql 52 (.slice (some a) m c) (.slice none 0 0)).run Tryz.prog x=.ok (.bool false) x:=fun x=>Lib.run_eql_slice_nil x _ _ (some a) m c 0 0 Tryz.underlying52
  go_enter Tryz.func74,Tryz.ntmps74
  go_wp2_with (at_builtin; refine wpList_append_own_at _ rfl _ _ 52 rfl w.heap.size 9 i0 (.string ⟨#[]⟩) 1 16 Tryz.underlying52 hi0 hz0 hz1 hz2 rfl (by decide) _ 0 [] rfl own0.out a m c (strV ws) rfl ln.out news.out one.out hm hby (by simp) ?_; intro v1 y1 hA gA _ vA; rw [← hm'.out] at hA; obtain ⟨p,c,rfl,hbe,hwc⟩:=fin.out y1 v1 gA hA; rw [hm'.out] at hwc ⊢; replace hbe:Hid (Below w.heap.size w y1):=hbe; replace hwc:Hid (WcAt w.heap.size y1 (.slice p m c) ws):=hwc; clear hA gA vA)
  go_ret;exact ⟨p,c,rfl,hbe.out,hwc.out⟩
abbrev kBe:ByteArray:=⟨#[98,101]⟩
abbrev kLe:ByteArray:=⟨#[108,101]⟩
abbrev kSbe:ByteArray:=⟨#[115,98,101]⟩
abbrev kSle:ByteArray:=⟨#[115,108,101]⟩
abbrev kBcd:ByteArray:=⟨#[98,99,100]⟩
abbrev kDec:ByteArray:=⟨#[100,101,99]⟩
def kindI (s:ByteArray):Nat:=if s=kBe then 0 else if s=kLe then 1 else if s=kSbe then 2 else if s=kSle then 3 else if s=kBcd then 4 else if s=kDec then 5 else 6
def NoKind (s:ByteArray):Prop:=¬ s=kBe∧¬ s=kLe∧¬ s=kSbe∧¬ s=kSle∧¬ s=kBcd∧¬ s=kDec
theorem kind_be:kindI kBe=0:=of_decide_eq_true (by kernel_rfl)
theorem kind_le:kindI kLe=1:=of_decide_eq_true (by kernel_rfl)
theorem kind_sbe:kindI kSbe=2:=of_decide_eq_true (by kernel_rfl)
theorem kind_sle:kindI kSle=3:=of_decide_eq_true (by kernel_rfl)
theorem kind_bcd:kindI kBcd=4:=of_decide_eq_true (by kernel_rfl)
theorem kind_dec:kindI kDec=5:=of_decide_eq_true (by kernel_rfl)
theorem kind_no {s:ByteArray} (h:NoKind s):kindI s=6:=by
 obtain ⟨h0,h1,h2,h3,h4,h5⟩:=h;unfold kindI;rw [if_neg h0,if_neg h1,if_neg h2,if_neg h3,if_neg h4,if_neg h5]
theorem kind_cases (s:ByteArray):s=kBe ∨ s=kLe ∨ s=kSbe ∨ s=kSle ∨ s=kBcd ∨ s=kDec ∨ NoKind s:=by
 by_cases h0:s=kBe
 · exact .inl h0
 by_cases h1:s=kLe
 · exact .inr (.inl h1)
 by_cases h2:s=kSbe
 · exact .inr (.inr (.inl h2))
 by_cases h3:s=kSle
 · exact .inr (.inr (.inr (.inl h3)))
 by_cases h4:s=kBcd
 · exact .inr (.inr (.inr (.inr (.inl h4))))
 by_cases h5:s=kDec
 · exact .inr (.inr (.inr (.inr (.inr (.inl h5)))))
 exact .inr (.inr (.inr (.inr (.inr (.inr ⟨h0,h1,h2,h3,h4,h5⟩)))))
def rgtB (k:Nat) (n:Int):Bool:=if k < 5 then decide (1≤n∧n≤4) else if k=5 then decide (1≤n∧n≤8) else false
theorem rgt_cases {k:Nat} {n:Int} (h:rgtB k n=true):(k < 5∧1≤n∧n≤4) ∨ (k=5∧1≤n∧n≤8):=by
 unfold rgtB at h
 split at h
 · left; exact ⟨by assumption,by simpa using h⟩
 · split at h
   · right; exact ⟨by assumption,by simpa using h⟩
   · cases h
structure U where
 nm:ByteArray
 m:Int
 l:Int
 t:Int
 k:Int
 fn:Int
 fd:Int
 on:Int
 od:Int
 code:Int
abbrev encU (u:U):Value:=.agg #[.string u.nm,.int .i64 u.m,.int .i64 u.l,.int .i64 u.t,.int .i64 u.k,.int .i64 u.fn,.int .i64 u.fd,.int .i64 u.on,.int .i64 u.od,.int .i64 u.code]
def tab:List U:=[
 ⟨⟨#[111,110,101]⟩,0,0,0,0,1,1,0,1,512⟩,
 ⟨⟨#[112,99,116]⟩,0,0,0,0,1,100,0,1,544⟩,
 ⟨⟨#[107,103]⟩,1,0,0,0,1,1,0,1,1731⟩,
 ⟨⟨#[103]⟩,1,0,0,0,1,1000,0,1,1728⟩,
 ⟨⟨#[108,98]⟩,1,0,0,0,45359237,100000000,0,1,1760⟩,
 ⟨⟨#[109]⟩,0,1,0,0,1,1,0,1,1280⟩,
 ⟨⟨#[99,109]⟩,0,1,0,0,1,100,0,1,1297⟩,
 ⟨⟨#[109,109]⟩,0,1,0,0,1,1000,0,1,1298⟩,
 ⟨⟨#[105,110]⟩,0,1,0,0,127,5000,0,1,1376⟩,
 ⟨⟨#[115]⟩,0,0,1,0,1,1,0,1,2176⟩,
 ⟨⟨#[109,105,110]⟩,0,0,1,0,60,1,0,1,2208⟩,
 ⟨⟨#[104]⟩,0,0,1,0,3600,1,0,1,2240⟩,
 ⟨⟨#[107]⟩,0,0,0,1,1,1,0,1,3520⟩,
 ⟨⟨#[99]⟩,0,0,0,1,1,1,5463,20,6048⟩,
 ⟨⟨#[102]⟩,0,0,0,1,5,9,45967,180,4416⟩,
 ⟨⟨#[112,97]⟩,1,(-1),(-2),0,1,1,0,1,3840⟩,
 ⟨⟨#[107,112,97]⟩,1,(-1),(-2),0,1000,1,0,1,3843⟩,
 ⟨⟨#[109,109,104,103]⟩,1,(-1),(-2),0,20265,152,0,1,3872⟩,
 ⟨⟨#[99,109,104,111]⟩,1,(-1),(-2),0,196133,2000,0,1,3904⟩,
 ⟨⟨#[108]⟩,0,3,0,0,1,1000,0,1,1600⟩,
 ⟨⟨#[109,108]⟩,0,3,0,0,1,1000000,0,1,1618⟩,
 ⟨⟨#[108,112,109]⟩,0,3,(-1),0,1,60000,0,1,3072⟩,
 ⟨⟨#[109,108,104]⟩,0,3,(-1),0,1,3600000000,0,1,3122⟩,
 ⟨⟨#[98,112,109]⟩,0,0,(-1),0,1,60,0,1,2720⟩,
 ⟨⟨#[104,122]⟩,0,0,(-1),0,1,1,0,1,2496⟩]
def noU:U:=⟨⟨#[]⟩,0,0,0,0,0,0,0,0,0⟩
def isU (s:ByteArray):Bool:=tab.any (fun u=>decide (u.nm=s))
def atU (s:ByteArray):U:=(tab.find? (fun u=>decide (u.nm=s))).getD noU
theorem nm_eq (a b:ByteArray):(a.toList == b.toList)=decide (a=b):=by
 rw [ByteArray.toList_eq,ByteArray.toList_eq]
 by_cases h:a=b
 · subst h; simp
 · rw [decide_eq_false h,beq_eq_false_iff_ne];exact fun e=>h (ByteArray.ext (Array.toList_inj.mp e))
theorem nm_yes {a b:ByteArray} (h:a=b):(a.toList == b.toList)=true:=by rw [nm_eq,decide_eq_true h]
theorem nm_no {a b:ByteArray} (h:¬ a=b):(a.toList == b.toList)=false:=by rw [nm_eq,decide_eq_false h]
theorem tab_len:tab.length=25:=rfl
theorem isU_of {s:ByteArray} {u:U} (h:u ∈ tab) (e:u.nm=s):isU s=true:=by
 unfold isU; rw [List.any_eq_true]; exact ⟨u,h,by simp [e]⟩
theorem isU_not {s:ByteArray} (h:∀ u ∈ tab,u.nm ≠ s):isU s=false∧atU s=noU:=by
 constructor
 · unfold isU; rw [List.any_eq_false]; intro u hu; simp [h u hu]
 · unfold atU;rw [List.find?_eq_none.2 (fun u hu=>by simp [h u hu])];rfl
theorem atU_first {s:ByteArray} {pre rest:List U} {u:U} (h:tab=pre ++ u :: rest) (hp:∀ x ∈ pre,x.nm ≠ s) (e:u.nm=s):isU s=true∧atU s=u:=by
 refine ⟨isU_of (u:=u) (by rw [h]; simp) e,?_⟩;unfold atU;rw [h,List.find?_append,List.find?_eq_none.2 (fun x hx=>by simp [hp x hx])];simp [e]
def bigA:Array Value:=(tab.flatMap (fun u=>[.string u.nm,.int .i64 u.m,.int .i64 u.l,.int .i64 u.t,.int .i64 u.k,.int .i64 u.fn,.int .i64 u.fd,.int .i64 u.on,.int .i64 u.od,.int .i64 u.code])).toArray
theorem index_big (w:World):∀ (k:Nat) (h:k < tab.length),(Instr.index 239 (.agg bigA) (.int .i64 (k:Int))).run Tryz.prog w=.ok (encU tab[k]) w
 | 0,_=>by kernel_rfl
 | 1,_=>by kernel_rfl
 | 2,_=>by kernel_rfl
 | 3,_=>by kernel_rfl
 | 4,_=>by kernel_rfl
 | 5,_=>by kernel_rfl
 | 6,_=>by kernel_rfl
 | 7,_=>by kernel_rfl
 | 8,_=>by kernel_rfl
 | 9,_=>by kernel_rfl
 | 10,_=>by kernel_rfl
 | 11,_=>by kernel_rfl
 | 12,_=>by kernel_rfl
 | 13,_=>by kernel_rfl
 | 14,_=>by kernel_rfl
 | 15,_=>by kernel_rfl
 | 16,_=>by kernel_rfl
 | 17,_=>by kernel_rfl
 | 18,_=>by kernel_rfl
 | 19,_=>by kernel_rfl
 | 20,_=>by kernel_rfl
 | 21,_=>by kernel_rfl
 | 22,_=>by kernel_rfl
 | 23,_=>by kernel_rfl
 | 24,_=>by kernel_rfl
 | k + 25,h=>by exfalso; have:=tab_len; omega
end Go.Proofs.YthabffjgdhfbmaaGreatDoor
