/-
  Texts that belong together, one behind the other: DsParse, SnOp, ShTx, ShLn, ShTk, DsSame0, ShLsK, ShRd0, ShHd, ShAlM. Conditions: as each says.
-/
import Derived.Below
import Derived.BigQuiet
import Derived.BigRegion
import Derived.ChangeOld
import Derived.Deep.CutRange
import Derived.Deep.QuietTactic
import Derived.Deep.RegionHeld3
import Derived.Deep.RegionWith
import Derived.Deep.SlicePairs
import Derived.Deep.Strs
import Derived.Handy
import Derived.Laws.BitsAllLaws
import Derived.Laws.OwnMore
import Derived.Laws.Shifts
import Derived.Laws.Tables
import Derived.Lib.QuietBelow
import Derived.Lib.QuietBelowIn
import Derived.Maps.AppendAt
import Derived.OpenShut
import Derived.OwnWalk
import Derived.ProofKit
import Derived.RangeFuncBox
import Derived.RangeFuncCalls
import Derived.ShutString
import Derived.Sort.BigQuietIn
import Derived.Test.YthabffjgdhfbmaaGreatDoorProg
import Derived.WalkKit
import Derived.WalkLawsBesides
import Derived.WalkSpells
import Derived.Test.YthabffjgdhfbmaaGreatDoorJb1
import Derived.Test.YthabffjgdhfbmaaGreatDoorJb2
import Derived.Test.YthabffjgdhfbmaaGreatDoorJb3
import Derived.Test.YthabffjgdhfbmaaGreatDoorJb4
import Derived.Test.YthabffjgdhfbmaaGreatDoorJb5
import Derived.Test.YthabffjgdhfbmaaGreatDoorJb6
import Derived.Test.YthabffjgdhfbmaaGreatDoorJb7
import Derived.Test.YthabffjgdhfbmaaGreatDoorJb8
import Derived.Test.YthabffjgdhfbmaaGreatDoorJb9
import Derived.Test.YthabffjgdhfbmaaGreatDoorJb10
import Derived.Test.YthabffjgdhfbmaaGreatDoorJb11
import Derived.Test.YthabffjgdhfbmaaGreatDoorJb12
import Derived.Test.YthabffjgdhfbmaaGreatDoorJb13
import Derived.Test.YthabffjgdhfbmaaGreatDoorJb14
import Derived.Test.YthabffjgdhfbmaaGreatDoorJb15
set_option maxRecDepth 100000
set_option maxHeartbeats 32000000
set_option linter.unusedVariables false
namespace Go.Proofs.YthabffjgdhfbmaaGreatDoor
open Go.RowKit
def parseM (l:List UInt8):Dv × Int × Nat:=if lexErr l=0 then readM (lrOf (lexRows l)) else (dv0,(lexLine l:Int),lexErr l)
theorem RowsAtC.rowsC {x:World} {v:Value} {rs:List Ln} (h:RowsAtC x v rs):RowsC x.heap.size x v (lrOf rs):=by
 have hl:(lrOf rs).length=rs.length:=by unfold lrOf; simp
 rcases h with ⟨h1,h2⟩ | ⟨g,o,cap,h1,h2,h3⟩
 · exact .inl ⟨h1,by rw [h2]; rfl⟩
 · refine .inr ⟨g,o,cap,by rw [hl]; exact h1,fun j hj=>?_,h3⟩;have hj':j < rs.length:=by omega
   have e:(lrOf rs)[j]=((rs[j].1:Int),rs[j].2):=by
    have k:(lrOf rs)[j]?=some ((rs[j].1:Int),rs[j].2):=by unfold lrOf; rw [List.getElem?_map,List.getElem?_eq_getElem hj']; rfl
    rw [List.getElem?_eq_getElem hj] at k;exact Option.some.inj k
   rw [e];obtain ⟨q1,u,q2,q3,q4⟩:=h2 j hj';refine ⟨q1,u,q2,?_⟩;rcases q3 with k | ⟨g',o',cap',k1,k2,k3⟩
   · exact .inl ⟨none,0,k⟩
   · exact .inr ⟨g',o',cap',k1,q4 _ _ _ k1,k2,k3⟩
def RdC (rs:List Lr):Prop:=∀ x v,RowsC x.heap.size x v rs→Calls Tryz.prog 40 #[v] x (ReadQ x (readM rs))
theorem flush_wd {M:Nat} {ws:List Wd} {w:Wd} (h:∀ z ∈ ws,z.length≤M) (hw:w.length≤M):∀ z ∈ flushW ws w,z.length≤M:=by
 intro z hz;unfold flushW at hz
 split at hz
 · exact h z hz
 · rcases List.mem_append.1 hz with hz | hz
   · exact h z hz
   · have:z=w:=by simpa using hz
     rw [this]; exact hw
theorem close_wd {M l:Nat} {ws:List Wd} (h:∀ z ∈ ws,z.length≤M):∀ r ∈ closeL l ws,∀ z ∈ r.2,z.length≤M:=by
 intro r hr z hz;unfold closeL at hr
 split at hr
 · have:r=(l,ws):=by simpa using hr
   rw [this] at hz; exact h z hz
 · cases hr
theorem scan_wd (s:List UInt8):∀ (l:Nat) (ws:List Wd) (w:Wd) (R:List Ln) (M:Nat),scanL l ws w s=.ok R→(∀ z ∈ ws,z.length≤M)→w.length + s.length≤M→∀ r ∈ R,∀ z ∈ r.2,z.length≤M:=by
 induction s with
 | nil=>
  intro l ws w R M h hws hw;unfold scanL at h
  cases h
  exact close_wd (flush_wd hws (by simpa using hw))
 | cons c s ih=>
  intro l ws w R M h hws hw;rw [List.length_cons] at hw;unfold scanL at h
  by_cases h10:c=10
  · rw [if_pos h10] at h
    cases hs:scanL (l + 1) [] [] s with
    | error n=>rw [hs] at h; cases h
    | ok t=>
     rw [hs] at h
     cases h
     intro r hr;rcases List.mem_append.1 hr with hr | hr
     · exact close_wd (flush_wd hws (by omega)) r hr
     · exact ih _ _ _ _ M hs (fun z hz=>by cases hz) (by simp; omega) r hr
  rw [if_neg h10] at h
  by_cases h32:c=32
  · rw [if_pos h32] at h;exact ih _ _ _ _ M h (flush_wd hws (by omega)) (by simp; omega)
  rw [if_neg h32] at h
  split at h
  · exact ih _ _ _ _ M h hws (by simp; omega)
  · cases h
theorem lines_bd (l:List UInt8):((lrOf (lexRows l)).length:Int)≤4500∧(∀ r ∈ lrOf (lexRows l),(r.2.length:Int)≤4500)∧∀ r ∈ lrOf (lexRows l),∀ z ∈ r.2,(z.length:Int)≤5000:=by
 have h:=lex_len l;have hl:(lrOf (lexRows l)).length=(lexRows l).length:=by unfold lrOf; simp
 refine ⟨by omega,fun r hr=>?_,fun r hr z hz=>?_⟩
 · obtain ⟨q,hq,rfl⟩:=List.mem_map.1 hr;have:=h.2 q hq;show (q.2.length:Int)≤4500;omega
 · obtain ⟨q,hq,rfl⟩:=List.mem_map.1 hr;have hz:z ∈ q.2:=hz;have k:z.length≤4000:=by
    unfold lexRows at hq
    split at hq
    · rename_i hs
      cases hc:scanL 1 [] [] l with
      | error n=>rw [hc] at hq; cases hq
      | ok R=>
       rw [hc] at hq;exact scan_wd l _ _ _ R 4000 hc (fun z hz=>by cases hz) (by simp; omega) q hq z hz
    · cases hq
   omega
theorem FldsAt.form {y:World} {v:Value} {fs:List Fd} (h:FldsAt y v fs):∃ p n c,v=.slice p n c:=by
 rcases h with ⟨rfl,_⟩ | ⟨g,o,cap,rfl,_⟩
 · exact ⟨none,0,0,rfl⟩
 · exact ⟨_,_,_,rfl⟩
theorem BytesAt.form' {y:World} {v:Value} {bs:List Nat} (h:BytesAt y v bs):∃ p n c,v=.slice p n c:=by
 rcases h with ⟨rfl,_⟩ | ⟨g,o,cap,rfl,_⟩
 · exact ⟨none,0,0,rfl⟩
 · exact ⟨_,_,_,rfl⟩
theorem FldsAt.on' {x y:World} {v:Value} {fs:List Fd} (h:FldsAt x v fs) (hk:∀ g,v.ownBlock=some g→y.heap[g]?=x.heap[g]?):FldsAt y v fs:=by
 rcases h with h | ⟨g,o,cap,rfl,h0,h2,h3⟩
 · exact .inl h
 · have k:=hk g rfl;refine .inr ⟨g,o,cap,rfl,h0,fun j hj i u hu=>(World.cell?_of_block (a:=⟨g,o + 9 * j + i,none⟩) k).trans (h2 j hj i u hu),?_⟩;rw [Array.getElem?_eq_getElem h3] at k;exact (Array.getElem?_eq_some_iff.1 k).1
theorem BytesAt.on' {x y:World} {v:Value} {bs:List Nat} (h:BytesAt x v bs) (hk:∀ g,v.ownBlock=some g→y.heap[g]?=x.heap[g]?):BytesAt y v bs:=by
 rcases h with h | ⟨g,o,cap,rfl,h2,h3⟩
 · exact .inl h
 · have k:=hk g rfl;refine .inr ⟨g,o,cap,rfl,fun j hj=>(World.cell?_of_block (a:=⟨g,o + j,none⟩) k).trans (h2 j hj),?_⟩;rw [Array.getElem?_eq_getElem h3] at k;exact (Array.getElem?_eq_some_iff.1 k).1
theorem parse_any (s:ByteArray) (w:World) (T7:Tab7 w):Calls Tryz.prog 28 #[.string s] w (ReadQ w (parseM s.data.toList)):=by
 have B0:Hid (Below w.heap.size w (w.alloc (.cells dz 33))):=(Below.refl _ _).alloc (Nat.le_refl _) _;have R0:Hid ((w.alloc (.cells dz 33)).heap[w.heap.size]?=some (.cells dz 33 (0,0))):=World.alloc_heap_new w _;have hR:Hid (Calls Tryz.prog 38 #[.string s] (w.alloc (.cells dz 33)) fun e w'=>∃ v,e=.returned (.tuple #[v,.int .i64 ((lexLine s.data.toList:Nat):Int),.int .i64 ((lexErr s.data.toList:Nat):Int)])∧RowsAtC w' v (lexRows s.data.toList)∧Below (w.alloc (.cells dz 33)).heap.size (w.alloc (.cells dz 33)) w'):=HRC s _ (T7.below B0.out);clear T7
 by_cases he:lexErr s.data.toList=0
 · have eT:parseM s.data.toList=readM (lrOf (lexRows s.data.toList)):=by unfold parseM; rw [if_pos he]
   rw [eT];rw [he] at hR;have bd:=lines_bd s.data.toList;generalize lexRows s.data.toList=rs at *;have rd:Hid (RdC (lrOf rs)):=fun x v h=>dread_any (lrOf rs) v x h bd.1 bd.2.1 bd.2.2
   clear he eT bd;generalize ((lexLine s.data.toList:Nat):Int)=L at *
   go_enter Tryz.func28,Tryz.ntmps28
   go_upto_region 1 with fail
   change Code.wp Tryz.prog _ _ _ (w.alloc (.cells dz 33));generalize w.alloc (.cells dz 33)=w0 at *
   go_wp2_with fail
   refine hR.out.mono ?_;rintro e w1 ⟨v,rfl,hv,hb1⟩;have rc:=rd.out w1 v hv.rowsC;have R1:Hid (w1.heap[w.heap.size]?=some (.cells dz 33 (0,0))):=(hb1.block _ (Array.getElem?_eq_some_iff.1 R0.out).1).trans R0.out;have B1:Hid (Below w.heap.size w w1):=B0.out.trans (hb1.mono B0.out.size);generalize readM (lrOf rs)=T at *;replace rc:Hid (Calls Tryz.prog 40 #[v] w1 (ReadQ w1 T)):=rc;clear hv hb1 hR rd R0 B0
   go_wp2_with fail
   refine rc.out.mono ?_;rintro e y ⟨fv,qv,rfl,hf,hq,hb,nf0,nq0⟩;obtain ⟨pf,nf,cf,rfl⟩:=hf.form;obtain ⟨pq,mq,cq,rfl⟩:=hq.form';have R2:y.heap[w.heap.size]?=some (.cells dz 33 (0,0)):=(hb.block _ (Array.getElem?_eq_some_iff.1 R1.out).1).trans R1.out;have B2:Hid (Below w.heap.size w y):=B1.out.trans (hb.mono B1.out.size);have Rl:w.heap.size < w1.heap.size:=(Array.getElem?_eq_some_iff.1 R1.out).1;replace hf:Hid (FldsAt y (.slice pf nf cf) T.1.fs):=hf;replace hq:Hid (BytesAt y (.slice pq mq cq) T.1.rq):=hq;have fN:Hid (∀ g,(Value.slice pf nf cf).ownBlock=some g→w.heap.size < g):=fun g h=>by have:=nf0 g h; omega
   have qN:Hid (∀ g,(Value.slice pq mq cq).ownBlock=some g→w.heap.size < g):=fun g h=>by have:=nq0 g h; omega
   obtain ⟨c0,f0,c1,f1,c2,f2,c3,f3,c4,f4,c5,f5,c6,f6,c7,f7,c8,f8,c9,f9,c10,f10,c11,f11⟩:=rd12 R2;replace R2:Hid (y.heap[w.heap.size]?=some (.cells dz 33 (0,0))):=R2;clear nf0 nq0 hb rc R1 B1 Rl;obtain ⟨d,ln,en⟩:=T;simp only at *;go_wp2;change bodyPost _ _ _ _ _ (putD y w.heap.size d (.slice pf nf cf) (.slice pq mq cq));have pa:=putD_at (y:=y) R2.out d (.slice pf nf cf) (.slice pq mq cq);have pb:=putD_below B2.out (Nat.le_refl w.heap.size) d (.slice pf nf cf) (.slice pq mq cq);have off:∀ g,w.heap.size < g→(putD y w.heap.size d (.slice pf nf cf) (.slice pq mq cq)).heap[g]?=y.heap[g]?:=fun g hg=>put12_off (by omega) _ _ _ _ _ _ _ _ _ _ _ _
   generalize putD y w.heap.size d (.slice pf nf cf) (.slice pq mq cq)=yy at *;refine bodyPost_ret (res_dev3 Tryz.results28 rfl rfl rfl pa) rfl ?_;exact ⟨.slice pf nf cf,.slice pq mq cq,rfl,hf.out.on' fun g hg=>off g (fN.out g hg),hq.out.on' fun g hg=>off g (qN.out g hg),pb,fun g h=>Nat.le_of_lt (fN.out g h),fun g h=>Nat.le_of_lt (qN.out g h)⟩
 · have eT:parseM s.data.toList=(dv0,(lexLine s.data.toList:Int),lexErr s.data.toList):=by unfold parseM; rw [if_neg he]
   rw [eT];have hne:(((lexErr s.data.toList:Nat):Int) != 0)=true:=by rw [bne_iff_ne]; omega
   generalize lexRows s.data.toList=rs at *;generalize lexErr s.data.toList=E at *;generalize lexLine s.data.toList=L at *;clear he eT
   go_enter Tryz.func28,Tryz.ntmps28
   go_upto_region 1 with fail
   change Code.wp Tryz.prog _ _ _ (w.alloc (.cells dz 33));generalize w.alloc (.cells dz 33)=w0 at *
   go_wp2_with fail
   refine hR.out.mono ?_;rintro e w1 ⟨v,rfl,hv,hb1⟩;have R1:w1.heap[w.heap.size]?=some (.cells dz 33 (0,0)):=(hb1.block _ (Array.getElem?_eq_some_iff.1 R0.out).1).trans R0.out;have B1:Hid (Below w.heap.size w w1):=B0.out.trans (hb1.mono B0.out.size);obtain ⟨c0,f0,c1,f1,c2,f2,c3,f3,c4,f4,c5,f5,c6,f6,c7,f7,c8,f8,c9,f9,c10,f10,c11,f11⟩:=rd12 R1;replace R1:Hid (w1.heap[w.heap.size]?=some (.cells dz 33 (0,0))):=R1;clear hv hb1 hR R0 B0
   go_wp2_with fail
   change bodyPost _ _ _ _ _ (put12 w1 w.heap.size (.string ⟨#[]⟩) (.int .i64 0) (.int .i64 0) (.int .i64 0) (.int .i64 0) (.string ⟨#[]⟩) (.slice none 0 0) (.slice none 0 0) (.int .i64 0) (.int .i64 0) (.int .i64 0) (.int .i64 0));have pa:=put12_at (y:=w1) R1.out (.string ⟨#[]⟩) (.int .i64 0) (.int .i64 0) (.int .i64 0) (.int .i64 0) (.string ⟨#[]⟩) (.slice none 0 0) (.slice none 0 0) (.int .i64 0) (.int .i64 0) (.int .i64 0) (.int .i64 0);have pb:=put12_below B1.out (Nat.le_refl w.heap.size) (.string ⟨#[]⟩) (.int .i64 0) (.int .i64 0) (.int .i64 0) (.int .i64 0) (.string ⟨#[]⟩) (.slice none 0 0) (.slice none 0 0) (.int .i64 0) (.int .i64 0) (.int .i64 0) (.int .i64 0);generalize put12 w1 w.heap.size (.string ⟨#[]⟩) (.int .i64 0) (.int .i64 0) (.int .i64 0) (.int .i64 0) (.string ⟨#[]⟩) (.slice none 0 0) (.slice none 0 0) (.int .i64 0) (.int .i64 0) (.int .i64 0) (.int .i64 0)=yy at *;refine bodyPost_ret (res_dev3 Tryz.results28 rfl rfl rfl pa) rfl ?_;exact ⟨nilS,nilS,rfl,.inl ⟨rfl,rfl⟩,.inl ⟨rfl,rfl⟩,pb,fun g h=>(by cases h),fun g h=>(by cases h)⟩
end Go.Proofs.YthabffjgdhfbmaaGreatDoor
namespace Go.Proofs.YthabffjgdhfbmaaGreatDoor
open Go.ChangeShapes Go.WideShapes Go.ChangeAt Go.RowKit
open Go.Deep (open_slice)
section
variable {H:Type} {enc:TypeId × Value→H} {w:World}
def BytesW (x:World) (v:Value) (bs:List Nat):Prop:=(∃ a c,v=.slice a 0 c∧bs=[]) ∨ ∃ g o cap,v=.slice (some ⟨g,o,none⟩) bs.length cap∧BytesIn x g o bs∧g < x.heap.size
theorem BytesW.form {x:World} {v:Value} {bs:List Nat} (h:BytesW x v bs):∃ p c,v=.slice p bs.length c:=by
 rcases h with ⟨a,c,h,rfl⟩ | ⟨g,o,cap,h,_⟩
 · exact ⟨_,_,h⟩
 · exact ⟨_,_,h⟩
theorem BytesW.at {x:World} {v:Value} {bs:List Nat} (h:BytesW x v bs) (hn:¬ bs=[]):BytesAt x v bs:=by
 rcases h with ⟨a,c,h,e⟩ | h
 · exact absurd e hn
 · exact .inr h
theorem BytesW.below {x y:World} {v:Value} {bs:List Nat} (h:BytesW x v bs) (k:Below x.heap.size x y):BytesW y v bs:=by
 rcases h with h | ⟨g,o,cap,h1,h2,h3⟩
 · exact .inl h
 · exact .inr ⟨g,o,cap,h1,fun j hj=>h2.at h3 k j hj,Nat.lt_of_lt_of_le h3 k.size⟩
end
end Go.Proofs.YthabffjgdhfbmaaGreatDoor
namespace Go.Proofs.YthabffjgdhfbmaaGreatDoor
open Go.RowKit
theorem DvJ.i {d:Dv} (h:DvJ d) (hl:d.fs.length≤8):DvI d:=
 ⟨by have:=h.nm; omega,fun f hf=>by have k:=h.fs f hf; exact ⟨by have:=k.nm; omega,k.pl,k.wd,k.sn,k.sd,k.on,k.od⟩,h.sz,by omega⟩
theorem DvI.snd {d:Dv} (h:DvI d) (hc:ckE d=0) (hq:AllBytes d.rq):Snd d:=⟨hc,fun f hf=>by have k:=h.fs f hf; exact ⟨k.pl,k.wd,k.sn,k.sd,k.on,k.od⟩,hq⟩
theorem bytes_form {x:World} {v:Value} {bs:List Nat} (h:BytesAt x v bs):∃ p c,v=.slice p bs.length c:=by
 rcases h with ⟨h1,h2⟩ | ⟨g,o,cap,h,_⟩
 · exact ⟨none,0,by rw [h1,h2]; rfl⟩
 · exact ⟨_,_,h⟩
def ShCkC (w:World) (d:Dv) (fv qv:Value) (T:Int):Prop:=∀ x,Below w.heap.size w x→Calls Tryz.prog 22 #[dvV d fv qv] x (QA x T)
theorem shCkC {d:Dv} {fv qv:Value} {w:World} (hi:DvI d) (hq:∃ p c,qv=.slice p d.rq.length c) (hf:FldsV w fv d.fs):ShCkC w d fv qv (ckE d):=fun x hx=>check_any d fv qv x hi hq (hf.below hx)
def WrnC (w:World) (d:Dv) (fv qv:Value):Prop:=∀ x,Below w.heap.size w x→Calls Tryz.prog 23 #[dvV d fv qv] x fun e y=>e=.returned (.string (txt (textD d)))∧Below x.heap.size x y
theorem shtext_any (d:Dv) (fv qv:Value) (w:World) (hi:DvI d) (hr:AllBytes d.rq) (hq:BytesW w qv d.rq) (hf:FldsV w fv d.fs) :
 Calls Tryz.prog 10 #[dvV d fv qv] w fun e y=>e=.returned (.tuple #[.string (txt (shT d)),.int .i64 (ckE d)])∧Below w.heap.size w y:=by
 have ck:Hid (ShCkC w d fv qv (ckE d)):=shCkC hi hq.form hf;have B0:Hid (Below w.heap.size w (w.alloc (.cells #[.string (txt d.nm),.int .i64 d.st,.int .i64 d.es,.int .i64 d.mx,.int .i64 d.sz,.string (txt d.sm),fv,qv,.int .i64 d.po,.int .i64 d.ti,.int .i64 d.re,.int .i64 d.ag] 33))):=(Below.refl _ _).alloc (Nat.le_refl _) _;have D0:Hid (DevB (w.alloc (.cells #[.string (txt d.nm),.int .i64 d.st,.int .i64 d.es,.int .i64 d.mx,.int .i64 d.sz,.string (txt d.sm),fv,qv,.int .i64 d.po,.int .i64 d.ti,.int .i64 d.re,.int .i64 d.ag] 33)) w.heap.size d fv qv):=DevB.new hf _
 by_cases h0:ckE d=0
 · have wr:Hid (WrnC w d fv qv):=fun x hx=>shwritten_any d fv qv x (hi.snd h0 hr).ok (hf.below hx) ((hq.at (fun e=>by have:=(hi.snd h0 hr).ok.rq.1; rw [e] at this; simp at this)).below hx)
   have eT:shT d=textD d:=by unfold shT; rw [if_pos h0]
   rw [eT,h0];rw [h0] at ck;clear hi hr hq hf h0 eT;replace wr:Hid (∀ x,Below w.heap.size w x→Calls Tryz.prog 23 #[dvV d fv qv] x fun e y=>e=.returned (.string (txt (textD d)))∧Below x.heap.size x y):=wr
   go_enter Tryz.func10,Tryz.ntmps10
   go_wp2_with fail
   refine (ck.out (w.alloc (.cells #[.string (txt d.nm),.int .i64 d.st,.int .i64 d.es,.int .i64 d.mx,.int .i64 d.sz,.string (txt d.sm),fv,qv,.int .i64 d.po,.int .i64 d.ti,.int .i64 d.re,.int .i64 d.ag] 33)) B0.out).mono ?_;rintro e y ⟨rfl,hb⟩;have B1:Hid (Below w.heap.size w y):=B0.out.trans (hb.mono B0.out.size);obtain ⟨c0,c1,c2,c3,c4,c5,c6,c7,c8,c9,c10,c11⟩:=(D0.out.below hb).cells;clear hb B0 D0 ck
   go_wp2_with fail
   refine (wr.out y B1.out).mono ?_;rintro e z ⟨rfl,hb⟩;have B2:Hid (Below w.heap.size w z):=B1.out.trans (hb.mono B1.out.size);clear hb B1 wr;go_wp2;go_returns;exact ⟨rfl,B2.out⟩
 · have eT:shT d=[]:=by unfold shT; rw [if_neg h0]
   rw [eT];have hne:((ckE d) == 0)=false:=beq_eq_false_iff_ne.2 h0;clear hi hr hq hf h0 eT;generalize ckE d=T at *
   go_enter Tryz.func10,Tryz.ntmps10
   go_wp2_with fail
   refine (ck.out (w.alloc (.cells #[.string (txt d.nm),.int .i64 d.st,.int .i64 d.es,.int .i64 d.mx,.int .i64 d.sz,.string (txt d.sm),fv,qv,.int .i64 d.po,.int .i64 d.ti,.int .i64 d.re,.int .i64 d.ag] 33)) B0.out).mono ?_;rintro e y ⟨rfl,hb⟩;have B1:Hid (Below w.heap.size w y):=B0.out.trans (hb.mono B0.out.size);clear hb B0 D0 ck;go_wp2;go_returns;exact ⟨rfl,B1.out⟩
theorem parse_j (l:List UInt8):DvJ (parseM l).1∧(parseM l).1.fs.length≤8:=by
 unfold parseM
 split
 · exact ⟨read_j _,read_fs _⟩
 · exact ⟨dv0_j,Nat.zero_le _⟩
theorem shread_any (s:ByteArray) (w:World) (T7:Tab7 w):Calls Tryz.prog 13 #[.string s] w (ReadQ w (chkM (parseM s.data.toList))):=by
 have B0:Hid (Below w.heap.size w (w.alloc (.cells dz 33))):=(Below.refl _ _).alloc (Nat.le_refl _) _;have R0:Hid ((w.alloc (.cells dz 33)).heap[w.heap.size]?=some (.cells dz 33 (0,0))):=World.alloc_heap_new w _;have pc:Hid (Calls Tryz.prog 28 #[.string s] (w.alloc (.cells dz 33)) (ReadQ (w.alloc (.cells dz 33)) (parseM s.data.toList))):=parse_any s _ (T7.below B0.out);have hj:=parse_j s.data.toList;clear T7;generalize parseM s.data.toList=T at *;obtain ⟨U,hU⟩:∃ U,chkM T=U:=⟨_,rfl⟩;rw [hU];replace hU:Hid (chkM T=U):=hU
 go_enter Tryz.func13,Tryz.ntmps13
 go_upto_region 1 with fail
 change Code.wp Tryz.prog _ _ _ (w.alloc (.cells dz 33));generalize w.alloc (.cells dz 33)=w0 at *
 go_wp2_with fail
 refine pc.out.mono ?_;rintro e y ⟨fv,qv,rfl,hf,hq,hb,nf0,nq0⟩;have ck:Hid (ShCkC y T.1 fv qv (ckE T.1)):=shCkC (hj.1.i hj.2) (bytes_form hq) hf.v;obtain ⟨pf,nf,cf,rfl⟩:=hf.form;obtain ⟨pq,mq,cq,rfl⟩:=hq.form';have R1:Hid (y.heap[w.heap.size]?=some (.cells dz 33 (0,0))):=(hb.block _ (Array.getElem?_eq_some_iff.1 R0.out).1).trans R0.out;have B1:Hid (Below w.heap.size w y):=B0.out.trans (hb.mono B0.out.size);have Rl:w.heap.size < w0.heap.size:=(Array.getElem?_eq_some_iff.1 R0.out).1;have fN:Hid (∀ g,(Value.slice pf nf cf).ownBlock=some g→w.heap.size < g):=fun g h=>by have:=nf0 g h; omega
 have qN:Hid (∀ g,(Value.slice pq mq cq).ownBlock=some g→w.heap.size < g):=fun g h=>by have:=nq0 g h; omega
 replace hf:Hid (FldsAt y (.slice pf nf cf) T.1.fs):=hf;replace hq:Hid (BytesAt y (.slice pq mq cq) T.1.rq):=hq;obtain ⟨d,ln,en⟩:=T;clear hb nf0 nq0 Rl R0 B0 pc hj;simp only at *;have YD:Hid ((y.alloc (.cells #[.string (txt d.nm),.int .i64 d.st,.int .i64 d.es,.int .i64 d.mx,.int .i64 d.sz,.string (txt d.sm),.slice pf nf cf,.slice pq mq cq,.int .i64 d.po,.int .i64 d.ti,.int .i64 d.re,.int .i64 d.ag] 33)).heap[y.heap.size]?=some (.cells #[.string (txt d.nm),.int .i64 d.st,.int .i64 d.es,.int .i64 d.mx,.int .i64 d.sz,.string (txt d.sm),.slice pf nf cf,.slice pq mq cq,.int .i64 d.po,.int .i64 d.ti,.int .i64 d.re,.int .i64 d.ag] 33 (0,0))):=World.alloc_heap_new y _;have YB:Hid (Below y.heap.size y (y.alloc (.cells #[.string (txt d.nm),.int .i64 d.st,.int .i64 d.es,.int .i64 d.mx,.int .i64 d.sz,.string (txt d.sm),.slice pf nf cf,.slice pq mq cq,.int .i64 d.po,.int .i64 d.ti,.int .i64 d.re,.int .i64 d.ag] 33))):=(Below.refl _ _).alloc (Nat.le_refl _) _
 by_cases he:en=0
 · subst he;have h1:chkM (d,ln,0)=if cN d=0 then (d,0,0) else (dv0,ln,cN d):=by unfold chkM; rw [if_pos rfl]
   have hU1:=hU.out;rw [h1] at hU1;clear hU
   by_cases hc:cN d=0
   · rw [if_pos hc] at hU1;subst hU1;rw [cN_0.1 hc] at ck;clear h1 hc
     go_wp2_with fail
     change Calls Tryz.prog _ _ (y.alloc (.cells #[.string (txt d.nm),.int .i64 d.st,.int .i64 d.es,.int .i64 d.mx,.int .i64 d.sz,.string (txt d.sm),.slice pf nf cf,.slice pq mq cq,.int .i64 d.po,.int .i64 d.ti,.int .i64 d.re,.int .i64 d.ag] 33)) _;generalize y.alloc (.cells #[.string (txt d.nm),.int .i64 d.st,.int .i64 d.es,.int .i64 d.mx,.int .i64 d.sz,.string (txt d.sm),.slice pf nf cf,.slice pq mq cq,.int .i64 d.po,.int .i64 d.ti,.int .i64 d.re,.int .i64 d.ag] 33)=y1 at *;refine (ck.out y1 YB.out).mono ?_;rintro e z ⟨rfl,hb⟩;have b2:Below y.heap.size y z:=YB.out.trans (hb.mono YB.out.size);have RZ:Hid (z.heap[w.heap.size]?=some (.cells dz 33 (0,0))):=(b2.block _ (Array.getElem?_eq_some_iff.1 R1.out).1).trans R1.out;have BZ:Hid (Below w.heap.size w z):=B1.out.trans (b2.mono B1.out.size);have DZ:=(hb.block _ (Array.getElem?_eq_some_iff.1 YD.out).1).trans YD.out;have fz:Hid (FldsAt z (.slice pf nf cf) d.fs):=hf.out.below b2;have qz:Hid (BytesAt z (.slice pq mq cq) d.rq):=hq.out.below b2;obtain ⟨a0,x0,a1,x1,a2,x2,a3,x3,a4,x4,a5,x5,a6,x6,a7,x7,a8,x8,a9,x9,a10,x10,a11,x11⟩:=rd12 DZ;obtain ⟨c0,f0,c1,f1,c2,f2,c3,f3,c4,f4,c5,f5,c6,f6,c7,f7,c8,f8,c9,f9,c10,f10,c11,f11⟩:=rd12 RZ.out;clear b2 hb ck R1 B1 YD YB DZ hf hq x0 x1 x2 x3 x4 x5 x6 x7 x8 x9 x10 x11;go_wp2;change bodyPost _ _ _ _ _ (putD z w.heap.size d (.slice pf nf cf) (.slice pq mq cq));have pa:=putD_at (y:=z) RZ.out d (.slice pf nf cf) (.slice pq mq cq);have pb:=putD_below BZ.out (Nat.le_refl w.heap.size) d (.slice pf nf cf) (.slice pq mq cq);have off:∀ g,w.heap.size < g→(putD z w.heap.size d (.slice pf nf cf) (.slice pq mq cq)).heap[g]?=z.heap[g]?:=fun g hg=>put12_off (by omega) _ _ _ _ _ _ _ _ _ _ _ _
     generalize putD z w.heap.size d (.slice pf nf cf) (.slice pq mq cq)=yy at *;refine bodyPost_ret (res_dev3 Tryz.results13 rfl rfl rfl pa) rfl ?_;exact ⟨.slice pf nf cf,.slice pq mq cq,rfl,fz.out.on' fun g hg=>off g (fN.out g hg),qz.out.on' fun g hg=>off g (qN.out g hg),pb,fun g h=>Nat.le_of_lt (fN.out g h),fun g h=>Nat.le_of_lt (qN.out g h)⟩
   · rw [if_neg hc] at hU1;subst hU1;have hT:=ck_nat d;have hne:(((cN d:Nat):Int) == 0)=false:=beq_eq_false_iff_ne.2 (by omega);have ck':Hid (ShCkC y d (.slice pf nf cf) (.slice pq mq cq) ((cN d:Nat):Int)):=by unfold cN; rw [hT]; exact ck.out
     clear h1 hc hT ck;generalize cN d=E at *
     go_wp2_with fail
     change Calls Tryz.prog _ _ (y.alloc (.cells #[.string (txt d.nm),.int .i64 d.st,.int .i64 d.es,.int .i64 d.mx,.int .i64 d.sz,.string (txt d.sm),.slice pf nf cf,.slice pq mq cq,.int .i64 d.po,.int .i64 d.ti,.int .i64 d.re,.int .i64 d.ag] 33)) _;generalize y.alloc (.cells #[.string (txt d.nm),.int .i64 d.st,.int .i64 d.es,.int .i64 d.mx,.int .i64 d.sz,.string (txt d.sm),.slice pf nf cf,.slice pq mq cq,.int .i64 d.po,.int .i64 d.ti,.int .i64 d.re,.int .i64 d.ag] 33)=y1 at *;refine (ck'.out y1 YB.out).mono ?_;rintro e z ⟨rfl,hb⟩;have b2:Below y.heap.size y z:=YB.out.trans (hb.mono YB.out.size);have RZ:Hid (z.heap[w.heap.size]?=some (.cells dz 33 (0,0))):=(b2.block _ (Array.getElem?_eq_some_iff.1 R1.out).1).trans R1.out;have BZ:Hid (Below w.heap.size w z):=B1.out.trans (b2.mono B1.out.size);obtain ⟨c0,f0,c1,f1,c2,f2,c3,f3,c4,f4,c5,f5,c6,f6,c7,f7,c8,f8,c9,f9,c10,f10,c11,f11⟩:=rd12 RZ.out;clear b2 hb ck' R1 B1 YD YB hf hq fN qN;go_wp2;change bodyPost _ _ _ _ _ (put12 z w.heap.size (.string ⟨#[]⟩) (.int .i64 0) (.int .i64 0) (.int .i64 0) (.int .i64 0) (.string ⟨#[]⟩) (.slice none 0 0) (.slice none 0 0) (.int .i64 0) (.int .i64 0) (.int .i64 0) (.int .i64 0));have pa:=put12_at (y:=z) RZ.out (.string ⟨#[]⟩) (.int .i64 0) (.int .i64 0) (.int .i64 0) (.int .i64 0) (.string ⟨#[]⟩) (.slice none 0 0) (.slice none 0 0) (.int .i64 0) (.int .i64 0) (.int .i64 0) (.int .i64 0);have pb:=put12_below BZ.out (Nat.le_refl w.heap.size) (.string ⟨#[]⟩) (.int .i64 0) (.int .i64 0) (.int .i64 0) (.int .i64 0) (.string ⟨#[]⟩) (.slice none 0 0) (.slice none 0 0) (.int .i64 0) (.int .i64 0) (.int .i64 0) (.int .i64 0);generalize put12 z w.heap.size (.string ⟨#[]⟩) (.int .i64 0) (.int .i64 0) (.int .i64 0) (.int .i64 0) (.string ⟨#[]⟩) (.slice none 0 0) (.slice none 0 0) (.int .i64 0) (.int .i64 0) (.int .i64 0) (.int .i64 0)=yy at *;refine bodyPost_ret (res_dev3 Tryz.results13 rfl rfl rfl pa) rfl ?_;exact ⟨nilS,nilS,rfl,.inl ⟨rfl,rfl⟩,.inl ⟨rfl,rfl⟩,pb,fun g h=>(by cases h),fun g h=>(by cases h)⟩
 · have h1:chkM (d,ln,en)=(dv0,ln,en):=by unfold chkM; rw [if_neg he]
   have hU1:=hU.out;rw [h1] at hU1;subst hU1;have hne:(((en:Nat):Int) == 0)=false:=beq_eq_false_iff_ne.2 (by omega);clear h1 he ck hU;have RZ:Hid ((y.alloc (.cells #[.string (txt d.nm),.int .i64 d.st,.int .i64 d.es,.int .i64 d.mx,.int .i64 d.sz,.string (txt d.sm),.slice pf nf cf,.slice pq mq cq,.int .i64 d.po,.int .i64 d.ti,.int .i64 d.re,.int .i64 d.ag] 33)).heap[w.heap.size]?=some (.cells dz 33 (0,0))):=(YB.out.block _ (Array.getElem?_eq_some_iff.1 R1.out).1).trans R1.out;have BZ:Hid (Below w.heap.size w (y.alloc (.cells #[.string (txt d.nm),.int .i64 d.st,.int .i64 d.es,.int .i64 d.mx,.int .i64 d.sz,.string (txt d.sm),.slice pf nf cf,.slice pq mq cq,.int .i64 d.po,.int .i64 d.ti,.int .i64 d.re,.int .i64 d.ag] 33))):=B1.out.trans (YB.out.mono B1.out.size)
   go_upto_region 2 with fail
   change Code.wp Tryz.prog _ _ _ (y.alloc (.cells #[.string (txt d.nm),.int .i64 d.st,.int .i64 d.es,.int .i64 d.mx,.int .i64 d.sz,.string (txt d.sm),.slice pf nf cf,.slice pq mq cq,.int .i64 d.po,.int .i64 d.ti,.int .i64 d.re,.int .i64 d.ag] 33));generalize y.alloc (.cells #[.string (txt d.nm),.int .i64 d.st,.int .i64 d.es,.int .i64 d.mx,.int .i64 d.sz,.string (txt d.sm),.slice pf nf cf,.slice pq mq cq,.int .i64 d.po,.int .i64 d.ti,.int .i64 d.re,.int .i64 d.ag] 33)=z at *;obtain ⟨c0,f0,c1,f1,c2,f2,c3,f3,c4,f4,c5,f5,c6,f6,c7,f7,c8,f8,c9,f9,c10,f10,c11,f11⟩:=rd12 RZ.out;clear R1 B1 YD YB hf hq fN qN;go_wp2;change bodyPost _ _ _ _ _ (put12 z w.heap.size (.string ⟨#[]⟩) (.int .i64 0) (.int .i64 0) (.int .i64 0) (.int .i64 0) (.string ⟨#[]⟩) (.slice none 0 0) (.slice none 0 0) (.int .i64 0) (.int .i64 0) (.int .i64 0) (.int .i64 0));have pa:=put12_at (y:=z) RZ.out (.string ⟨#[]⟩) (.int .i64 0) (.int .i64 0) (.int .i64 0) (.int .i64 0) (.string ⟨#[]⟩) (.slice none 0 0) (.slice none 0 0) (.int .i64 0) (.int .i64 0) (.int .i64 0) (.int .i64 0);have pb:=put12_below BZ.out (Nat.le_refl w.heap.size) (.string ⟨#[]⟩) (.int .i64 0) (.int .i64 0) (.int .i64 0) (.int .i64 0) (.string ⟨#[]⟩) (.slice none 0 0) (.slice none 0 0) (.int .i64 0) (.int .i64 0) (.int .i64 0) (.int .i64 0);generalize put12 z w.heap.size (.string ⟨#[]⟩) (.int .i64 0) (.int .i64 0) (.int .i64 0) (.int .i64 0) (.string ⟨#[]⟩) (.slice none 0 0) (.slice none 0 0) (.int .i64 0) (.int .i64 0) (.int .i64 0) (.int .i64 0)=yy at *;refine bodyPost_ret (res_dev3 Tryz.results13 rfl rfl rfl pa) rfl ?_;exact ⟨nilS,nilS,rfl,.inl ⟨rfl,rfl⟩,.inl ⟨rfl,rfl⟩,pb,fun g h=>(by cases h),fun g h=>(by cases h)⟩
def hdL (r:Lr):Bool:=
 match r.2 with
 | []=>false
 | f :: _=>decide (f=kDev)
def blkF:List Lr→List (List Lr)
 | []=>[]
 | r :: rs=>match blkF rs with
  | []=>[ [r] ]
  | b :: bs=>match b with
   | []=>[r] :: bs
   | q :: _=>if hdL q=true then [r] :: b :: bs else (r :: b) :: bs
theorem blkF_uniq:∀ (bs:List (List Lr)),(∀ b ∈ bs,b ≠ [])→(∀ b ∈ bs,∀ r ∈ b.tail,hdL r=false)→(∀ b ∈ bs.tail,∀ r ∈ b.head?,hdL r=true)→blkF bs.flatten=bs:=by
 intro bs
 induction bs with
 | nil=>intro _ _ _; rfl
 | cons b bs ih=>
  intro hne htl hhd;have ihb:=ih (fun c hc=>hne c (by simp [hc])) (fun c hc=>htl c (by simp [hc])) (fun c hc=>hhd c (by
   cases bs with
   | nil=>cases hc
   | cons d bs=>exact List.mem_cons_of_mem _ hc))
  have key:∀ (t:List Lr) (r:Lr),(∀ q ∈ t,hdL q=false)→blkF ((r :: t) ++ bs.flatten)=(r :: t) :: bs:=by
   intro t
   induction t with
   | nil=>
    intro r _;show blkF (r :: bs.flatten)=_;unfold blkF;rw [ihb]
    cases bs with
    | nil=>rfl
    | cons c bs=>
     cases c with
     | nil=>exact absurd rfl (hne [] (by simp))
     | cons q c=>
      have hq:hdL q=true:=hhd (q :: c) (by simp) q (by simp);simp only;rw [if_pos hq]
   | cons q t iht=>
    intro r hr;have k:=iht q (fun x hx=>hr x (by simp [hx]));show blkF (r :: ((q :: t) ++ bs.flatten))=_;unfold blkF;rw [k];simp only;rw [if_neg (by rw [hr q (by simp)]; simp)]
  cases b with
  | nil=>exact absurd rfl (hne [] (by simp))
  | cons r t=>
   rw [List.flatten_cons];exact key t r fun q hq=>htl (r :: t) (by simp) q hq
def blkE (ns:List Wd) (b:List Lr):Nat:=if (readM b).2.2=0 then (if cN (readM b).1=0 then (if (readM b).1.nm ∈ ns then 8 else 0) else cN (readM b).1) else (readM b).2.2
def blkP (b:List Lr):Int:=if (readM b).2.1=0 then (b.headD (0,[])).1 else (readM b).2.1
def namesD (ds:List Dv):List Wd:=ds.map fun d=>d.nm
def devsM (ds:List Dv):List (List Lr)→List Dv × Int × Nat
 | []=>(ds,0,0)
 | b :: bs=>if blkE (namesD ds) b=0 then devsM (ds ++ [(readM b).1]) bs else ([],blkP b,blkE (namesD ds) b)
def linesM (rs:List Lr):List Dv × Int × Nat:=devsM [] (blkF rs)
theorem devs_ok {ds:List Dv} {b:List Lr} {bs:List (List Lr)} (h:blkE (namesD ds) b=0):devsM ds (b :: bs)=devsM (ds ++ [(readM b).1]) bs:=by rw [devsM,if_pos h]
theorem devs_bad {ds:List Dv} {b:List Lr} {bs:List (List Lr)} (h:¬ blkE (namesD ds) b=0):devsM ds (b :: bs)=([],blkP b,blkE (namesD ds) b):=by rw [devsM,if_neg h]
structure AllOk (ds:List Dv):Prop where
 ok:∀ d ∈ ds,ckE d=0∧DvJ d∧d.fs.length≤8
 nd:(namesD ds).Nodup
theorem AllOk.nil:AllOk []:=⟨fun d h=>(by cases h),List.nodup_nil⟩
theorem blkE_0 {ns:List Wd} {b:List Lr} (h:blkE ns b=0):(readM b).2.2=0∧ckE (readM b).1=0∧(readM b).1.nm ∉ ns:=by
 unfold blkE at h
 split at h
 · rename_i h1
   split at h
   · rename_i h2
     split at h
     · cases h
     · exact ⟨h1,cN_0.1 h2,by assumption⟩
   · exact absurd h (by assumption)
 · exact absurd h (by assumption)
theorem AllOk.next {ds:List Dv} {b:List Lr} (h:AllOk ds) (hb:blkE (namesD ds) b=0):AllOk (ds ++ [(readM b).1]):=by
 obtain ⟨_,h2,h3⟩:=blkE_0 hb;refine ⟨fun d hd=>?_,?_⟩
 · rcases List.mem_append.1 hd with hd | hd
   · exact h.ok d hd
   · rw [List.mem_singleton.1 hd]; exact ⟨h2,read_j b,read_fs b⟩
 · unfold namesD at *;rw [List.map_append,List.nodup_append];refine ⟨h.nd,by simp,fun a ha c hc=>?_⟩;have:c=(readM b).1.nm:=by simpa using hc
   rw [this];intro e;exact h3 (e ▸ ha)
theorem devs_all (bs:List (List Lr)):∀ (ds:List Dv),AllOk ds→(devsM ds bs).2.2=0→AllOk (devsM ds bs).1∧(devsM ds bs).1.length=ds.length + bs.length∧(devsM ds bs).2.1=0:=by
 induction bs with
 | nil=>intro ds h _; exact ⟨h,by simp [devsM],rfl⟩
 | cons b bs ih=>
  intro ds h he
  by_cases hb:blkE (namesD ds) b=0
  · rw [devs_ok hb] at he ⊢;obtain ⟨k1,k2,k3⟩:=ih _ (h.next hb) he;refine ⟨k1,?_,k3⟩;rw [k2];simp only [List.length_append,List.length_cons,List.length_nil];omega
  · rw [devs_bad hb] at he;exact absurd he hb
theorem blkP_in {b:List Lr} (hb:b ≠ []) {ns:List Wd} (he:¬ blkE ns b=0):∃ r ∈ b,r.1=blkP b:=by
 unfold blkP
 by_cases h0:(readM b).2.1=0
 · rw [if_pos h0]
   cases b with
   | nil=>exact absurd rfl hb
   | cons r t=>exact ⟨r,by simp,rfl⟩
 · rw [if_neg h0]
   by_cases h1:(readM b).2.2=0
   · exact absurd (read_at0 h1) h0
   · obtain ⟨_,h2⟩:=go_err0 b dv0 [] h1;rcases h2 with h2 | ⟨r,hr,e⟩
     · exact absurd h2 h0
     · exact ⟨r,hr,e.symm⟩
theorem devs_err (bs:List (List Lr)) (hne:∀ b ∈ bs,b ≠ []):∀ (ds:List Dv),¬ (devsM ds bs).2.2=0→(devsM ds bs).1=[]∧∃ r ∈ bs.flatten,r.1=(devsM ds bs).2.1:=by
 induction bs with
 | nil=>intro ds h; exact absurd rfl h
 | cons b bs ih=>
  intro ds he
  by_cases hb:blkE (namesD ds) b=0
  · rw [devs_ok hb] at he ⊢;obtain ⟨k1,r,hr,e⟩:=ih (fun c hc=>hne c (by simp [hc])) _ he;exact ⟨k1,r,by rw [List.flatten_cons]; exact List.mem_append_right _ hr,e⟩
  · rw [devs_bad hb];obtain ⟨r,hr,e⟩:=blkP_in (hne b (by simp)) hb;exact ⟨rfl,r,by rw [List.flatten_cons]; exact List.mem_append_left _ hr,e⟩
structure NmOk (es:Array MapEntry) (ns:List Wd):Prop where
 key:∀ (i:Nat) (e:MapEntry),es[i]?=some e→∃ f:Wd,e.key=.string (txt f)∧f ∈ ns∧e.val=.agg #[]
 has:∀ f ∈ ns,∃ (i:Nat) (e:MapEntry),es[i]?=some e∧e.key=.string (txt f)
theorem NmOk.first:NmOk #[] []:=⟨fun i e h=>(by simp at h),fun f h=>(by cases h)⟩
theorem NmOk.look {es:Array MapEntry} {ns:List Wd} (h:NmOk es ns) (f:Wd):(Instr.findNow .string (.string (txt f)) es.toList 0=some none∧f ∉ ns) ∨ ∃ i,Instr.findNow .string (.string (txt f)) es.toList 0=some (some (i,.agg #[]))∧f ∈ ns:=by
 rcases find_arr f es (fun i e he=>by obtain ⟨f,h1,_⟩:=h.key i e he; exact ⟨f,h1⟩) with ⟨h1,h2⟩ | ⟨i,e,h1,h2,h3⟩
 · refine .inl ⟨h1,fun hm=>?_⟩;obtain ⟨i,e,he,hk⟩:=h.has f hm;exact h2 i e he hk
 · obtain ⟨f',h4,h5,h6⟩:=h.key i e h1;have:f'=f:=by
    rw [h2] at h4;injection h4 with h4
    exact (txt_inj h4).symm
   subst this;exact .inr ⟨i,by rw [h3,h6],h5⟩
theorem NmOk.push {es:Array MapEntry} {ns:List Wd} (h:NmOk es ns) (f:Wd) (c:Nat):NmOk (es.push { key:=.string (txt f),val:=.agg #[],born:=c }) (ns ++ [f]):=by
 refine ⟨fun i e he=>?_,fun q hq=>?_⟩
 · rw [Array.getElem?_push] at he
   split at he
   · obtain rfl:=Option.some.inj he;exact ⟨f,rfl,by simp,rfl⟩
   · obtain ⟨q,h1,h2,h3⟩:=h.key i e he;exact ⟨q,h1,by simp [h2],h3⟩
 · rcases List.mem_append.1 hq with hq | hq
   · obtain ⟨i,e,he,hk⟩:=h.has q hq;refine ⟨i,e,?_,hk⟩;have hlt:=(Array.getElem?_eq_some_iff.1 he).1;rw [Array.getElem?_push,if_neg (by omega)]; exact he
   · obtain rfl:=List.mem_singleton.1 hq;exact ⟨es.size,_,by rw [Array.getElem?_push,if_pos rfl],rfl⟩
def NmAt (x:World) (g:Nat) (ns:List Wd):Prop:=∃ es c,x.heap[g]?=some (.map es c)∧NmOk es ns
theorem NmAt.lt {x:World} {g:Nat} {ns:List Wd} (h:NmAt x g ns):g < x.heap.size:=by obtain ⟨es,c,h1,_⟩:=h; exact (Array.getElem?_eq_some_iff.1 h1).1
theorem NmAt.kept {x y:World} {g:Nat} {ns:List Wd} (h:NmAt x g ns) (hb:y.heap[g]?=x.heap[g]?):NmAt y g ns:=by obtain ⟨es,c,h1,h2⟩:=h; exact ⟨es,c,hb.trans h1,h2⟩
theorem NmAt.below {x y:World} {g:Nat} {ns:List Wd} (h:NmAt x g ns) (hb:Below x.heap.size x y):NmAt y g ns:=h.kept (hb.block _ h.lt)
def tkE (ns:List Wd) (d:Dv):Nat:=if cN d=0 then (if d.nm ∈ ns then 8 else 0) else cN d
theorem grown_below {a b:World} (h:Below a.heap.size a b) (row:Option Nat):a.grownBy b row:=⟨h.os,h.tape,h.output,h.size,fun k hk _=>h.block k hk⟩
def TkQ (w:World) (g:Nat) (ns:List Wd) (d:Dv) (e:Ending) (y:World):Prop:=
 e=.returned (.int .i64 ((tkE ns d:Nat):Int))∧w.grownBy y (some g)∧(tkE ns d=0→NmAt y g (ns ++ [d.nm]))∧(tkE ns d ≠ 0→NmAt y g ns)
theorem TkQ.bad {w y:World} {g:Nat} {ns:List Wd} {d:Dv} {T:Int} (hN:NmAt w g ns) (hT:((tkE ns d:Nat):Int)=T) (h0:¬ T=0) (hb:Below w.heap.size w y):TkQ w g ns d (.returned (.int .i64 T)) y:=
 ⟨by rw [hT],grown_below hb _,fun h=>absurd (by rw [← hT,h]; rfl) h0,fun _=>hN.below hb⟩
theorem ntake_any (d:Dv) (fv qv:Value) (w:World) (g:Nat) (ns:List Wd) (hi:DvI d) (hq:∃ p c,qv=.slice p d.rq.length c) (hf:FldsV w fv d.fs) (hN:NmAt w g ns) :
 Calls Tryz.prog 34 #[.map (some g),dvV d fv qv] w (TkQ w g ns d):=by
 have ck:Hid (ShCkC w d fv qv (ckE d)):=shCkC hi hq hf;obtain ⟨pf,cf,rfl⟩:=hf.form;obtain ⟨pq,cq,rfl⟩:=hq;have gl:=hN.lt;generalize d.fs.length=nf at *;generalize d.rq.length=nq at *;have B0:Hid (Below w.heap.size w (w.alloc (.cells #[.string (txt d.nm),.int .i64 d.st,.int .i64 d.es,.int .i64 d.mx,.int .i64 d.sz,.string (txt d.sm),.slice pf nf cf,.slice pq nq cq,.int .i64 d.po,.int .i64 d.ti,.int .i64 d.re,.int .i64 d.ag] 33))):=(Below.refl _ _).alloc (Nat.le_refl _) _;have D0:(w.alloc (.cells #[.string (txt d.nm),.int .i64 d.st,.int .i64 d.es,.int .i64 d.mx,.int .i64 d.sz,.string (txt d.sm),.slice pf nf cf,.slice pq nq cq,.int .i64 d.po,.int .i64 d.ti,.int .i64 d.re,.int .i64 d.ag] 33)).heap[w.heap.size]?=some (.cells #[.string (txt d.nm),.int .i64 d.st,.int .i64 d.es,.int .i64 d.mx,.int .i64 d.sz,.string (txt d.sm),.slice pf nf cf,.slice pq nq cq,.int .i64 d.po,.int .i64 d.ti,.int .i64 d.re,.int .i64 d.ag] 33 (0,0)):=World.alloc_heap_new w _;have b0:=(Array.getElem?_eq_some_iff.1 D0).1;replace hN:Hid (NmAt w g ns):=hN;clear hi hf
 go_enter Tryz.func34,Tryz.ntmps34
 go_upto_region 1 with fail
 change Code.wp Tryz.prog _ _ _ (w.alloc (.cells #[.string (txt d.nm),.int .i64 d.st,.int .i64 d.es,.int .i64 d.mx,.int .i64 d.sz,.string (txt d.sm),.slice pf nf cf,.slice pq nq cq,.int .i64 d.po,.int .i64 d.ti,.int .i64 d.re,.int .i64 d.ag] 33));generalize w.alloc (.cells #[.string (txt d.nm),.int .i64 d.st,.int .i64 d.es,.int .i64 d.mx,.int .i64 d.sz,.string (txt d.sm),.slice pf nf cf,.slice pq nq cq,.int .i64 d.po,.int .i64 d.ti,.int .i64 d.re,.int .i64 d.ag] 33)=w0 at *;obtain ⟨c0,f0,c1,f1,c2,f2,c3,f3,c4,f4,c5,f5,c6,f6,c7,f7,c8,f8,c9,f9,c10,f10,c11,f11⟩:=rd12 D0
 go_wp2_with fail
 refine (ck.out w0 B0.out).mono ?_;rintro e y ⟨rfl,hb⟩;have DY:=(hb.block _ b0).trans D0;have BY:Hid (Below w.heap.size w y):=B0.out.trans (hb.mono B0.out.size);have NY:NmAt y g ns:=hN.out.below BY.out;obtain ⟨y0,yf⟩:=rd_cell DY 0;simp only [List.getElem?_toArray,List.getElem?_cons_zero] at y0;clear ck B0 c0 c1 c2 c3 c4 c5 c6 c7 c8 c9 c10 c11 f0 f1 f2 f3 f4 f5 f6 f7 f8 f9 f10 f11 hb D0 DY
 by_cases h0:ckE d=0
 · have hc:cN d=0:=cN_0.2 h0;rw [h0];have NY0:=NY.lt;obtain ⟨es,c,h1,h2⟩:=NY;have ins:Hid (∀ (z:World),z.heap[g]?=some (.map es c)→Instr.findNow .string (.string (txt d.nm)) es.toList 0=some none→(Instr.mapUpdate 84 (.map (some g)) (.string (txt d.nm)) (.agg #[])).run Tryz.prog z=.ok () { z with heap:=z.heap.setIfInBounds g (.map (es.push { key:=.string (txt d.nm),val:=.agg #[],born:=c }) (c + 1)) }):=
    fun z hz hf=>ins_none _ 9 126 Tryz.underlying84 Tryz.underlying9 es c (txt d.nm) _ hf z g hz
   rcases h2.look d.nm with ⟨h3,h4⟩ | ⟨i,h3,h4⟩
   · have hT:tkE ns d=0:=by unfold tkE; rw [if_pos hc,if_neg h4]
     have lk:(Instr.lookup 84 (.map (some g)) (.string (txt d.nm)) true).run Tryz.prog y=.ok (.tuple #[.agg #[],.bool false]) y:=lookup_no _ 9 126 Tryz.underlying84 Tryz.underlying9 y g es c h1 (txt d.nm) (.agg #[]) (by kernel_rfl) h3;have up:=ins.out (y.alloc (.cells #[] 126)) ((Below.heap_alloc _ _ _ NY0).trans h1) h3;have y1:(y.alloc (.cells #[] 126)).cell? ⟨w.heap.size,0,none⟩=some (.string (txt d.nm)):=(World.cell?_alloc_lt _ _ _ (World.block_lt_of_cell? y ⟨w.heap.size,0,none⟩ y0)).trans y0;have yg:Hid (w.grownBy { y.alloc (.cells #[] 126) with heap:=(y.alloc (.cells #[] 126)).heap.setIfInBounds g (.map (es.push { key:=.string (txt d.nm),val:=.agg #[],born:=c }) (c + 1)) } (some g)):=by
      have b1:=BY.out.alloc (o:=.cells #[] 126) BY.out.size;refine ⟨b1.os,b1.tape,b1.output,by simp only [Array.size_setIfInBounds]; exact b1.size,fun k hk hne=>?_⟩;show ((y.alloc (.cells #[] 126)).heap.setIfInBounds g _)[k]?=_;rw [Array.getElem?_setIfInBounds_ne (fun e=>hne (by rw [e]))];exact b1.block k hk
     have ya:Hid (NmAt { y.alloc (.cells #[] 126) with heap:=(y.alloc (.cells #[] 126)).heap.setIfInBounds g (.map (es.push { key:=.string (txt d.nm),val:=.agg #[],born:=c }) (c + 1)) } g (ns ++ [d.nm])):=by
      refine ⟨es.push { key:=.string (txt d.nm),val:=.agg #[],born:=c },c + 1,?_,h2.push d.nm c⟩;show ((y.alloc (.cells #[] 126)).heap.setIfInBounds g _)[g]?=_;rw [Array.getElem?_setIfInBounds_self_of_lt (by rw [World.size_alloc]; omega)]
     clear ins h2;go_wp2;go_ret;exact ⟨by rw [hT]; rfl,yg.out,fun _=>ya.out,fun h=>absurd hT h⟩
   · have hT:tkE ns d=8:=by unfold tkE; rw [if_pos hc,if_pos h4]
     have lk:(Instr.lookup 84 (.map (some g)) (.string (txt d.nm)) true).run Tryz.prog y=.ok (.tuple #[.agg #[],.bool true]) y:=lookup_str _ 9 126 Tryz.underlying84 Tryz.underlying9 y g es c h1 (txt d.nm) i _ h3;clear ins h2;go_wp2;go_ret;exact ⟨by rw [hT]; rfl,grown_below (BY.out.alloc BY.out.size _) _,fun h=>absurd (h.symm.trans hT) (by decide),fun _=>(hN.out.below BY.out).below ((Below.refl _ _).alloc (Nat.le_refl _) _)⟩
 · have hc:¬ cN d=0:=fun h=>h0 (cN_0.1 h)
   have hT:((tkE ns d:Nat):Int)=ckE d:=by unfold tkE; rw [if_neg hc]; exact ck_nat d
   generalize ckE d=T at *;have t0:(T == 0)=false:=beq_eq_false_iff_ne.2 h0;have t1:(T != 0)=true:=by rw [bne,t0]; rfl
   replace hT:Hid (((tkE ns d:Nat):Int)=T):=hT;go_wp2;go_ret;exact TkQ.bad hN.out hT.out h0 BY.out
abbrev dvB (d:Dv) (fv qv:Value):Array Value:=#[.string (txt d.nm),.int .i64 d.st,.int .i64 d.es,.int .i64 d.mx,.int .i64 d.sz,.string (txt d.sm),fv,qv,.int .i64 d.po,.int .i64 d.ti,.int .i64 d.re,.int .i64 d.ag]
abbrev Dn10:=Dv × Value × Value
def dvCs (ps:List Dn10):List Value:=ps.flatMap fun p=>(dvB p.1 p.2.1 p.2.2).toList
theorem dvCs_snoc (ps:List Dn10) (p:Dn10):dvCs (ps ++ [p])=dvCs ps ++ (dvB p.1 p.2.1 p.2.2).toList:=by
 unfold dvCs;rw [List.flatMap_append];simp only [List.flatMap_cons,List.flatMap_nil,List.append_nil]
theorem dvCs_get (ps:List Dn10):∀ (j k:Nat) (hj:j < ps.length),k < 12→(dvCs ps)[12 * j + k]?=(dvB ps[j].1 ps[j].2.1 ps[j].2.2).toList[k]?:=by
 induction ps with
 | nil=>intro j k hj; cases hj
 | cons p ps ih=>
  intro j k hj hk;show ((dvB p.1 p.2.1 p.2.2).toList ++ dvCs ps)[12 * j + k]?=_
  cases j with
  | zero=>
   rw [List.getElem?_append_left (by show 12 * 0 + k < 12; omega),Nat.mul_zero,Nat.zero_add];rfl
  | succ j=>
   rw [List.getElem?_append_right (by show 12≤_; omega),show 12 * (j + 1) + k - (dvB p.1 p.2.1 p.2.2).toList.length=12 * j + k from by show 12 * (j + 1) + k - 12=_; omega];exact ih j k (by simpa using hj) hk
structure DvsG (T:TypeId) (N:Nat) (x:World) (lv:Value) (ps:List Dn10):Prop where
 own:x.ownsRow N T 12 lv ps.length (dvCs ps)
 fl:∀ p ∈ ps,FldsAt x p.2.1 p.1.fs∧BytesAt x p.2.2 p.1.rq
 sep:∀ p ∈ ps,∀ g,(p.2.1.ownBlock=some g ∨ p.2.2.ownBlock=some g)→N≤g∧lv.ownBlock ≠ some g
theorem DvsG.first (T:TypeId) (N:Nat) (x:World):DvsG T N x (.slice none 0 0) []:=⟨World.ownsRow_nil _ _ _ _,fun p h=>(by cases h),fun p h=>(by cases h)⟩
theorem DvsG.on {T:TypeId} {N:Nat} {x y:World} {lv:Value} {ps:List Dn10} (h:DvsG T N x lv ps) {gm:Nat} (hg:x.grownBy y (some gm)) (hm:gm < N):DvsG T N y lv ps:=by
 have hk:∀ k,N≤k→k < x.heap.size→y.heap[k]?=x.heap[k]?:=fun k h1 h2=>hg.block k h2 fun e=>by injection e with e; omega
 refine ⟨own_on h.own fun g e=>hk g (World.ownsRow.lt h.own g e).1 (World.ownsRow.lt h.own g e).2,fun p hp=>⟨(h.fl p hp).1.on fun g e=>hk g (h.sep p hp g (.inl e)).1 ((h.fl p hp).1.lt g e),(h.fl p hp).2.on fun g e=>hk g (h.sep p hp g (.inr e)).1 ((h.fl p hp).2.lt g e)⟩,h.sep⟩
theorem DvsG.push {T:TypeId} {N:Nat} {x y:World} {lv:Value} {ps:List Dn10} (h:DvsG T N x lv ps) {d:Dv} {fv qv:Value} (hf:FldsAt x fv d.fs) (hq:BytesAt x qv d.rq)
 (hs:∀ g,(fv.ownBlock=some g ∨ qv.ownBlock=some g)→N≤g∧lv.ownBlock ≠ some g) {g cap:Nat}
 (ho:y.ownsRow N T 12 (.slice (some ⟨g,0,none⟩) (ps.length + 1) cap) (ps.length + 1) (dvCs ps ++ (dvB d fv qv).toList)) (hg:x.grownBy y lv.ownBlock) (hn:lv.ownBlock=some g ∨ g=x.heap.size) :
 DvsG T N y (.slice (some ⟨g,0,none⟩) (ps.length + 1) cap) (ps ++ [(d,fv,qv)]):=by
 have all:∀ p ∈ ps ++ [(d,fv,qv)],(FldsAt x p.2.1 p.1.fs∧BytesAt x p.2.2 p.1.rq)∧∀ g,(p.2.1.ownBlock=some g ∨ p.2.2.ownBlock=some g)→N≤g∧lv.ownBlock ≠ some g:=by
  intro p hp;rcases List.mem_append.1 hp with hp | hp
  · exact ⟨h.fl p hp,h.sep p hp⟩
  · rw [List.mem_singleton.1 hp]; exact ⟨⟨hf,hq⟩,hs⟩
 have hk:∀ p ∈ ps ++ [(d,fv,qv)],∀ k,(p.2.1.ownBlock=some k ∨ p.2.2.ownBlock=some k)→k < x.heap.size:=fun p hp k e=>by
  rcases e with e | e
  · exact (all p hp).1.1.lt k e
  · exact (all p hp).1.2.lt k e
 have hb:∀ p ∈ ps ++ [(d,fv,qv)],∀ k,(p.2.1.ownBlock=some k ∨ p.2.2.ownBlock=some k)→y.heap[k]?=x.heap[k]?:=fun p hp k e=>
  hg.block k (hk p hp k e) fun e'=>((all p hp).2 k e).2 e'.symm
 refine ⟨by rw [dvCs_snoc,List.length_append]; exact ho,fun p hp=>⟨(all p hp).1.1.on fun k e=>hb p hp k (.inl e),(all p hp).1.2.on fun k e=>hb p hp k (.inr e)⟩,fun p hp k e=>⟨((all p hp).2 k e).1,fun e'=>?_⟩⟩;have e2:g=k:=by injection e'
 rcases hn with hn | hn
 · exact ((all p hp).2 k e).2 (by rw [hn,e2])
 · have:=hk p hp k e;omega
structure DvsAt (T:TypeId) (x:World) (lv:Value) (ps:List Dn10):Prop where
 own:∃ N,x.ownsRow N T 12 lv ps.length (dvCs ps)
 fl:∀ p ∈ ps,FldsAt x p.2.1 p.1.fs∧BytesAt x p.2.2 p.1.rq
theorem DvsG.at {T:TypeId} {N:Nat} {x:World} {lv:Value} {ps:List Dn10} (h:DvsG T N x lv ps):DvsAt T x lv ps:=⟨⟨N,h.own⟩,h.fl⟩
theorem DvsAt.below {T:TypeId} {x y:World} {lv:Value} {ps:List Dn10} (h:DvsAt T x lv ps) (hb:Below x.heap.size x y):DvsAt T y lv ps:=by
 obtain ⟨N,ho⟩:=h.own;exact ⟨⟨N,own_below ho hb⟩,fun p hp=>⟨(h.fl p hp).1.below hb,(h.fl p hp).2.below hb⟩⟩
theorem DvsAt.nil (T:TypeId) (x:World):DvsAt T x (.slice none 0 0) []:=⟨⟨0,World.ownsRow_nil _ _ _ _⟩,fun p h=>(by cases h)⟩
def LinesQ (t:TypeId) (w:World) (T:List Dv × Int × Nat) (e:Ending) (y:World):Prop:=
 ∃ lv ps,e=.returned (.tuple #[lv,.int .i64 T.2.1,.int .i64 ((T.2.2:Nat):Int)])∧ps.map (·.1)=T.1∧DvsAt t y lv ps∧Below w.heap.size w y
structure BkL (N:Nat) (x:World) (vo:Value) (us:List Value) (cs:List (List Rn)):Prop where
 len:us.length=cs.length
 ro:x.ownsRow N 55 1 vo us.length us
 inn:∀ i (h:i < us.length) (h':i < cs.length),x.ownsRow N 56 2 us[i] cs[i].length (rnC cs[i])
 wo:∀ c ∈ cs,∀ f ∈ c,WcAt N x f.2 f.1.2
theorem BkSt.l {w x:World} {vo:Value} {us:List Value} {cs:List (List Rn)} (h:BkSt w x vo us cs):BkL w.heap.size x vo us cs:=⟨h.len,h.ro,h.inn,h.wo⟩
theorem BkL.on {N:Nat} {x y:World} {vo:Value} {us:List Value} {cs:List (List Rn)} (h:BkL N x vo us cs) {gm:Nat} (hg:x.grownBy y (some gm)) (hm:gm < N):BkL N y vo us cs:=by
 have hk:∀ k,N≤k→k < x.heap.size→y.heap[k]?=x.heap[k]?:=fun k h1 h2=>hg.block k h2 fun e=>by injection e with e; omega
 have ok:∀ {b:Nat} {T:TypeId} {s:Nat} {v:Value} {n:Nat} {xs:List Value},N≤b→x.ownsRow b T s v n xs→y.ownsRow b T s v n xs:=fun hb h=>own_on h fun g e=>hk g (Nat.le_trans hb (World.ownsRow.lt h g e).1) (World.ownsRow.lt h g e).2
 exact ⟨h.len,ok (Nat.le_refl _) h.ro,fun i h1 h2=>ok (Nat.le_refl _) (h.inn i h1 h2),fun c hc f hf=>(h.wo c hc f hf).imp id (ok (Nat.le_refl _))⟩
theorem BkL.kept {N b:Nat} {x y:World} {vo v':Value} {us:List Value} {cs:List (List Rn)} {n:Nat} {xs:List Value} (h:BkL N x vo us cs) (h':x.ownsRow b 33 12 v' n xs) (hg:x.grownBy y v'.ownBlock):BkL N y vo us cs:=
 ⟨h.len,World.ownsRow.kept h.ro hg (own_apart h.ro h' (by decide)),fun i h1 h2=>World.ownsRow.kept (h.inn i h1 h2) hg (own_apart (h.inn i h1 h2) h' (by decide)),fun c hc f hf=>(h.wo c hc f hf).kept h' (by decide) hg⟩
theorem BkL.form {N:Nat} {x:World} {vo:Value} {us:List Value} {cs:List (List Rn)} (h:BkL N x vo us cs):∃ p cap,vo=.slice p us.length cap:=by
 rcases own_slice h.ro with ⟨e,hn⟩ | ⟨g,cap,e,_⟩
 · exact ⟨_,_,by rw [e,hn]⟩
 · exact ⟨_,_,e⟩
theorem BkL.at {N:Nat} {x:World} {p:Option Addr} {n cap:Nat} {us:List Value} {cs:List (List Rn)} (h:BkL N x (.slice p n cap) us cs) (hn:us.length=n) {i:Nat} (hi:i < us.length) (hi':i < cs.length) :
 ∃ go,p=some ⟨go,0,none⟩∧n≤cap∧x.cell? ⟨go,i,none⟩=some us[i]∧RowsC x.heap.size x us[i] (cs[i].map (·.1)):=by
 have ho:=h.ro;rcases own_slice ho with ⟨e,hz⟩ | ⟨go,c2,e,_,hl⟩
 · omega
 · injection e with e1 e2 e3
   subst e1 e3;refine ⟨go,rfl,own_room ho _ _ _ rfl,?_,?_⟩
   · rw [← hn] at ho;rw [World.ownsRow.cellAt ho i (by omega)];exact List.getElem?_eq_getElem hi
   · have hr:=h.inn i hi hi';rcases own_slice hr with ⟨e,hz⟩ | ⟨gi,ci,e,_,hl⟩
     · left
       exact ⟨e,by rw [List.length_eq_zero_iff.1 hz]; rfl⟩
     · right
       refine ⟨gi,0,ci,by rw [List.length_map]; exact e,fun j hj=>?_,hl⟩;have hj':j < cs[i].length:=by simpa using hj
       rw [e] at hr;have c0:=World.ownsRow.cellAt hr (2 * j) (by omega);have c1:=World.ownsRow.cellAt hr (2 * j + 1) (by omega);have hw:=(h.wo _ (List.getElem_mem hi') _ (List.getElem_mem hj')).wds;obtain ⟨g0,g1⟩:=rnC_get hj';refine ⟨?_,(cs[i][j]).2,?_,?_⟩
       · rw [Nat.zero_add,c0]
         simpa using g0
       · rw [Nat.zero_add,c1]
         simpa using g1
       · simpa using hw
theorem RowsC.mono {L0 L1:Nat} {x:World} {v:Value} {rs:List Lr} (h:RowsC L0 x v rs) (hl:L0≤L1):RowsC L1 x v rs:=by
 rcases h with h | ⟨g,o,cap,h1,h2,h3⟩
 · exact .inl h
 · refine .inr ⟨g,o,cap,h1,fun j hj=>?_,Nat.lt_of_lt_of_le h3 hl⟩;obtain ⟨q0,u,q1,q2⟩:=h2 j hj;refine ⟨q0,u,q1,?_⟩;rcases q2 with q | ⟨g,o,cap,q1,q2,q3,q4⟩
   · exact .inl q
   · exact .inr ⟨g,o,cap,q1,q2,q3,Nat.lt_of_lt_of_le q4 hl⟩
theorem RowsC.cons {L0:Nat} {x:World} {v:Value} {b:List Lr} (h:RowsC L0 x v b) (hb:b ≠ []):∃ g o cap,v=.slice (some ⟨g,o,none⟩) b.length cap∧x.cell? ⟨g,o,none⟩=some (.int .i64 (b.headD (0,[])).1):=by
 rcases h with ⟨_,h⟩ | ⟨g,o,cap,h1,h2,h3⟩
 · exact absurd h hb
 · cases b with
   | nil=>exact absurd rfl hb
   | cons r rs=>exact ⟨g,o,cap,h1,(h2 0 (by simp)).1⟩
theorem place_any (n:Int) (b:List Lr) (hb:b ≠ []) (v:Value) (w:World) (L0:Nat) (hv:RowsC L0 w v b) :
 Calls Tryz.prog 41 #[.int .i64 n,v] w fun e y=>e=.returned (.int .i64 (if n=0 then (b.headD (0,[])).1 else n))∧y=w:=by
 obtain ⟨g,o,cap,rfl,c0⟩:=hv.cons hb;have hl:0 < b.length:=List.length_pos_iff.2 hb;have hli:(0:Int) < (b.length:Int):=by omega
 clear hv;generalize (b.headD (0,[])).1=ln at *;generalize b.length=m at *
 by_cases h0:n=0
 · subst h0;rw [if_pos rfl]
   go_enter Tryz.func41,Tryz.ntmps41
   go_wp2;go_ret;exact ⟨rfl,rfl⟩
 · rw [if_neg h0];have t0:(n == 0)=false:=beq_eq_false_iff_ne.2 h0;have t1:(n != 0)=true:=by rw [bne,t0]; rfl
   go_enter Tryz.func41,Tryz.ntmps41
   go_wp2;go_ret;exact ⟨rfl,rfl⟩
theorem bkR_ex (rs:List Lr):BkR rs (blkF rs):=by
 have h:∃ bs,BkR rs bs:=by
  suffices ∀ (n:Nat),n≤rs.length→∃ bs,BkR (rs.take n) bs by
   obtain ⟨bs,h⟩:=this rs.length (Nat.le_refl _);rw [List.take_length] at h;exact ⟨bs,h⟩
  intro n
  induction n with
  | zero=>intro _; exact ⟨[],BkR.nil⟩
  | succ n ih=>
   intro hn;obtain ⟨bs,h⟩:=ih (by omega);have e:rs.take (n + 1)=rs.take n ++ [rs[n]]:=by rw [List.take_add_one,List.getElem?_eq_getElem (by omega)]; rfl
   rw [e]
   by_cases hb:bs=[] ∨ isDev rs[n]=true
   · exact ⟨_,h.new hb⟩
   · rw [not_or] at hb;obtain ⟨bs',c,rfl⟩:∃ bs' c,bs=bs' ++ [c]:=⟨bs.dropLast,bs.getLast hb.1,(List.dropLast_concat_getLast hb.1).symm⟩;exact ⟨_,h.old (by simpa using hb.2)⟩
 obtain ⟨bs,h⟩:=h;have:=blkF_uniq bs h.ne h.tl h.hd;rw [h.flat] at this;rw [this];exact h
theorem go_dev (rs:List Lr):∀ (d:Dv) (s:List Wd),(goM d s rs).2.2=0→(kDev ∈ s ∨ ∃ r ∈ rs,isDev r=true)∧∀ r ∈ rs,¬ r.2=[]:=by
 induction rs with
 | nil=>
  intro d s h;unfold goM at h
  split at h
  · cases h
  · rename_i hl
    refine ⟨.inl ?_,fun r hr=>by cases hr⟩;refine Classical.byContradiction fun hc=>hl ?_
    unfold lackB;exact decide_eq_true ⟨kDev,by unfold tenK; simp,hc⟩
 | cons r rs ih=>
  intro d s h;unfold goM at h
  split at h
  · rename_i e he
    have h':e=0:=h;have:=step_err he;omega
  · rename_i d' hd
    obtain ⟨h1,h2⟩:=ih _ _ h;have hne:¬ r.2=[]:=by
     intro e;rw [e] at hd;unfold stepM at hd
     cases hd
    refine ⟨?_,fun q hq=>?_⟩
    · rcases h1 with h1 | ⟨q,hq,h1⟩
      · rcases List.mem_append.1 h1 with h1 | h1
        · exact .inl h1
        · refine .inr ⟨r,by simp,?_⟩;have e:kDev=r.2.headD []:=by simpa using h1
          unfold isDev
          cases hr:r.2 with
          | nil=>exact absurd hr hne
          | cons f a=>
           rw [hr] at e;exact decide_eq_true e.symm
      · exact .inr ⟨q,by simp [hq],h1⟩
    · rcases List.mem_cons.1 hq with rfl | hq
      · exact hne
      · exact h2 q hq
theorem devs_each (bs:List (List Lr)):∀ (ds:List Dv),(devsM ds bs).2.2=0→∀ b ∈ bs,(readM b).2.2=0:=by
 induction bs with
 | nil=>intro ds _ b hb; cases hb
 | cons c bs ih=>
  intro ds h b hb
  by_cases hc:blkE (namesD ds) c=0
  · rw [devs_ok hc] at h;rcases List.mem_cons.1 hb with rfl | hb
    · exact (blkE_0 hc).1
    · exact ih _ h b hb
  · rw [devs_bad hc] at h;exact absurd h hc
theorem count_flat (bs:List (List Lr)) (h:∀ b ∈ bs,∃ r t,b=r :: t∧isDev r=true∧∀ q ∈ t,isDev q=false):(bs.flatten).countP isDev=bs.length:=by
 induction bs with
 | nil=>rfl
 | cons b bs ih=>
  obtain ⟨r,t,rfl,h1,h2⟩:=h b (by simp);rw [List.flatten_cons,List.countP_append,ih fun c hc=>h c (by simp [hc]),List.countP_cons_of_pos h1,List.countP_eq_zero.2 (fun q hq=>by rw [h2 q hq]; simp)];simp only [List.length_cons];omega
theorem lines_heads {rs:List Lr} (h:(linesM rs).2.2=0):(linesM rs).1.length=rs.countP isDev∧(∀ r ∈ rs,¬ r.2=[])∧AllOk (linesM rs).1∧(linesM rs).2.1=0:=by
 have B:=bkR_ex rs;have he:=devs_each (blkF rs) [] h;obtain ⟨a1,a2,a3⟩:=devs_all (blkF rs) [] AllOk.nil h;refine ⟨?_,fun r hr=>?_,a1,a3⟩
 · show (devsM [] (blkF rs)).1.length=_;rw [a2,List.length_nil,Nat.zero_add,← count_flat (blkF rs),B.flat];intro b hb;have hne:=B.ne b hb;have htl:=B.tl b hb
   cases b with
   | nil=>exact absurd rfl hne
   | cons r t=>
    refine ⟨r,t,rfl,?_,htl⟩;rcases (go_dev _ _ _ (he _ hb)).1 with hm | ⟨q,hq,h1⟩
    · cases hm
    · rcases List.mem_cons.1 hq with rfl | hq
      · exact h1
      · rw [htl q hq] at h1; cases h1
 · rw [← B.flat] at hr;obtain ⟨b,hb,hr⟩:=List.mem_flatten.1 hr;exact (go_dev _ _ _ (he b hb)).2 r hr
theorem lines_bad {rs:List Lr} (h:¬ (linesM rs).2.2=0):(linesM rs).1=[]∧∃ r ∈ rs,r.1=(linesM rs).2.1:=by
 have B:=bkR_ex rs;obtain ⟨h1,r,hr,h2⟩:=devs_err (blkF rs) B.ne [] h;rw [B.flat] at hr;exact ⟨h1,r,hr,h2⟩
theorem LrsAt.form {x:World} {v:Value} {rs:List Lr} (h:LrsAt x v rs):∃ p c,v=.slice p rs.length c:=by
 rcases h with ⟨h1,rfl⟩ | ⟨g,o,cap,h1,_⟩
 · exact ⟨_,_,h1⟩
 · exact ⟨_,_,h1⟩
theorem LrsAt.at {x:World} {p:Option Addr} {n cap:Nat} {rs:List Lr} (h:LrsAt x (.slice p n cap) rs) (hn:rs.length=n) {i:Nat} (hi:i < rs.length) :
 ∃ g o u,p=some ⟨g,o,none⟩∧x.cell? ⟨g,o + i * 2,none⟩=some (.int .i64 rs[i].1)∧x.cell? ⟨g,o + i * 2 + 1,none⟩=some u∧StrsAny x u rs[i].2:=by
 rcases h with ⟨_,rfl⟩ | ⟨g,o,c2,h1,h2,h3⟩
 · cases hi
 · injection h1 with e1 e2 e3
   obtain ⟨k1,u,k2,k3⟩:=h2 i hi;rw [Nat.mul_comm 2 i] at k1 k2;exact ⟨g,o,u,e1,k1,k2,k3⟩
theorem StrsAny.one {x:World} {u:Value} {ws:List Wd} (h:StrsAny x u ws) (hn:¬ ws=[]):∃ g o m c f,u=.slice (some ⟨g,o,none⟩) m c∧0 < m∧ws.head?=some f∧x.cell? ⟨g,o,none⟩=some (.string (txt f)):=by
 rcases h with ⟨_,_,_,h⟩ | ⟨g,o,cap,h1,h2,h3⟩
 · exact absurd h hn
 · cases ws with
   | nil=>exact absurd rfl hn
   | cons f a=>exact ⟨g,o,_,cap,f,h1,by simp,rfl,h2 0 (by simp)⟩
theorem isDev_eq {r:Lr} {f:Wd} (h:r.2.head?=some f):((txt f).toList == [100,101,118,105,99,101])=isDev r:=by
 obtain ⟨n,ws⟩:=r
 cases ws with
 | nil=>cases h
 | cons g a=>
  obtain rfl:g=f:=by simpa using h
  have e1:(txt g).toList=g:=by rw [ByteArray.toList_eq]; rfl
  show _=decide (g=kDev);rw [e1,Bool.eq_iff_iff,decide_eq_true_iff,beq_iff_eq];rfl
theorem count_next {rs:List Lr} {i:Nat} (hi:i < rs.length):(rs.take (i + 1)).countP isDev=(rs.take i).countP isDev + (if isDev rs[i]=true then 1 else 0):=by
 rw [List.take_add_one,List.getElem?_eq_getElem hi,List.countP_append]
 congr 1
 show List.countP isDev [rs[i]]=_
 cases hd:isDev rs[i] <;> simp [hd]
def allM (ns:List Wd) (acc:Wd):List Dv→Wd × Nat
 | []=>(acc,0)
 | d :: ds=>if tkE ns d=0 then (if 4000 < acc.length + (textD d).length then ([],7) else allM (ns ++ [d.nm]) (acc ++ textD d) ds) else ([],tkE ns d)
theorem all_twice {ns:List Wd} {acc:Wd} {d:Dv} {ds:List Dv} (h:¬ tkE ns d=0):allM ns acc (d :: ds)=([],tkE ns d):=by rw [allM,if_neg h]
theorem all_long {ns:List Wd} {acc:Wd} {d:Dv} {ds:List Dv} (h:tkE ns d=0) (h2:4000 < acc.length + (textD d).length):allM ns acc (d :: ds)=([],7):=by rw [allM,if_pos h,if_pos h2]
theorem all_next {ns:List Wd} {acc:Wd} {d:Dv} {ds:List Dv} (h:tkE ns d=0) (h2:¬ 4000 < acc.length + (textD d).length):allM ns acc (d :: ds)=allM (ns ++ [d.nm]) (acc ++ textD d) ds:=by rw [allM,if_pos h,if_neg h2]
theorem tk_0 {ns:List Wd} {d:Dv}:tkE ns d=0 ↔ ckE d=0∧d.nm ∉ ns:=by
 unfold tkE;refine ⟨fun h=>?_,fun h=>?_⟩
 · split at h
   · rename_i h1
     split at h
     · cases h
     · exact ⟨cN_0.1 h1,by assumption⟩
   · exact absurd h (by assumption)
 · rw [if_pos (cN_0.2 h.1),if_neg h.2]
theorem all_good (ds:List Dv):∀ (ns:List Wd) (acc:Wd),ns.Nodup→acc.length≤4000→(allM ns acc ds).2=0 →
 (allM ns acc ds).1=acc ++ ds.flatMap textD∧(∀ d ∈ ds,ckE d=0)∧(ns ++ namesD ds).Nodup∧(acc ++ ds.flatMap textD).length≤4000:=by
 induction ds with
 | nil=>
  intro ns acc hn hl _;refine ⟨by simp [allM],fun d h=>(by cases h),by simpa [namesD] using hn,by simpa using hl⟩
 | cons d ds ih=>
  intro ns acc hn hl h
  by_cases h1:tkE ns d=0
  · by_cases h2:4000 < acc.length + (textD d).length
    · rw [all_long h1 h2] at h; cases h
    · rw [all_next h1 h2] at h ⊢;obtain ⟨k1,k2⟩:=tk_0.1 h1;have hn2:(ns ++ [d.nm]).Nodup:=by
       rw [List.nodup_append];refine ⟨hn,by simp,fun a ha b hb=>?_⟩;rw [List.mem_singleton.1 hb];intro e;exact k2 (e ▸ ha)
      obtain ⟨e1,e2,e3,e4⟩:=ih _ _ hn2 (by rw [List.length_append]; omega) h;refine ⟨by rw [e1,List.flatMap_cons,List.append_assoc],fun x hx=>?_,?_,by rw [List.flatMap_cons,← List.append_assoc]; exact e4⟩
      · rcases List.mem_cons.1 hx with rfl | hx
        · exact k1
        · exact e2 x hx
      · have:ns ++ namesD (d :: ds)=ns ++ [d.nm] ++ namesD ds:=by simp [namesD]
        rw [this]; exact e3
  · rw [all_twice h1] at h; exact absurd h h1
theorem all_ok (ds:List Dv):∀ (ns:List Wd) (acc:Wd),(∀ d ∈ ds,ckE d=0)→(ns ++ namesD ds).Nodup→(allM ns acc ds).2=0 ∨ (allM ns acc ds).2=7:=by
 induction ds with
 | nil=>intro ns acc _ _; exact .inl rfl
 | cons d ds ih=>
  intro ns acc hc hn;have e:ns ++ namesD (d :: ds)=ns ++ [d.nm] ++ namesD ds:=by simp [namesD]
  have h1:tkE ns d=0:=tk_0.2 ⟨hc d (by simp),fun hm=>by
   unfold namesD at hn;rw [List.nodup_append] at hn;exact hn.2.2 _ hm d.nm (by simp) rfl⟩
  by_cases h2:4000 < acc.length + (textD d).length
  · rw [all_long h1 h2]; exact .inr rfl
  · rw [all_next h1 h2];exact ih _ _ (fun x hx=>hc x (by simp [hx])) (by rw [← e]; exact hn)
theorem AllOk.ways {ds:List Dv} (h:AllOk ds):(allM [] [] ds).2=0 ∨ (allM [] [] ds).2=7:=all_ok ds [] [] (fun d hd=>(h.ok d hd).1) (by simpa using h.nd)
theorem flat_ne {ds:List Dv} (h:¬ ds=[]):0 < (ds.flatMap textD).length:=by
 cases ds with
 | nil=>exact absurd rfl h
 | cons d ds=>rw [List.flatMap_cons,List.length_append]; have:=textD_ne d; omega
theorem names_take {l:List Dv} {i:Nat} (hi:i < l.length):namesD (l.take (i + 1))=namesD (l.take i) ++ [l[i].nm]:=by
 unfold namesD;rw [List.take_add_one,List.getElem?_eq_getElem hi,List.map_append];rfl
end Go.Proofs.YthabffjgdhfbmaaGreatDoor
