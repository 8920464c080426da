/-
  Texts that belong together, one behind the other: DsTakeA, DsLack, DsRead, DsOpen, LexPC, LexPS, LexPL, LexTab, LexShelf, LexPF, LexPQ. Conditions: as each says.
-/
import Derived.BigQuiet
import Derived.ChangeOld
import Derived.Deep.CutRange
import Derived.Deep.QuietTactic
import Derived.Deep.SlicePairs
import Derived.Deep.Strs
import Derived.Handy
import Derived.Laws.Strings3
import Derived.Lib.Bytealg
import Derived.Lib.Fields
import Derived.Lib.IndexLaws
import Derived.Lib.LaidTab
import Derived.Lib.QuietBelowIn
import Derived.Lib.Space
import Derived.Lib.Strings
import Derived.LoopIn
import Derived.LoopNIn
import Derived.Maps.AppendAt
import Derived.Maps.RangeRun
import Derived.OpenShut
import Derived.OwnWalkIn
import Derived.ProofKit
import Derived.RangeFuncBound
import Derived.RangeFuncBox
import Derived.RangeFuncCalls
import Derived.RangeFuncLeaves
import Derived.RangeFuncNested
import Derived.Shelf.Abstract
import Derived.Shelf.RegionOpen
import Derived.Shelf.Strings.Fields
import Derived.Shelf.Strings.Prefix
import Derived.ShutString
import Derived.Sort.BigQuietIn
import Derived.TacticsInMore
import Derived.Test.YthabffjgdhfbmaaGreatDoorChecked
import Derived.Test.YthabffjgdhfbmaaGreatDoorProg
import Derived.WalkKit
import Derived.Test.YthabffjgdhfbmaaGreatDoorJm1
import Derived.Test.YthabffjgdhfbmaaGreatDoorJm2
import Derived.Test.YthabffjgdhfbmaaGreatDoorJm3
import Derived.Test.YthabffjgdhfbmaaGreatDoorJm4
import Derived.Test.YthabffjgdhfbmaaGreatDoorJm5
import Derived.Test.YthabffjgdhfbmaaGreatDoorJm6
set_option maxRecDepth 100000
set_option maxHeartbeats 32000000
set_option linter.unusedVariables false
namespace Go.Proofs.YthabffjgdhfbmaaGreatDoor
open Go.RowKit
theorem tail_one {L0:Nat} {x:World} {g o:Nat} {f:Wd} (h:g < L0):WdsAt L0 x (.slice (some ⟨g,o,none⟩) 0 0) []:=.inr ⟨g,o,0,rfl,Nat.le_refl _,fun j hj=>(by cases hj),h⟩
theorem tail_more {L0:Nat} {x:World} {g o cap:Nat} {f:Wd} {a:List Wd} (hi:StrsIn x g o (f :: a)) (h:g < L0) (hc:a.length + 1≤cap):WdsAt L0 x (.slice (some ⟨g,o + 1,none⟩) a.length (cap - 1)) a:=
 .inr ⟨g,o + 1,cap - 1,rfl,by omega,fun j hj=>by have:=hi (j + 1) (by simpa using hj); rw [show o + 1 + j=o + (j + 1) by omega]; exact this,h⟩
section
variable {N B M L0:Nat} (hB:B < N) (hM:M < N) (hBM:B ≠ M) (hL:L0≤B) (hLM:L0≤M) {x:World} {d:Dv} {fv qv:Value} {seen:List Wd} (St:DsSt N B M x d fv qv seen) {G:Nat} {ms:Array MapEntry} {mc:Nat} (Mn:MeanOk N B M x G ms mc)
include hB hM hBM hL St Mn
theorem take_any (Sn:SeenOk d seen) (hsl:(seen.length:Int)≤5000) {ws:List Wd} {vw:Value} (hw:WdsAt L0 x vw ws) (hz:∀ z ∈ ws,(z.length:Int)≤5000) (hl:(ws.length:Int)≤5000) :
 Calls Tryz.prog 76 #[.pointer (some ⟨B,0,none⟩),.map (some G),vw] x (TakeQ N B M x d fv qv seen ws):=by
 cases ws with
 | nil=>
  rcases hw with ⟨p,c,rfl,_⟩ | ⟨g,o,cap,rfl,_⟩
  · exact take_empty p c
  · exact take_empty _ cap
 | cons f a=>
  obtain ⟨g,o,cap,rfl,hi,hg,hcap⟩:=hw.cons;have hc:x.cell? ⟨g,o,none⟩=some (.string (txt f)):=hi 0 (by simp);have hl':(a.length:Int)≤5000:=by simp at hl; omega
  have hza:∀ z ∈ a,(z.length:Int)≤5000:=fun z h=>hz z (by simp [h])
  have hcn:(seen.count f:Int)≤5000:=by have:=List.count_le_length (a:=f) (l:=seen); omega
  rcases Mn.look f with ⟨hk,hf⟩ | ⟨hk,i,v,hf,hv⟩
  · exact take_unknown Mn f a hk hf g o cap hc hl'
  · have w1:cap=1→a=[]:=fun h=>List.length_eq_zero_iff.1 (by omega)
    have t1:WdsAt L0 x (.slice (some ⟨g,o,none⟩) 0 0) []:=tail_one (f:=f) hg;have t2:WdsAt L0 x (.slice (some ⟨g,o + 1,none⟩) a.length (cap - 1)) a:=tail_more hi hg hcap;have hm8:=Sn.le;rcases hv with ⟨rfl,h⟩ | ⟨rfl,h⟩ | ⟨rfl,h⟩ | ⟨rfl,h⟩ | ⟨rfl,h⟩ | ⟨rfl,h⟩ | ⟨rfl,h⟩ | ⟨rfl,h⟩ | ⟨rfl,h⟩ | ⟨rfl,h⟩ | ⟨rfl,h⟩
    · by_cases hs:kDev ∈ seen
      · obtain ⟨b,rfl,_⟩:=h;exact tk_nam_twice hB hM hBM St Mn kDev a b hk hf (by decide) hs hcn g o cap hc hl'
      · by_cases h1:cap=1
        · obtain rfl:=w1 h1;subst h1;obtain ⟨b,rfl,q⟩:=nm_run hB hM hBM St t1 hza (by simp) h (.string (txt d.nm)) rfl (fun x d=>{ d with nm:=x }) (fun z=>⟨rfl,rfl,rfl⟩);exact tk_nam_one hB hM hBM St Mn kDev b hk hf (by decide) hs g o hc q
        · obtain ⟨b,rfl,q⟩:=nm_run hB hM hBM St t2 hza hl' h (.string (txt d.nm)) rfl (fun x d=>{ d with nm:=x }) (fun z=>⟨rfl,rfl,rfl⟩);exact tk_nam_more hB hM hBM St Mn kDev a b hk hf (by decide) hs g o cap h1 (by omega) hc hl' q
    · by_cases hs:kSum ∈ seen
      · obtain ⟨b,rfl,_⟩:=h;exact tk_nam_twice hB hM hBM St Mn kSum a b hk hf (by decide) hs hcn g o cap hc hl'
      · by_cases h1:cap=1
        · obtain rfl:=w1 h1;subst h1;obtain ⟨b,rfl,q⟩:=nm_run hB hM hBM St t1 hza (by simp) h (.string (txt d.sm)) rfl (fun x d=>{ d with sm:=x }) (fun z=>⟨rfl,rfl,rfl⟩);exact tk_nam_one hB hM hBM St Mn kSum b hk hf (by decide) hs g o hc q
        · obtain ⟨b,rfl,q⟩:=nm_run hB hM hBM St t2 hza hl' h (.string (txt d.sm)) rfl (fun x d=>{ d with sm:=x }) (fun z=>⟨rfl,rfl,rfl⟩);exact tk_nam_more hB hM hBM St Mn kSum a b hk hf (by decide) hs g o cap h1 (by omega) hc hl' q
    · by_cases hs:kSiz ∈ seen
      · obtain ⟨b1,b2,b3,rfl,_⟩:=h;exact tk_num_twice hB hM hBM St Mn kSiz a b1 b2 b3 hk hf (by decide) hs hcn g o cap hc hl'
      · by_cases h1:cap=1
        · obtain rfl:=w1 h1;subst h1;obtain ⟨b1,b2,b3,rfl,q⟩:=nu_run hB hM hBM St t1 hza (by simp) h (.int .i64 d.sz) rfl (fun x d=>{ d with sz:=x }) (fun z=>⟨rfl,rfl,rfl⟩);exact tk_num_one hB hM hBM St Mn kSiz b1 b2 b3 hk hf (by decide) hs g o hc q
        · obtain ⟨b1,b2,b3,rfl,q⟩:=nu_run hB hM hBM St t2 hza hl' h (.int .i64 d.sz) rfl (fun x d=>{ d with sz:=x }) (fun z=>⟨rfl,rfl,rfl⟩);exact tk_num_more hB hM hBM St Mn kSiz a b1 b2 b3 hk hf (by decide) hs g o cap h1 (by omega) hc hl' q
    · by_cases hs:kPol ∈ seen
      · obtain ⟨b1,b2,b3,rfl,_⟩:=h;exact tk_num_twice hB hM hBM St Mn kPol a b1 b2 b3 hk hf (by decide) hs hcn g o cap hc hl'
      · by_cases h1:cap=1
        · obtain rfl:=w1 h1;subst h1;obtain ⟨b1,b2,b3,rfl,q⟩:=nu_run hB hM hBM St t1 hza (by simp) h (.int .i64 d.po) rfl (fun x d=>{ d with po:=x }) (fun z=>⟨rfl,rfl,rfl⟩);exact tk_num_one hB hM hBM St Mn kPol b1 b2 b3 hk hf (by decide) hs g o hc q
        · obtain ⟨b1,b2,b3,rfl,q⟩:=nu_run hB hM hBM St t2 hza hl' h (.int .i64 d.po) rfl (fun x d=>{ d with po:=x }) (fun z=>⟨rfl,rfl,rfl⟩);exact tk_num_more hB hM hBM St Mn kPol a b1 b2 b3 hk hf (by decide) hs g o cap h1 (by omega) hc hl' q
    · by_cases hs:kTim ∈ seen
      · obtain ⟨b1,b2,b3,rfl,_⟩:=h;exact tk_num_twice hB hM hBM St Mn kTim a b1 b2 b3 hk hf (by decide) hs hcn g o cap hc hl'
      · by_cases h1:cap=1
        · obtain rfl:=w1 h1;subst h1;obtain ⟨b1,b2,b3,rfl,q⟩:=nu_run hB hM hBM St t1 hza (by simp) h (.int .i64 d.ti) rfl (fun x d=>{ d with ti:=x }) (fun z=>⟨rfl,rfl,rfl⟩);exact tk_num_one hB hM hBM St Mn kTim b1 b2 b3 hk hf (by decide) hs g o hc q
        · obtain ⟨b1,b2,b3,rfl,q⟩:=nu_run hB hM hBM St t2 hza hl' h (.int .i64 d.ti) rfl (fun x d=>{ d with ti:=x }) (fun z=>⟨rfl,rfl,rfl⟩);exact tk_num_more hB hM hBM St Mn kTim a b1 b2 b3 hk hf (by decide) hs g o cap h1 (by omega) hc hl' q
    · by_cases hs:kRet ∈ seen
      · obtain ⟨b1,b2,b3,rfl,_⟩:=h;exact tk_num_twice hB hM hBM St Mn kRet a b1 b2 b3 hk hf (by decide) hs hcn g o cap hc hl'
      · by_cases h1:cap=1
        · obtain rfl:=w1 h1;subst h1;obtain ⟨b1,b2,b3,rfl,q⟩:=nu_run hB hM hBM St t1 hza (by simp) h (.int .i64 d.re) rfl (fun x d=>{ d with re:=x }) (fun z=>⟨rfl,rfl,rfl⟩);exact tk_num_one hB hM hBM St Mn kRet b1 b2 b3 hk hf (by decide) hs g o hc q
        · obtain ⟨b1,b2,b3,rfl,q⟩:=nu_run hB hM hBM St t2 hza hl' h (.int .i64 d.re) rfl (fun x d=>{ d with re:=x }) (fun z=>⟨rfl,rfl,rfl⟩);exact tk_num_more hB hM hBM St Mn kRet a b1 b2 b3 hk hf (by decide) hs g o cap h1 (by omega) hc hl' q
    · by_cases hs:kAge ∈ seen
      · obtain ⟨b1,b2,b3,rfl,_⟩:=h;exact tk_num_twice hB hM hBM St Mn kAge a b1 b2 b3 hk hf (by decide) hs hcn g o cap hc hl'
      · by_cases h1:cap=1
        · obtain rfl:=w1 h1;subst h1;obtain ⟨b1,b2,b3,rfl,q⟩:=nu_run hB hM hBM St t1 hza (by simp) h (.int .i64 d.ag) rfl (fun x d=>{ d with ag:=x }) (fun z=>⟨rfl,rfl,rfl⟩);exact tk_num_one hB hM hBM St Mn kAge b1 b2 b3 hk hf (by decide) hs g o hc q
        · obtain ⟨b1,b2,b3,rfl,q⟩:=nu_run hB hM hBM St t2 hza hl' h (.int .i64 d.ag) rfl (fun x d=>{ d with ag:=x }) (fun z=>⟨rfl,rfl,rfl⟩);exact tk_num_more hB hM hBM St Mn kAge a b1 b2 b3 hk hf (by decide) hs g o cap h1 (by omega) hc hl' q
    · by_cases hs:kSta ∈ seen
      · subst h;exact tk_sta_twice hB hM hBM St Mn kSta a hk hf (by decide) hs hcn g o cap hc hl'
      · subst h
        by_cases h1:cap=1
        · obtain rfl:=w1 h1;subst h1;exact tk_sta_one hB hM hBM St Mn kSta hk hf (by decide) hs g o hc (sta_run hB hM hBM St t1 hza (by simp))
        · exact tk_sta_more hB hM hBM St Mn kSta a hk hf (by decide) hs g o cap h1 (by omega) hc hl' (sta_run hB hM hBM St t2 hza hl')
    · by_cases hs:kEsc ∈ seen
      · subst h;exact tk_esc_twice hB hM hBM St Mn kEsc a hk hf (by decide) hs hcn g o cap hc hl'
      · subst h
        by_cases h1:cap=1
        · obtain rfl:=w1 h1;subst h1;exact tk_esc_one hB hM hBM St Mn kEsc hk hf (by decide) hs g o hc (esc_run hB hM hBM St t1 hza (by simp))
        · exact tk_esc_more hB hM hBM St Mn kEsc a hk hf (by decide) hs g o cap h1 (by omega) hc hl' (esc_run hB hM hBM St t2 hza hl')
    · by_cases hs:kReq ∈ seen
      · subst h;exact tk_req_twice hB hM hBM St Mn kReq a hk hf (by decide) hs hcn g o cap hc hl'
      · subst h
        by_cases h1:cap=1
        · obtain rfl:=w1 h1;subst h1;exact tk_req_one hB hM hBM St Mn kReq hk hf (by decide) hs g o hc (req_run hB hM hBM St t1 hza (by simp))
        · exact tk_req_more hB hM hBM St Mn kReq a hk hf (by decide) hs g o cap h1 (by omega) hc hl' (req_run hB hM hBM St t2 hza hl')
    · subst h
      by_cases h8:d.fs.length=8
      · exact tk_fie_full hB hM hBM St Mn a hf h8 Sn.cnt g o cap hc hl'
      · by_cases h1:cap=1
        · obtain rfl:=w1 h1;subst h1;exact tk_fie_one hB hM hBM St Mn hf (by omega) Sn.cnt g o hc (fie_run hB hM hBM hL St t1 hza (by simp) hm8)
        · exact tk_fie_more hB hM hBM St Mn a hf (by omega) Sn.cnt g o cap h1 (by omega) hc hl' (fie_run hB hM hBM hL St t2 hza hl' hm8)
end
end Go.Proofs.YthabffjgdhfbmaaGreatDoor
namespace Go.Proofs.YthabffjgdhfbmaaGreatDoor
open Go.RowKit Go.ChangeMaps
theorem heap_set_neD (w:World) (r i:Nat) (o:Obj) (h:i ≠ r):(setBlock w r o).heap[i]?=w.heap[i]?:=by simp [setBlock,Ne.symm h]
theorem heap_set_eqD (w:World) (r:Nat) (o:Obj) (h:r < w.heap.size):(setBlock w r o).heap[r]?=some o:=by simp [setBlock,h]
structure LkRun (x y:World) (G:Nat) (ms:Array MapEntry) (c:Nat) (seen:List Wd) (s:Array Nat):Prop where
 it:y.heap[x.heap.size]?=some (.mapIter (some G) c s c)
 b:Below x.heap.size x y
 ok:∀ e ∈ ms.toList,s.contains e.born=true→∀ f,e.key=.string (txt f)→f=kFie ∨ f ∈ seen
def NxFD (H:Nat) (y:World):Prop:=∀ ty,(Instr.next (.pointer (some ⟨H,0,none⟩)) false ty).run Tryz.prog y=.ok (.tuple #[.bool false]) y
def NxTD (H:Nat) (y y2:World) (f:Wd) (v:Value):Prop:=∀ ty,(Instr.next (.pointer (some ⟨H,0,none⟩)) false ty).run Tryz.prog y=.ok (.tuple #[.bool true,.string (txt f),v]) y2
def EnTD (H:Nat) (y2:World) (f:Wd) (v:Value):Prop:=(Instr.entry (.pointer (some ⟨H,0,none⟩))).run Tryz.prog y2=.ok (.tuple #[.string (txt f),v]) y2
section
variable {N B M:Nat} {x:World} {G:Nat} {ms:Array MapEntry} {c:Nat} (Mn:MeanOk N B M x G ms c) {seen:List Wd}
include Mn
theorem LkRun.next {y:World} {s:Array Nat} (h:LkRun x y G ms c seen s):((leftOf ms s).size=0∧NxFD x.heap.size y) ∨
 ∃ f v,(f ∈ tenK ∨ f=kFie)∧∃ y2 j,NxTD x.heap.size y y2 f v∧EnTD x.heap.size y2 f v∧(leftOf ms (s.push j)).size < (leftOf ms s).size∧Below x.heap.size x y2∧((f=kFie ∨ f ∈ seen)→LkRun x y2 G ms c seen (s.push j)):=by
 have hG:G < x.heap.size:=(Array.getElem?_eq_some_iff.1 Mn.at_).1;have hmp:y.heap[G]?=some (.map ms c):=(h.b.block G hG).trans Mn.at_;rcases run_next_at (P:=Tryz.prog) y 0 x.heap.size G c c s ms c h.it hmp Mn.lt (Nat.le_refl _) with ⟨h0,hr⟩ | ⟨e,he,w1,hw1,hr⟩
 · exact .inl ⟨h0,fun _=>hr⟩
 · have hm:=(mem_left he).1;obtain ⟨i,hi⟩:=List.mem_iff_getElem?.1 hm;obtain ⟨f,hf1,hf2,_⟩:=Mn.val i e (by rwa [Array.getElem?_toList] at hi);have sh:=left_shrinks _ _ _ he;have hd:w1.heap=y.heap:=by rcases hw1 with rfl | rfl <;> rfl
   have hB:Below x.heap.size x w1:=by
    rcases hw1 with rfl | rfl
    · exact h.b
    · exact h.b.drew
   have hl:x.heap.size < w1.heap.size:=by rw [hd]; exact (Array.getElem?_eq_some_iff.1 h.it).1
   have b2:Below x.heap.size x (setBlock w1 x.heap.size (.mapIter (some G) c (s.push e.born) c)):=⟨hB.os,hB.tape,hB.output,by simp only [setBlock,Array.size_setIfInBounds]; exact hB.size,fun k hk=>by rw [heap_set_neD _ _ _ _ (by omega)]; exact hB.block k hk⟩;refine .inr ⟨f,e.val,hf1,_,e.born,fun ty=>by rw [← hf2]; exact hr,?_,sh,b2,fun hs=>⟨heap_set_eqD _ _ _ hl,b2,fun e' he' hc f' hf'=>?_⟩⟩
   · unfold EnTD;rw [← hf2];refine run_entry_at (P:=Tryz.prog) _ x.heap.size G c s ms c e (heap_set_eqD _ _ _ hl) ?_ hm Mn.born;rw [heap_set_neD _ _ _ _ (by omega),hd]; exact hmp
   · rw [contains_push] at hc
     by_cases hb:e'.born=e.born
     · have hee:e'=e:=by
        obtain ⟨i',hi'⟩:=List.mem_iff_getElem?.1 he';have hnd:=Mn.born;have h1:(ms.toList.map (·.born))[i']?=some e.born:=by rw [List.getElem?_map,hi']; simp [hb]
        have h2:(ms.toList.map (·.born))[i]?=some e.born:=by rw [List.getElem?_map,hi]; rfl
        have hii:i'=i:=by
         obtain ⟨p1,q1⟩:=List.getElem?_eq_some_iff.1 h1;obtain ⟨p2,q2⟩:=List.getElem?_eq_some_iff.1 h2;rcases Nat.lt_trichotomy i' i with hlt | heq | hgt
         · exact absurd (q1.trans q2.symm) (List.pairwise_iff_getElem.1 hnd i' i p1 p2 hlt)
         · exact heq
         · exact absurd (q2.trans q1.symm) (List.pairwise_iff_getElem.1 hnd i i' p2 p1 hgt)
        rw [hii,hi] at hi';exact (Option.some.inj hi').symm
       rw [hee,hf2] at hf';injection hf' with hf'
       rw [← txt_inj hf'];exact hs
     · have:(e'.born == e.born)=false:=by simpa using hb
       rw [this,Bool.or_false] at hc;exact h.ok e' he' hc f' hf'
theorem LkRun.done {y:World} {s:Array Nat} (h:LkRun x y G ms c seen s) (h0:(leftOf ms s).size=0):lackB seen=false:=by
 unfold lackB;rw [decide_eq_false_iff_not];rintro ⟨k,hk,hn⟩;obtain ⟨i,e,he,hke⟩:=Mn.has k (.inl hk);have hm:e ∈ ms.toList:=List.mem_of_getElem? (i:=i) (by rw [Array.getElem?_toList]; exact he);rcases h.ok e hm (all_seen _ _ h0 _ hm) k hke with hf | hs
 · exact tenK_nf k hk hf
 · exact hn hs
def x_lk (H:Nat) (y:World) (s:Array Nat) (ms:Array MapEntry) (j:Nat):Prop:=y.iterSeen H=s∧(leftOf ms (s.push j)).size < (leftOf ms s).size
omit Mn in
theorem LkRun.seen_ {y:World} {s:Array Nat} (h:LkRun x y G ms c seen s):y.iterSeen x.heap.size=s:=by
 unfold World.iterSeen; rw [h.it]
theorem lacks_any (hB:B < N) (hM:M < N) (hBM:B ≠ M) {d:Dv} {fv qv:Value} (St:DsSt N B M x d fv qv seen) (hsl:(seen.length:Int)≤5000) :
 Calls Tryz.prog 77 #[.pointer (some ⟨B,0,none⟩),.map (some G)] x fun e y=>e=.returned (.bool (lackB seen))∧Below x.heap.size x y:=by
 have r3:(Instr.range 139 (.map (some G))).run Tryz.prog x=.ok (.pointer (some ⟨x.heap.size,0,none⟩)) (x.alloc (.mapIter (some G) c #[] c)):=run_range_map (P:=Tryz.prog) x 139 9 175 G ms c Tryz.underlying139 Mn.at_;have S0:Hid (LkRun x (x.alloc (.mapIter (some G) c #[] c)) G ms c seen #[]):=⟨World.alloc_heap_new x _,(Below.refl _ _).alloc (Nat.le_refl _) _,fun e _ h=>(by simp at h)⟩;have lc:Hid (∀ f y,Below x.heap.size x y→(Instr.lookup 136 (.map (some M)) (.string (txt f)) false).run Tryz.prog y=.ok (.int .i64 ((seen.count f:Nat):Int)) y):=fun f y hb=>(saw_run hB hM hBM (St.below hB hM hb) f).1
 have c12:Hid (∀ y,Below x.heap.size x y→y.cell? ⟨B,12,none⟩=some (.map (some M))):=fun y hb=>kp hb ((rd_cell St.rd 12).1.trans rfl)
 have nx0:Hid (∀ y s,LkRun x y G ms c seen s→((leftOf ms s).size=0∧NxFD x.heap.size y∧lackB seen=false) ∨ ∃ f v,(f ∈ tenK ∨ f=kFie)∧∃ y2 j,NxTD x.heap.size y y2 f v∧EnTD x.heap.size y2 f v∧(leftOf ms (s.push j)).size < (leftOf ms s).size∧Below x.heap.size x y2∧((f=kFie ∨ f ∈ seen)→LkRun x y2 G ms c seen (s.push j))):=fun y s h=>by
  rcases h.next Mn with ⟨h0,h1⟩ | h1
  · exact .inl ⟨h0,h1,h.done Mn h0⟩
  · exact .inr h1
 have LK:Hid (∀ f,f ∈ tenK→seen.count f=0→lackB seen=true):=fun f hf hc=>decide_eq_true ⟨f,hf,List.count_eq_zero.1 hc⟩
 generalize x.alloc (.mapIter (some G) c #[] c)=x0 at *;clear Mn St
 go_enter Tryz.func77,Tryz.ntmps77
 go_wp2
 go_loopw [] (fun wr=>∃ s,Hid (LkRun x wr G ms c seen s)) (fun wr=>(leftOf ms (wr.iterSeen x.heap.size)).size)
 case atStart=>exact ⟨_,S0⟩
 case round=>
  obtain ⟨s,st⟩:=hrel;clear S0 r3;rcases nx0.out _ _ st.out with ⟨h0,nx,hl⟩ | ⟨f,v,hf,y2,j,nx,en,sh,hb2,ag⟩
  · have Bx:Hid (Below x.heap.size x wr):=st.out.b;have hl':Hid (lackB seen=false):=hl;unfold NxFD at nx;clear st h0 hl nx0 LK lc c12;go_wp2;go_ret;exact ⟨by rw [hl'.out]; rfl,Bx.out⟩
  · have sn:=st.out.seen_;have M0:Hid (x_lk x.heap.size wr s ms j):=⟨sn,sh⟩;have l1:=lc.out f y2 hb2;have cB:=c12.out y2 hb2;replace hb2:Hid (Below x.heap.size x y2):=hb2;replace ag:Hid ((f=kFie ∨ f ∈ seen)→LkRun x y2 G ms c seen (s.push j)):=ag;have hcl:(seen.count f:Int)≤5000:=by have:=List.count_le_length (a:=f) (l:=seen); omega
    unfold NxTD at nx;unfold EnTD at en;clear st sh sn nx0 lc c12
    by_cases hfk:f=kFie
    · subst hfk;have P1:Hid (LkRun x y2 G ms c seen (s.push j)):=ag.out (.inl rfl);replace nx:∀ ty,(Instr.next (.pointer (some ⟨x.heap.size,0,none⟩)) false ty).run Tryz.prog wr=.ok (.tuple #[.bool true,.string ⟨#[102,105,101,108,100]⟩,v]) y2:=nx;replace en:(Instr.entry (.pointer (some ⟨x.heap.size,0,none⟩))).run Tryz.prog y2=.ok (.tuple #[.string ⟨#[102,105,101,108,100]⟩,v]) y2:=en;clear ag l1 LK;go_wp2;exact ⟨⟨_,P1⟩,by rw [P1.out.seen_,M0.out.1]; exact M0.out.2⟩
    · have n1:(txt f == ⟨#[102,105,101,108,100]⟩)=false:=by rw [← fie_txt,txt_beq]; exact decide_eq_false hfk
      have n2:((txt f).toList == [102,105,101,108,100])=false:=by
       rw [beq_eq_false_iff_ne];intro h;apply hfk;rw [ByteArray.toList_eq] at h;exact h
      by_cases hc0:seen.count f=0
      · have LL:Hid (lackB seen=true):=LK.out f (hf.resolve_right hfk) hc0;rw [hc0] at l1;clear ag LK hf hc0;go_wp2;go_ret;exact ⟨by rw [LL.out]; rfl,hb2.out⟩
      · have P1:Hid (LkRun x y2 G ms c seen (s.push j)):=ag.out (.inr (List.count_pos_iff.1 (by omega)));have ne0:((seen.count f:Int) == 0)=false:=beq_eq_false_iff_ne.2 (by omega);clear ag LK hf hc0;generalize (seen.count f:Nat)=cnt at *;go_wp2;exact ⟨⟨_,P1⟩,by rw [P1.out.seen_,M0.out.1]; exact M0.out.2⟩
end
end Go.Proofs.YthabffjgdhfbmaaGreatDoor
namespace Go.Proofs.YthabffjgdhfbmaaGreatDoor
open Go.RowKit
theorem mean_ok {w z:World} {B M:Nat} {x:Array Bool} {G:Nat} {ms:Array MapEntry} {c:Nat} (h:MkMap w.heap.size B x z G ms c) (hall:∀ j f,insK j=some f→x.getD j false=true) (hB:B < w.heap.size) (hM:M < w.heap.size):MeanOk z.heap.size B M z G ms c:=by
 have hk:∀ {b:Nat} {v:Value},z.cell? ⟨b,0,none⟩=some v→w.heap.size≤b→b < z.heap.size∧b ≠ B∧b ≠ M:=fun {b v} hc hb=>⟨block_lt_of_cell hc,by omega,by omega⟩
 have nm:∀ {k:Nat} {v:Value},NmG w.heap.size B z k v→NmF z z.heap.size B M k v:=fun {k v} hh=>by
  obtain ⟨b,h1,h2,h3⟩:=hh;exact ⟨b,h1,h2,hk h2 h3⟩
 have nu:∀ {k:Nat} {lo hi:Int} {v:Value},NuG w.heap.size B z k lo hi v→NuF z z.heap.size B M k lo hi v:=fun {k lo hi v} hh=>by
  obtain ⟨b1,b2,b3,h0,h1,h2,h3,h4,h5,h6⟩:=hh;exact ⟨b1,b2,b3,h0,h1,h2,h3,hk h1 h4,hk h2 h5,hk h3 h6⟩
 have mn:∀ {f:Wd} {v:Value},MnG w.heap.size B z f v→MnF z z.heap.size B M f v:=fun {f v} hh=>by
  rcases hh with ⟨e,h⟩ | ⟨e,h⟩ | ⟨e,h⟩ | ⟨e,h⟩ | ⟨e,h⟩ | ⟨e,h⟩ | ⟨e,h⟩ | ⟨e,h⟩ | ⟨e,h⟩ | ⟨e,h⟩ | ⟨e,h⟩
  · exact .inl ⟨e,nm h⟩
  · exact .inr (.inl ⟨e,nm h⟩)
  · exact .inr (.inr (.inl ⟨e,nu h⟩))
  · exact .inr (.inr (.inr (.inl ⟨e,nu h⟩)))
  · exact .inr (.inr (.inr (.inr (.inl ⟨e,nu h⟩))))
  · exact .inr (.inr (.inr (.inr (.inr (.inl ⟨e,nu h⟩)))))
  · exact .inr (.inr (.inr (.inr (.inr (.inr (.inl ⟨e,nu h⟩))))))
  · exact .inr (.inr (.inr (.inr (.inr (.inr (.inr (.inl ⟨e,h⟩)))))))
  · exact .inr (.inr (.inr (.inr (.inr (.inr (.inr (.inr (.inl ⟨e,h⟩))))))))
  · exact .inr (.inr (.inr (.inr (.inr (.inr (.inr (.inr (.inr (.inl ⟨e,h⟩)))))))))
  · exact .inr (.inr (.inr (.inr (.inr (.inr (.inr (.inr (.inr (.inr ⟨e,h⟩)))))))))
 have kn:∀ {j:Nat} {f:Wd},insK j=some f→f ∈ tenK ∨ f=kFie:=fun {j f} hj=>by
  unfold insK at hj
  split at hj <;> first | (cases hj; decide) | cases hj
 refine ⟨h.at_,⟨(Array.getElem?_eq_some_iff.1 h.at_).1,by have:=h.lo; omega,by have:=h.lo; omega⟩,fun i e he=>?_,fun f hf=>?_,h.born,h.lt⟩
 · obtain ⟨j,f,h1,_,h3,h4⟩:=h.val i e he;exact ⟨f,kn h1,h3,mn h4⟩
 · have:∃ j,insK j=some f:=by
    rcases hf with hf | hf
    · simp only [tenK,List.mem_cons,List.not_mem_nil,or_false] at hf;rcases hf with rfl | rfl | rfl | rfl | rfl | rfl | rfl | rfl | rfl | rfl
      · exact ⟨5,rfl⟩
      · exact ⟨8,rfl⟩
      · exact ⟨11,rfl⟩
      · exact ⟨16,rfl⟩
      · exact ⟨21,rfl⟩
      · exact ⟨27,rfl⟩
      · exact ⟨32,rfl⟩
      · exact ⟨37,rfl⟩
      · exact ⟨42,rfl⟩
      · exact ⟨47,rfl⟩
    · subst hf; exact ⟨24,rfl⟩
   obtain ⟨j,hj⟩:=this;exact h.has j f hj (hall j f hj)
def RowC (x:World) (g a:Nat) (L0:Nat) (r:Lr):Prop:=x.cell? ⟨g,a,none⟩=some (.int .i64 r.1)∧∃ u,x.cell? ⟨g,a + 1,none⟩=some u∧WdsAt L0 x u r.2
def RowsC (L0:Nat) (x:World) (v:Value) (rs:List Lr):Prop:=(v=.slice none 0 0∧rs=[]) ∨ ∃ g o cap,v=.slice (some ⟨g,o,none⟩) rs.length cap∧(∀ j (h:j < rs.length),RowC x g (o + 2 * j) L0 rs[j])∧g < L0
theorem WdsAt.below {L0:Nat} {x y:World} {v:Value} {ws:List Wd} (h:WdsAt L0 x v ws) (hb:Below L0 x y):WdsAt L0 y v ws:=by
 rcases h with h | ⟨g,o,cap,h1,h2,h3,h4⟩
 · exact .inl h
 · exact .inr ⟨g,o,cap,h1,h2,fun j hj=>(hb.cell (p:=⟨g,o + j,none⟩) h4).trans (h3 j hj),h4⟩
theorem RowsC.below {L0:Nat} {x y:World} {v:Value} {rs:List Lr} (h:RowsC L0 x v rs) (hb:Below L0 x y):RowsC L0 y v rs:=by
 rcases h with h | ⟨g,o,cap,h1,h2,h3⟩
 · exact .inl h
 · refine .inr ⟨g,o,cap,h1,fun j hj=>?_,h3⟩;obtain ⟨q1,u,q2,q3⟩:=h2 j hj;exact ⟨(hb.cell (p:=⟨g,o + 2 * j,none⟩) h3).trans q1,u,(hb.cell (p:=⟨g,o + 2 * j + 1,none⟩) h3).trans q2,q3.below hb⟩
def LeftR (d:Dv) (seen:List Wd) (rs:List Lr) (T:Dv × Int × Nat):Prop:=goM d seen rs=T
theorem LeftR.bad {d:Dv} {seen:List Wd} {r:Lr} {rs:List Lr} {T:Dv × Int × Nat} (h:LeftR d seen (r :: rs) T) {n:Nat} (hn:stepM d seen r.2=.error n):T=(dv0,r.1,n):=by
 unfold LeftR at h; rw [← h,goM,hn]
theorem LeftR.good {d d':Dv} {seen:List Wd} {r:Lr} {rs:List Lr} {T:Dv × Int × Nat} (h:LeftR d seen (r :: rs) T) (hn:stepM d seen r.2=.ok d'):LeftR d' (seen ++ [r.2.headD []]) rs T:=by
 unfold LeftR at *; rw [← h,goM,hn]
theorem LeftR.fin {d:Dv} {seen:List Wd} {T:Dv × Int × Nat} (h:LeftR d seen [] T):T=if lackB seen=true then (dv0,0,9) else (d,0,0):=h.symm
def ReadQ (w:World) (T:Dv × Int × Nat) (e:Ending) (y:World):Prop:=∃ fv qv,e=.returned (.tuple #[dvV T.1 fv qv,.int .i64 T.2.1,.int .i64 ((T.2.2:Nat):Int)])∧FldsAt y fv T.1.fs∧BytesAt y qv T.1.rq∧Below w.heap.size w y∧(∀ g,fv.ownBlock=some g→w.heap.size≤g)∧∀ g,qv.ownBlock=some g→w.heap.size≤g
end Go.Proofs.YthabffjgdhfbmaaGreatDoor
namespace Go.Proofs.YthabffjgdhfbmaaGreatDoor
open Go.ChangeShapes Go.WideShapes Go.ChangeAt Go.RowKit
open Go.Deep (open_slice_pairs open_strs)
theorem WdsAt.up {L0 L1:Nat} {x:World} {v:Value} {ws:List Wd} (h:WdsAt L0 x v ws) (hl:L0≤L1):WdsAt L1 x v ws:=by
 rcases h with h | ⟨g,o,cap,h1,h2,h3,h4⟩
 · exact .inl h
 · exact .inr ⟨g,o,cap,h1,h2,h3,by omega⟩
theorem RowsC.form {L0:Nat} {x:World} {v:Value} {rs:List Lr} (h:RowsC L0 x v rs):∃ p cap,v=.slice p rs.length cap:=by
 rcases h with ⟨rfl,rfl⟩ | ⟨g,o,cap,rfl,_⟩
 · exact ⟨_,_,rfl⟩
 · exact ⟨_,_,rfl⟩
theorem RowsC.at {L0:Nat} {w x:World} {p:Option Addr} {n cap:Nat} {rs:List Lr} (h:RowsC L0 w (.slice p n cap) rs) (hl:rs.length=n) (hb:Below L0 w x) {i:Nat} (hi:i < n) :
 ∃ g o pu cu,p=some ⟨g,o,none⟩∧g < L0∧x.cell? ⟨g,o + i * 2,none⟩=some (.int .i64 (rs[i]'(by omega)).1)∧x.cell? ⟨g,o + i * 2 + 1,none⟩=some (.slice pu (rs[i]'(by omega)).2.length cu)∧WdsAt L0 x (.slice pu (rs[i]'(by omega)).2.length cu) (rs[i]'(by omega)).2:=by
 rcases h with ⟨_,rfl⟩ | ⟨g,o,cap',e,h2,h3⟩
 · simp at hl; omega
 · injection e with e1 e2 e3
   subst e1;obtain ⟨q1,u,q2,q3⟩:=h2 i (by omega);obtain ⟨pu,cu,rfl⟩:=q3.form;rw [Nat.mul_comm 2 i] at q1 q2;exact ⟨g,o,pu,cu,rfl,h3,(hb.cell (p:=⟨g,o + i * 2,none⟩) h3).trans q1,(hb.cell (p:=⟨g,o + i * 2 + 1,none⟩) h3).trans q2,q3.below hb⟩
end Go.Proofs.YthabffjgdhfbmaaGreatDoor
namespace Go.Proofs.YthabffjgdhfbmaaGreatDoor
open Go.RowKit
theorem ibn_any (s:ByteArray) (w:World) :
 Calls Tryz.prog 151 #[.string s,.int .u8 10] w fun e w'=>e=.returned (.int .i64 (Lib.indexByte s.data.toList 10))∧w'=w:=by
 go_enter Tryz.func151,Tryz.ntmps151
 go_wp2;rw [run_callFunc_extern Tryz.func161 (by kernel_rfl) (by kernel_rfl) (by kernel_rfl) (e:=Extern.BytealgIndexByte.indexByte) (by kernel_rfl),Lib.run_indexByteString];simp only [Result.andThen];rw [Oper.upon_value];go_wp2;go_ret;exact ⟨rfl,rfl⟩
theorem indexn_any (s:ByteArray) (w:World) :
 Calls Tryz.prog 141 #[.string s,.string ⟨#[10]⟩] w fun e w'=>e=.returned (.int .i64 (Lib.indexByte s.data.toList 10))∧w'=w:=by
 go_enter Tryz.func141,Tryz.ntmps141
 go_wp2_with (go_at_call 151; refine (ibn_any _ _).mono ?_; rintro e w' ⟨rfl,rfl⟩)
 · have h:([10] == s.toList)=true:=by assumption
   go_ret;refine ⟨?_,rfl⟩;have e:s.data.toList=[10]:=by rw [← ByteArray.toList_eq]; exact (beq_iff_eq.1 h).symm
   rw [e];rfl
 · go_ret;exact ⟨rfl,rfl⟩
theorem nl_ways (s:ByteArray):(Lib.indexByte s.data.toList 10=-1∧(10:UInt8) ∉ s.data.toList) ∨ ∃ i:Nat,Lib.indexByte s.data.toList 10=(i:Int)∧i + 1≤s.size∧s.data.toList[i]?=some 10∧∀ k,k < i→s.data.toList[k]? ≠ some 10:=by
 have hg:=Lib.indexByte_ge s.data.toList 10
 by_cases h:Lib.indexByte s.data.toList 10=-1
 · left
   refine ⟨h,fun hm=>?_⟩;obtain ⟨k,hk⟩:=List.mem_iff_getElem?.1 hm;exact Lib.indexByte_none h k hk
 · right
   refine ⟨(Lib.indexByte s.data.toList 10).toNat,by omega,?_⟩;have:=Lib.indexByte_some (l:=s.data.toList) (c:=10) (o:=(Lib.indexByte s.data.toList 10).toNat) (by omega);refine ⟨?_,this⟩;have hl:=(List.getElem?_eq_some_iff.1 this.1).1;have:s.data.toList.length=s.size:=by simp
   omega
def lnU (s:ByteArray):ByteArray:=if Lib.indexByte s.data.toList 10=-1 then s else s.extract 0 (Lib.indexByte s.data.toList 10).toNat
def lnV (s:ByteArray):ByteArray:=if Lib.indexByte s.data.toList 10=-1 then ByteArray.empty else s.extract ((Lib.indexByte s.data.toList 10).toNat + 1) s.size
def lnB (s:ByteArray):Bool:=!decide (Lib.indexByte s.data.toList 10=-1)
theorem ret_ssbn {a b c d:ByteArray} {x y:Bool} (h:c=a∧d=b∧y=x):Ending.returned (.tuple #[.string a,.string b,.bool x])=.returned (.tuple #[.string c,.string d,.bool y]):=by rw [h.1,h.2.1,h.2.2]
theorem lcutn_any (s:ByteArray) (w:World) (hs:s.size≤maxLen) :
 Calls Tryz.prog 122 #[.string s,.string ⟨#[10]⟩] w fun e w'=>e=.returned (.tuple #[.string (lnU s),.string (lnV s),.bool (lnB s)])∧∃ n,w'=w.drewN n:=by
 have f:Hid (∀ w,Calls Tryz.prog 141 #[.string s,.string ⟨#[10]⟩] w fun e w'=>e=.returned (.int .i64 (Lib.indexByte s.data.toList 10))∧w'=w):=fun w=>indexn_any s w
 unfold maxLen at hs;rcases nl_ways s with ⟨h,_⟩ | ⟨i,h,hi,_⟩
 · have H:Hid (lnU s=s∧lnV s=ByteArray.empty∧lnB s=false):=by
    unfold Hid lnU lnV lnB; simp [h]
   rw [h] at f;clear h
   go_enter Tryz.func122,Tryz.ntmps122
   go_wp2_with fail
   refine (f.out _).mono ?_;rintro e w' ⟨rfl,rfl⟩;clear f;go_wp2
   go_ret3
   exact ⟨ret_ssbn H.out,0,rfl⟩
 · have H:Hid (lnU s=s.extract 0 i∧lnV s=s.extract (i + 1) s.size∧lnB s=true):=by
    have h2:¬ ((i:Int)=-1):=by omega
    unfold Hid lnU lnV lnB; rw [h]; simp [h2]
   rw [h] at f;clear h;have c1:(0:Int)≤(i:Int):=by omega
   have c2:(i:Int)≤(s.size:Int):=by omega
   have c3:(0:Int)≤(i:Int) + 1:=by omega
   have c4:(i:Int) + 1≤(s.size:Int):=by omega
   go_enter Tryz.func122,Tryz.ntmps122
   go_wp2_with fail
   refine (f.out _).mono ?_;rintro e w' ⟨rfl,rfl⟩;clear f;go_wp2
   go_region
   go_wp2
   go_ret3
   exact ⟨ret_ssbn H.out,1,rfl⟩
theorem scutn_any (s:ByteArray) (w:World) (hs:s.size≤maxLen) :
 Calls Tryz.prog 98 #[.string s,.string ⟨#[10]⟩] w fun e w'=>e=.returned (.tuple #[.string (lnU s),.string (lnV s),.bool (lnB s)])∧∃ n,w'=w.drewN n:=by
 have f:Hid (∀ w,Calls Tryz.prog 122 #[.string s,.string ⟨#[10]⟩] w fun e w'=>e=.returned (.tuple #[.string (lnU s),.string (lnV s),.bool (lnB s)])∧∃ n,w'=w.drewN n):=fun w=>lcutn_any s w hs
 generalize lnU s=u at *;generalize lnV s=v at *;generalize lnB s=b at *;clear hs
 go_enter Tryz.func98,Tryz.ntmps98
 go_wp2_with fail
 refine (f.out _).mono ?_;rintro e w' ⟨rfl,n,rfl⟩;clear f;go_wp2
 go_ret3
 exact ⟨rfl,n,rfl⟩
theorem cutn_sizes (s:ByteArray):(lnU s).size≤s.size∧(lnV s).size≤s.size:=by
 unfold lnU lnV
 split
 · exact ⟨Nat.le_refl _,by simp⟩
 · constructor
   · rw [ByteArray.size_extract]; omega
   · rw [ByteArray.size_extract]; omega
def linesL:List UInt8→List Wd
 | []=>[[]]
 | c :: r=>if c=10 then [] :: linesL r else (match linesL r with | []=>[ [c] ] | h :: t=>(c :: h) :: t)
theorem lines_ne:∀ l:List UInt8,¬ linesL l=[]
 | []=>by simp [linesL]
 | c :: r=>by
  unfold linesL
  split
  · simp
  · split <;> simp
theorem lines_none:∀ (l:List UInt8),10 ∉ l→linesL l=[l]
 | [],_=>rfl
 | c :: r,h=>by
  rw [linesL,if_neg (fun e=>h (by rw [e]; simp)),lines_none r (fun e=>h (List.mem_cons_of_mem _ e))]
theorem lines_cut:∀ (a b:List UInt8),10 ∉ a→linesL (a ++ 10 :: b)=a :: linesL b
 | [],b,_=>by rw [List.nil_append,linesL,if_pos rfl]
 | c :: r,b,h=>by
  rw [List.cons_append,linesL,if_neg (fun e=>h (by rw [e]; simp)),lines_cut r b (fun e=>h (List.mem_cons_of_mem _ e))]
theorem lines_len:∀ l:List UInt8,(linesL l).length≤l.length + 1
 | []=>Nat.le_refl _
 | c :: r=>by
  have ih:=lines_len r;rw [linesL]
  split
  · simpa using ih
  · split
    · simp
    · rename_i h t e
      rw [e] at ih;simp at ih ⊢;omega
theorem lines_in:∀ (l:List UInt8),∀ r ∈ linesL l,10 ∉ r∧r.length≤l.length
 | [],r,h=>by
  simp [linesL] at h;subst h;simp
 | c :: l,r,h=>by
  have ih:=lines_in l;rw [linesL] at h
  split at h
  · rcases List.mem_cons.1 h with h | h
    · subst h; simp
    · obtain ⟨h1,h2⟩:=ih r h;exact ⟨h1,by simp; omega⟩
  · rename_i hc
    split at h
    · simp at h;subst h;exact ⟨by simp; exact fun e=>hc e.symm,by simp⟩
    · rename_i a t e
      rw [e] at ih;rcases List.mem_cons.1 h with h | h
      · subst h;obtain ⟨h1,h2⟩:=ih a (by simp);refine ⟨?_,by simp; omega⟩;intro hm;rcases List.mem_cons.1 hm with hm | hm
        · exact hc hm.symm
        · exact h1 hm
      · obtain ⟨h1,h2⟩:=ih r (List.mem_cons_of_mem _ h);exact ⟨h1,by simp; omega⟩
def priC (c:UInt8):Bool:=decide (32≤c.toNat∧c.toNat≤126)
def priB (l:List UInt8):Bool:=l.all priC
theorem priB_stop {l:List UInt8} {k:Nat} (h:k < l.length) (hc:priC l[k]=false):priB l=false:=by
 unfold priB;rw [List.all_eq_false];exact ⟨l[k],List.getElem_mem h,by rw [hc]; simp⟩
theorem priB_next {l:List UInt8} {k:Nat} (h:k < l.length) (ha:priB (l.take k)=true) (hc:priC l[k]=true):priB (l.take (k + 1))=true:=by
 unfold priB at *;rw [← List.take_append_getElem h,List.all_append,ha];simp [hc]
theorem pri_sp {c:UInt8} (h:priC c=true):Lib.isSp c=(c == 32):=by
 have h1:=of_decide_eq_true h;have key:∀ n:Fin 256,32≤n.1→Lib.isSp (UInt8.ofNat n.1)=(UInt8.ofNat n.1 == 32):=by decide
 have:=key ⟨c.toNat,c.toNat_lt⟩ h1.1
 simpa using this
theorem pri_ne {c:UInt8} (h:priC c=true):¬ c=10:=fun e=>by subst e; simp [priC] at h
theorem flush_fields (ws:List Wd) (w:Wd):flushW ws w=ws ++ Lib.fieldsGo w []:=by
 unfold flushW Lib.fieldsGo
 cases w <;> simp
theorem scan_pri (l:Nat):∀ (r:List UInt8),priB r=true→∀ ws w t,scanL l ws w (r ++ 10 :: t)=(scanL (l + 1) [] [] t).map (fun x=>closeL l (ws ++ Lib.fieldsGo w r) ++ x)
 | [],_,ws,w,t=>by rw [List.nil_append,scan_line,flush_fields]
 | c :: r,h,ws,w,t=>by
  have hc:priC c=true:=by unfold priB at h; simp at h; exact h.1
  have hr:priB r=true:=by unfold priB at h ⊢; simp at h ⊢; exact h.2
  rw [List.cons_append]
  by_cases h2:c=32
  · subst h2;rw [scan_blank,scan_pri l r hr,flush_fields];have e:ws ++ Lib.fieldsGo w [] ++ Lib.fieldsGo [] r=ws ++ Lib.fieldsGo w (32 :: r):=by
     rw [List.append_assoc]
     congr 1
     cases w <;> simp [Lib.fieldsGo,show Lib.isSp 32=true from by decide]
    rw [e]
  · rw [scan_byte _ _ _ _ (pri_ne hc) h2 (of_decide_eq_true hc),scan_pri l r hr];have e:Lib.fieldsGo w (c :: r)=Lib.fieldsGo (w ++ [c]) r:=Lib.fieldsGo_more _ _ _ (by rw [pri_sp hc]; simp [h2]);rw [e]
theorem scan_pri_end (l:Nat):∀ (r:List UInt8),priB r=true→∀ ws w,scanL l ws w r=.ok (closeL l (ws ++ Lib.fieldsGo w r))
 | [],_,ws,w=>by rw [scan_end,flush_fields]
 | c :: r,h,ws,w=>by
  have hc:priC c=true:=by unfold priB at h; simp at h; exact h.1
  have hr:priB r=true:=by unfold priB at h ⊢; simp at h ⊢; exact h.2
  by_cases h2:c=32
  · subst h2;rw [scan_blank,scan_pri_end l r hr,flush_fields];have e:ws ++ Lib.fieldsGo w [] ++ Lib.fieldsGo [] r=ws ++ Lib.fieldsGo w (32 :: r):=by
     rw [List.append_assoc]
     congr 1
     cases w <;> simp [Lib.fieldsGo,show Lib.isSp 32=true from by decide]
    rw [e]
  · rw [scan_byte _ _ _ _ (pri_ne hc) h2 (of_decide_eq_true hc),scan_pri_end l r hr];have e:Lib.fieldsGo w (c :: r)=Lib.fieldsGo (w ++ [c]) r:=Lib.fieldsGo_more _ _ _ (by rw [pri_sp hc]; simp [h2]);rw [e]
theorem scan_unpri (l:Nat):∀ (r:List UInt8),priB r=false→10 ∉ r→∀ ws w t,scanL l ws w (r ++ t)=.error l
 | [],h,_,ws,w,t=>by cases h
 | c :: r,h,hn,ws,w,t=>by
  have hn1:¬ c=10:=fun e=>hn (by rw [e]; simp)
  have hn2:10 ∉ r:=fun e=>hn (List.mem_cons_of_mem _ e)
  rw [List.cons_append]
  by_cases hc:priC c=true
  · have hr:priB r=false:=by unfold priB at h ⊢; simpa [hc] using h
    by_cases h2:c=32
    · subst h2;rw [scan_blank];exact scan_unpri l r hr hn2 _ _ _
    · rw [scan_byte _ _ _ _ hn1 h2 (of_decide_eq_true hc)];exact scan_unpri l r hr hn2 _ _ _
  · have h2:¬ c=32:=fun e=>by subst e; exact hc (by decide)
    exact scan_bad _ _ _ _ hn1 h2 (fun q=>hc (decide_eq_true q))
def evalL (l:Nat):List Wd→Except Nat (List Ln)
 | []=>.ok []
 | r :: rs=>if priB r=true then (evalL (l + 1) rs).map (fun x=>closeL l (Lib.fields r) ++ x) else .error l
theorem split_at (s:List UInt8):10 ∉ s ∨ ∃ a b,s=a ++ 10 :: b∧10 ∉ a:=by
 induction s with
 | nil=>left; simp
 | cons c s ih=>
  by_cases hc:c=10
  · right; exact ⟨[],s,by rw [hc]; rfl,by simp⟩
  · rcases ih with h | ⟨a,b,e,h⟩
    · left
      intro hm;rcases List.mem_cons.1 hm with hm | hm
      · exact hc hm.symm
      · exact h hm
    · right
      refine ⟨c :: a,b,by rw [e]; rfl,fun hm=>?_⟩;rcases List.mem_cons.1 hm with hm | hm
      · exact hc hm.symm
      · exact h hm
theorem eval_lines:∀ (n:Nat) (s:List UInt8),s.length≤n→∀ l,scanL l [] [] s=evalL l (linesL s):=by
 intro n
 induction n with
 | zero=>
  intro s hs l;obtain rfl:=List.length_eq_zero_iff.1 (Nat.le_zero.1 hs);rfl
 | succ n ih=>
  intro s hs l;rcases split_at s with h | ⟨a,b,rfl,h⟩
  · rw [lines_none s h];unfold evalL
    by_cases hp:priB s=true
    · rw [if_pos hp,scan_pri_end l s hp];unfold evalL;rw [map_ok,List.append_nil];rfl
    · rw [if_neg hp];have:=scan_unpri l s (by simpa using hp) h [] [] []
      simpa using this
  · rw [lines_cut a b h];unfold evalL
    by_cases hp:priB a=true
    · rw [if_pos hp,scan_pri l a hp,ih b (by simp at hs; omega)];rfl
    · rw [if_neg hp,scan_unpri l a (by simpa using hp) h]
def rowsF (Ls:List Wd) (l:Nat) (pre:List (Fin Ls.length)):List Ln:=pre.flatMap fun x=>closeL (l + x.1) (Lib.fields Ls[x.1])
theorem rowsF_snoc (Ls:List Wd) (l:Nat) (pre:List (Fin Ls.length)) (x:Fin Ls.length):rowsF Ls l (pre ++ [x])=rowsF Ls l pre ++ closeL (l + x.1) (Lib.fields Ls[x.1]):=by
 unfold rowsF; simp
theorem rowsF_len (Ls:List Wd) (l:Nat) (pre:List (Fin Ls.length)):(rowsF Ls l pre).length≤pre.length:=by
 unfold rowsF
 induction pre with
 | nil=>simp
 | cons x pre ih=>
  rw [List.flatMap_cons,List.length_append,List.length_cons];have:=close_len (l + x.1) (Lib.fields Ls[x.1]);omega
theorem eval_all:∀ (Ls:List Wd) (l:Nat),(∀ r ∈ Ls,priB r=true)→evalL l Ls=.ok (rowsF Ls l (List.finRange Ls.length))
 | [],l,_=>rfl
 | r :: rs,l,h=>by
  rw [evalL,if_pos (h r (by simp)),eval_all rs (l + 1) (fun x hx=>h x (List.mem_cons_of_mem _ hx)),map_ok]
  congr 1
  unfold rowsF;show _=List.flatMap (fun x:Fin (rs.length + 1)=>closeL (l + x.1) (Lib.fields ((r :: rs)[x.1]'x.2))) (List.finRange (rs.length + 1));rw [List.finRange_succ,List.flatMap_cons,List.flatMap_map];have e:(fun x:Fin rs.length=>closeL (l + 1 + x.1) (Lib.fields rs[x.1]))=(fun x:Fin rs.length=>closeL (l + (Fin.succ x).1) (Lib.fields ((r :: rs)[(Fin.succ x).1]'(Fin.succ x).2))):=by
   funext x
   show _=closeL (l + (x.1 + 1)) (Lib.fields rs[x.1]);rw [show l + 1 + x.1=l + (x.1 + 1) by omega]
  rw [e];rfl
theorem eval_stop:∀ (Ls:List Wd) (l k:Nat) (hk:k < Ls.length),(∀ j (hj:j < k),priB (Ls[j]'(by omega))=true)→priB Ls[k]=false→evalL l Ls=.error (l + k)
 | [],l,k,hk,_,_=>by simp at hk
 | r :: rs,l,0,hk,_,hb=>by
  rw [evalL,if_neg (by simpa using hb)]; rfl
 | r :: rs,l,k + 1,hk,ha,hb=>by
  have h0:=ha 0 (by omega);rw [evalL,if_pos (by simpa using h0),eval_stop rs (l + 1) k (by simpa using hk) (fun j hj=>by have:=ha (j + 1) (by omega); simpa using this) (by simpa using hb),map_err];rw [show l + 1 + k=l + (k + 1) by omega]
theorem lex_done {s:List UInt8} (h4:s.length≤4000) (h:∀ x ∈ List.finRange (linesL s).length,priB ((linesL s)[x.1])=true):lexRows s=rowsF (linesL s) 1 (List.finRange (linesL s).length)∧lexLine s=0∧lexErr s=0:=by
 have e:scanL 1 [] [] s=.ok (rowsF (linesL s) 1 (List.finRange (linesL s).length)):=by
  rw [eval_lines _ s (Nat.le_refl _),eval_all];intro r hr;obtain ⟨i,hi,e⟩:=List.mem_iff_getElem.1 hr;have:=h ⟨i,hi⟩ (List.mem_finRange _);rw [← e]; exact this
 unfold lexRows lexLine lexErr;rw [if_pos h4,if_pos h4,if_pos h4,e];exact ⟨rfl,rfl,rfl⟩
theorem lex_left {s:List UInt8} (h4:s.length≤4000) {q:List (Fin (linesL s).length)} {x:Fin (linesL s).length} (hp:q ++ [x] <+: List.finRange (linesL s).length) (h:∀ y ∈ q,priB ((linesL s)[y.1])=true) (hx:priB ((linesL s)[x.1])=false):lexRows s=[]∧lexLine s=x.1 + 1∧lexErr s=6:=by
 have hq:q ++ [x]=(List.finRange (linesL s).length).take (q.length + 1):=by
  have:=List.prefix_iff_eq_take.1 hp
  simpa using this
 have hlq:q.length + 1≤(linesL s).length:=by have:=hp.length_le; simpa using this
 have hx1:x.1=q.length:=by
  have e:(q ++ [x])[q.length]?=some x:=by simp
  rw [hq,List.getElem?_take_of_lt (by omega),List.getElem?_eq_getElem (by simp; omega),List.getElem_finRange] at e;have:=Option.some.inj e;rw [← this]; rfl
 have e:scanL 1 [] [] s=.error (1 + x.1):=by
  rw [eval_lines _ s (Nat.le_refl _)];refine eval_stop _ 1 x.1 x.2 (fun j hj=>?_) hx;have hj':j < q.length:=by omega
  have e:(q ++ [x])[j]?=some ⟨j,by omega⟩:=by
   rw [hq,List.getElem?_take_of_lt (by omega),List.getElem?_eq_getElem (by simp; omega),List.getElem_finRange];rfl
  rw [List.getElem?_append_left hj'] at e;exact h _ (List.mem_of_getElem? e)
 unfold lexRows lexLine lexErr;rw [if_pos h4,if_pos h4,if_pos h4,e];exact ⟨rfl,by show 1 + x.1=x.1 + 1; omega,rfl⟩
theorem counts_fields (r:List UInt8):∀ d ∈ Lib.fields r,¬ d=[]:=by
 have:∀ (l cur:List UInt8),∀ d ∈ Lib.fieldsGo cur l,¬ d=[]:=by
  intro l
  induction l with
  | nil=>
   intro cur d hd;unfold Lib.fieldsGo at hd
   cases cur with
   | nil=>simp at hd
   | cons a b=>simp at hd; subst hd; simp
  | cons c l ih=>
   intro cur d hd;unfold Lib.fieldsGo at hd
   split at hd
   · cases cur with
     | nil=>exact ih [] d (by simpa using hd)
     | cons a b=>
      simp at hd;rcases hd with hd | hd
      · subst hd; simp
      · exact ih [] d hd
   · exact ih _ d hd
 exact this r []
end Go.Proofs.YthabffjgdhfbmaaGreatDoor
namespace Go.Proofs.YthabffjgdhfbmaaGreatDoor
open Go.RowKit Go.Shelf
attribute [local go_sem] Oper.semAt_some
def KeepO (a:Nat) (W W':World):Prop:=W'.heap[a]?=W.heap[a]?
theorem KeepO.refl (a:Nat) (W:World):KeepO a W W:=rfl
theorem KeepO.trans {a:Nat} {U V W:World} (h:KeepO a U V) (k:KeepO a V W):KeepO a U W:=Eq.trans k h
theorem KeepO.put {a:Nat} {w:World} (ha:a < w.heap.size) (W:World) (l:Nat) (o o':Obj) (hl:w.heap.size≤l):KeepO a W (W.putObj l o'):=World.putObj_heap_other (by omega)
theorem finL_take {L k:Nat} (h:k < L):(List.finRange L).take (k + 1)=(List.finRange L).take k ++ [⟨k,h⟩]:=by
 rw [← List.take_append_getElem (by simpa using h)]; simp
theorem grownBy_dn (W:World) (n:Nat):W.grownBy (W.drewN n) none:=⟨rfl,rfl,rfl,Nat.le_refl _,fun _ _ _=>rfl⟩
theorem cut_lines {s:ByteArray} {r:List Wd} (h:linesL s.data.toList=r):(lnB s=false∧r=[(lnU s).data.toList]∧10 ∉ (lnU s).data.toList) ∨ (lnB s=true∧r=(lnU s).data.toList :: linesL (lnV s).data.toList∧10 ∉ (lnU s).data.toList):=by
 rcases nl_ways s with ⟨e,hn⟩ | ⟨i,e,hi,h1,h2⟩
 · left
   have eU:lnU s=s:=by unfold lnU; rw [if_pos e]
   have eB:lnB s=false:=by unfold lnB; simp [e]
   rw [eU];exact ⟨eB,by rw [← h,lines_none _ hn],hn⟩
 · right
   have hne:¬ Lib.indexByte s.data.toList 10=-1:=by omega
   have eB:lnB s=true:=by unfold lnB; simp [hne]
   have eU:(lnU s).data.toList=s.data.toList.take i:=by
    unfold lnU;rw [if_neg hne,e];simp
   have eV:(lnV s).data.toList=s.data.toList.drop (i + 1):=by
    unfold lnV;rw [if_neg hne,e];exact Lib.extract_to_end s (i + 1)
   have hl : i < s.data.toList.length := by have : s.data.toList.length = s.size := by simp
                                            omega
   have es:s.data.toList=s.data.toList.take i ++ 10 :: s.data.toList.drop (i + 1):=by
    have e10:s.data.toList[i]=10:=by
     rw [List.getElem?_eq_getElem hl] at h1;exact Option.some.inj h1
    rw [← e10,List.getElem_cons_drop];exact (List.take_append_drop i _).symm
   have hn:(10:UInt8) ∉ s.data.toList.take i:=fun hm=>by
    obtain ⟨k,hk⟩:=List.mem_iff_getElem?.1 hm;have hki:k < i:=by
     rcases Nat.lt_or_ge k i with q | q
     · exact q
     · rw [List.getElem?_eq_none (by simp; omega)] at hk; cases hk
    rw [List.getElem?_take_of_lt hki] at hk;exact h2 k hki hk
   rw [eU,eV];refine ⟨eB,?_,hn⟩;rw [← h]
   conv=>lhs; rw [es]
   exact lines_cut _ _ hn
theorem lines_mk (w:World) (s:ByteArray):Calls Tryz.prog 70 #[.string s] w fun e w'=>
 e=.returned (.func (.func 97) #[] #[.pointer (some ⟨w.heap.size,0,none⟩)])∧w'=w.alloc (.cells #[.string s] 9):=by
 go_enter Tryz.func70,Tryz.ntmps70
 go_wp2;go_ret;exact ⟨rfl,rfl⟩
theorem lines_in0 (F:Fence) (n:Nat) (hf:F.fn 97) (hfc:F.fn 98) (hro:F.round=none) (hn:1≤n) (cC:Hid (∀ (m:Nat) (u:ByteArray) (x:World),u.size≤4000→CallsIn F m Tryz.prog 98 #[.string u,.string ⟨#[10]⟩] x fun e w'=>e=.returned (.tuple #[.string (lnU u),.string (lnV u),.bool (lnB u)])∧∃ n,w'=x.drewN n))
 (s:ByteArray) (hs:s.size≤4000) (Ls:List Wd) (hLs:linesL s.data.toList=Ls) (hL4:Ls.length≤4001) (Bs l:Nat) (J Jx:List (Fin Ls.length)→World→Prop) (W:World) (hJ:AbidesFrom W.heap.size J)
 (hw:W.cell? ⟨Bs,0,none⟩=some (.string s))
 (hY:∀ pre x W1,J pre W1→pre.length < Ls.length→YieldAt F (n - 1) Tryz.prog l #[.int .i64 ((x.1 + 1:Nat):Int),.string (txt Ls[x.1])] W1 fun e W'=>
  (e=.returned (.bool true)∧J (pre ++ [x]) W'∧KeepO Bs W1 W') ∨ (e=.returned (.bool false)∧Jx (pre ++ [x]) W'))
 (h0:J [] W) :
 CallsIn F n Tryz.prog 97 #[.func (.yield l) #[] #[],.pointer (some ⟨Bs,0,none⟩)] W fun e W'=>(∃ v,e=.returned v)∧((∃ xs,xs=List.finRange Ls.length∧J xs W') ∨ (∃ pre,pre <+: List.finRange Ls.length∧Jx pre W')):=by
 refine callsIn_of_wp Tryz.func97 rfl hf ?_ hro;simp only [Tryz.ntmps97,List.size_toArray,List.length_cons,List.length_nil,Nat.reduceAdd,Nat.reduceSub,Array.replicate_succ,Array.replicate_zero,List.push_toArray,List.append_toArray,List.nil_append,List.cons_append]
 gi_wp2
 gi_loopw [3,4,5] (fun vr vm vn wr=>∃ (j:Nat) (u:ByteArray) (b:Bool),j≤Ls.length∧vr=.string u∧vm=.bool b∧vn=.int .i64 ((j + 1:Nat):Int)∧u.size≤4000∧(b=true→linesL u.data.toList=Ls.drop j∧j < Ls.length)∧(b=false→j=Ls.length)∧J ((List.finRange Ls.length).take j) wr) (fun _ _ q _=>Ls.length + 1 - (intOf q).toNat)
 case atStart=>exact ⟨0,s,true,Nat.zero_le _,rfl,rfl,rfl,hs,fun _=>⟨by rw [hLs]; rfl,by rw [← hLs]; exact List.length_pos_iff.2 (lines_ne _)⟩,fun h=>(by cases h),h0⟩
 case round=>
  obtain ⟨j,u,b,hj,rfl,rfl,rfl,hu,hbt,hbf,hJs⟩:=hrel
  cases b
  · obtain rfl:=hbf rfl;rw [List.take_of_length_le (by simp)] at hJs
    gi_wp2
    go_end0
    exact ⟨⟨_,rfl⟩,.inl hJs⟩
  · obtain ⟨hlu,hlt⟩:=hbt rfl;clear hbt hbf;have hsz:=cutn_sizes u;have hcl:=cut_lines hlu;have hcc:Hid (∀ (m:Nat) (x:World),CallsIn F m Tryz.prog 98 #[.string u,.string ⟨#[10]⟩] x fun e w'=>e=.returned (.tuple #[.string (lnU u),.string (lnV u),.bool (lnB u)])∧∃ n,w'=x.drewN n):=fun m x=>cC.out m u x hu
    have hLj:txt Ls[j]=lnU u:=by
     rw [List.drop_eq_getElem_cons hlt] at hcl;have e:Ls[j]=(lnU u).data.toList:=by
      rcases hcl with ⟨_,e,_⟩ | ⟨_,e,_⟩ <;> exact (List.cons.inj e).1
     rw [e]; exact txt_of _
    have hnext:(lnB u=true→linesL (lnV u).data.toList=Ls.drop (j + 1)∧j + 1 < Ls.length)∧(lnB u=false→j + 1=Ls.length):=by
     rw [List.drop_eq_getElem_cons hlt] at hcl
     constructor
     · intro hb;rcases hcl with ⟨q,_,_⟩ | ⟨_,e,_⟩
       · rw [hb] at q; cases q
       · have e2:=(List.cons.inj e).2;refine ⟨e2.symm,?_⟩;rcases Nat.lt_or_ge (j + 1) Ls.length with q | q
         · exact q
         · rw [List.drop_eq_nil_of_le q] at e2;exact absurd e2.symm (lines_ne _)
     · intro hb;rcases hcl with ⟨_,e,_⟩ | ⟨q,_,_⟩
       · have e2:=(List.cons.inj e).2;have:=List.drop_eq_nil_iff.1 e2;omega
       · rw [hb] at q; cases q
    have hv4:(lnV u).size≤4000:=by omega
    replace hnext:Hid _:=hnext;clear hcl hsz hlu hLs hw h0;generalize lnU u=un at *;generalize lnV u=vn at *;generalize lnB u=bn at *;have hYy:Hid (∀ W1,J ((List.finRange Ls.length).take j) W1→YieldAt F (n - 1) Tryz.prog l #[.int .i64 ((j + 1:Nat):Int),.string un] W1 fun e W'=>
     (e=.returned (.bool true)∧J ((List.finRange Ls.length).take (j + 1)) W'∧KeepO Bs W1 W') ∨ (e=.returned (.bool false)∧Jx ((List.finRange Ls.length).take (j + 1)) W')):=fun W1 h1=>by
     have:=hY _ ⟨j,hlt⟩ W1 h1 (by rw [List.length_take,List.length_finRange]; omega);rw [← finL_take hlt] at this;rw [← hLj];exact this
    clear hY hLj
    gi_wp2_with (gi_at_call 98; refine (hcc.out _ _).mono ?_; rintro e w' ⟨rfl,nd,rfl⟩)
    clear hcc cC;obtain ⟨fn,tmps,assign,body,hy,hR⟩:=hYy.out (wr.drewN nd) (hJ _ _ _ none hJs (grownBy_dn wr nd) (fun r e=>by cases e));clear hYy;have hj1:(j:Int) + 1≤4001:=by omega
    rw [show ((j + 1:Nat):Int)=(j:Int) + 1 from by simp] at hy
    gi_wp2
    rw [hy]
    gi_wp2
    refine hR.mono ?_;rintro e W3 (⟨rfl,hJ3,_⟩ | ⟨rfl,hJx3⟩)
    · gi_wp2
      go_roundw
      case rel=>exact ⟨j + 1,vn,bn,by omega,rfl,rfl,by simp,hv4,hnext.out.1,hnext.out.2,hJ3⟩
      case measure=>simp [intOf]; omega
    · gi_wp2
      refine bodyPost_ret (results_none rfl _ _ _) rfl ?_;exact ⟨⟨_,rfl⟩,.inr ⟨_,List.take_prefix _ _,hJx3⟩⟩
theorem lines_stops (n:Nat) (hn:1≤n) (s:ByteArray) (hs:s.size≤4000) (Ls:List Wd) (hLs:linesL s.data.toList=Ls) (Bs:Nat) (w:World) (hw:Boxed w Bs 9 (.string s)) :
 SeqStopsK Fence.wide n Tryz.prog 97 #[.pointer (some ⟨Bs,0,none⟩)] (fun x:Fin Ls.length=>#[.int .i64 ((x.1 + 1:Nat):Int),.string (txt Ls[x.1])]) (KeepO Bs) (fun xs=>xs=List.finRange Ls.length) (fun pre=>pre <+: List.finRange Ls.length) Ls.length w:=fun l J Jx W hbl hJ _ hY h0=>
 lines_in0 Fence.wide n trivial trivial rfl hn (fun m u x hu=>callsIn_wide.2 (scutn_any u x (by unfold maxLen; omega))) s hs Ls hLs (by have h1:=lines_len s.data.toList; rw [show s.data.toList.length=s.size from by simp] at h1; rw [← hLs]; omega) Bs l J Jx W hJ ((hbl.cell (p:=⟨Bs,0,none⟩) hw.lt).trans hw.cell) hY h0
end Go.Proofs.YthabffjgdhfbmaaGreatDoor
namespace Go.Proofs.YthabffjgdhfbmaaGreatDoor
open Go.RowKit
def Tab7 (w:World):Prop:=∀ c:Nat,c < 256→w.cell? ⟨0,c,none⟩=some (.int .u8 (if Lib.isSp (UInt8.ofNat c) then 1 else 0))
theorem Tab7.below {w x:World} (h:Tab7 w) (hb:Below w.heap.size w x):Tab7 x:=fun c hc=>by
 have hk:=h c hc;exact (hb.cell (World.block_lt_of_cell? _ _ hk)).trans hk
theorem Tab7.of {w : World} (h : Lib.TabIs Tryz.prog w "strings.asciiSpace" .u8 Lib.asciiSpaceTab) : Tab7 w := fun c hc => by
 rw [h.cell (by kernel_rfl) c (by rw [Lib.asciiSpaceTab_length]; exact hc),Lib.asciiSpaceTab_at c hc]
end Go.Proofs.YthabffjgdhfbmaaGreatDoor
namespace Go.Proofs.YthabffjgdhfbmaaGreatDoor
open Go.Shelf
def lays157_ren:Go.Shelf.Ren:=⟨fun | 157=>72 | 229=>99 | 199=>100 | 261=>123 | 311=>142 | 312=>143 | n=>n,fun | 9=>9 | 31=>52 | 3=>3 | 5=>5 | 4=>4 | 119=>170 | 0=>0 | 40=>172 | 152=>194 | 21=>21 | 154=>196 | 51=>107 | 141=>198 | 196=>213 | 193=>210 | 198=>216 | 49=>214 | 194=>211 | 201=>219 | 226=>234 | 46=>152 | 227=>235 | n=>n,fun | 0=>0 | 6=>1 | n=>n⟩
theorem lays157:Go.Proofs.Lays.n157 Tryz.prog lays157_ren:={
 mixed:=by kernel_rfl
 f157:=Tryz.func72.trans (congrArg some (by kernel_rfl))
 f199:=Tryz.func100.trans (congrArg some (by kernel_rfl))
 f229:=Tryz.func99.trans (congrArg some (by kernel_rfl))
 f261:=Tryz.func123.trans (congrArg some (by kernel_rfl))
 f311:=Tryz.func142.trans (congrArg some (by kernel_rfl))
 f312:=Tryz.func143.trans (congrArg some (by kernel_rfl))
 t0:=Tryz.underlying0
 a0:=Tryz.isAgg0
 z0:=Tryz.sizeOf0
 v0:=Tryz.zeroValue0
 t3:=Tryz.underlying3
 a3:=Tryz.isAgg3
 z3:=Tryz.sizeOf3
 v3:=Tryz.zeroValue3
 t4:=Tryz.underlying4
 a4:=Tryz.isAgg4
 z4:=Tryz.sizeOf4
 v4:=Tryz.zeroValue4
 t5:=Tryz.underlying5
 a5:=Tryz.isAgg5
 z5:=Tryz.sizeOf5
 v5:=Tryz.zeroValue5
 t9:=Tryz.underlying9
 a9:=Tryz.isAgg9
 z9:=Tryz.sizeOf9
 v9:=Tryz.zeroValue9
 t21:=Tryz.underlying21
 a21:=Tryz.isAgg21
 z21:=Tryz.sizeOf21
 v21:=Tryz.zeroValue21
 t31:=Tryz.underlying52
 a31:=Tryz.isAgg52
 z31:=Tryz.sizeOf52
 v31:=Tryz.zeroValue52
 t40:=Tryz.underlying172
 a40:=Tryz.isAgg172
 z40:=Tryz.sizeOf172
 v40:=Tryz.zeroValue172
 t46:=Tryz.underlying152
 a46:=Tryz.isAgg152
 z46:=Tryz.sizeOf152
 v46:=Tryz.zeroValue152
 t49:=Tryz.underlying214
 a49:=Tryz.isAgg214
 z49:=Tryz.sizeOf214
 v49:=Tryz.zeroValue214
 t51:=Tryz.underlying107
 a51:=Tryz.isAgg107
 z51:=Tryz.sizeOf107
 v51:=Tryz.zeroValue107
 t119:=Tryz.underlying170
 a119:=Tryz.isAgg170
 z119:=Tryz.sizeOf170
 t141:=Tryz.underlying198
 a141:=Tryz.isAgg198
 z141:=Tryz.sizeOf198
 v141:=Tryz.zeroValue198
 t152:=Tryz.underlying194
 a152:=Tryz.isAgg194
 z152:=Tryz.sizeOf194
 v152:=Tryz.zeroValue194
 t154:=Tryz.underlying196
 a154:=Tryz.isAgg196
 z154:=Tryz.sizeOf196
 v154:=Tryz.zeroValue196
 t193:=Tryz.underlying210
 a193:=Tryz.isAgg210
 z193:=Tryz.sizeOf210
 v193:=Tryz.zeroValue210
 t194:=Tryz.underlying211
 a194:=Tryz.isAgg211
 z194:=Tryz.sizeOf211
 v194:=Tryz.zeroValue211
 t196:=Tryz.underlying213
 a196:=Tryz.isAgg213
 z196:=Tryz.sizeOf213
 v196:=Tryz.zeroValue213
 t198:=Tryz.underlying216
 a198:=Tryz.isAgg216
 z198:=Tryz.sizeOf216
 v198:=Tryz.zeroValue216
 t201:=Tryz.underlying219
 a201:=Tryz.isAgg219
 z201:=Tryz.sizeOf219
 v201:=Tryz.zeroValue219
 t226:=Tryz.underlying234
 a226:=Tryz.isAgg234
 z226:=Tryz.sizeOf234
 v226:=Tryz.zeroValue234
 t227:=Tryz.underlying235
 a227:=Tryz.isAgg235
 z227:=Tryz.sizeOf235
 v227:=Tryz.zeroValue235
 g0:=by kernel_rfl
 g6:=by kernel_rfl }
def lays99_ren:Go.Shelf.Ren:=⟨fun | 99=>101 | 206=>124 | n=>n,fun | 9=>9 | 4=>4 | 3=>3 | n=>n,fun | n=>n⟩
theorem lays99:Go.Proofs.Lays.n99 Tryz.prog lays99_ren:={
 mixed:=by kernel_rfl
 f99:=Tryz.func101.trans (congrArg some (by kernel_rfl))
 f206:=Tryz.func124.trans (congrArg some (by kernel_rfl))
 t3:=Tryz.underlying3
 a3:=Tryz.isAgg3
 z3:=Tryz.sizeOf3
 v3:=Tryz.zeroValue3
 t4:=Tryz.underlying4
 a4:=Tryz.isAgg4
 z4:=Tryz.sizeOf4
 v4:=Tryz.zeroValue4
 t9:=Tryz.underlying9
 a9:=Tryz.isAgg9
 z9:=Tryz.sizeOf9
 v9:=Tryz.zeroValue9 }
end Go.Proofs.YthabffjgdhfbmaaGreatDoor
namespace Go.Proofs.YthabffjgdhfbmaaGreatDoor
open Go.RowKit
theorem ret_bp {x y:Bool} (h:y=x):Ending.returned (.bool x)=.returned (.bool y):=by rw [h]
theorem info_st9:(Tryz.prog.info? 9).map (fun i=>(i.zero,i.size,i.bytes))=some (some (.string ByteArray.empty),1,16):=by kernel_rfl
theorem fields_any (s:ByteArray) (w:World) (hs:s.size≤4000) (hp:priB s.data.toList=true) (T:Tab7 w):Calls Tryz.prog 72 #[.string s] w fun e w'=>
 e=.returned (.slice (some ⟨w.heap.size,0,none⟩) (Lib.fields s.data.toList).length (Lib.fields s.data.toList).length)∧w'=w.alloc (.cells ((Lib.fields s.data.toList).map fun l=>Value.string (txt l)).toArray 9):=
 Any.strings_Fields_core lays157 info_st9 s w (by omega) (fun j b hb=>by
  have hm:=List.mem_of_getElem? hb;unfold priB at hp;have:=of_decide_eq_true (List.all_eq_true.1 hp b hm)
  omega) T
theorem prefix_any (s p:ByteArray) (w:World):Calls Tryz.prog 101 #[.string s,.string p] w fun e w'=>e=.returned (.bool (Lib.hasPrefix s.data.toList p.data.toList))∧w'=w:=Any.strings_HasPrefix lays99 s p w
theorem printable_any (s:ByteArray) (w:World) (hs:(s.size:Int)≤4000):Calls Tryz.prog 71 #[.string s] w fun e w'=>e=.returned (.bool (priB s.data.toList))∧w'=w:=by
 obtain ⟨T,hT⟩:∃ T,priB s.data.toList=T:=⟨_,rfl⟩;rw [hT];replace hT:Hid (priB s.data.toList=T):=hT
 go_enter Tryz.func71,Tryz.ntmps71
 go_wp2
 go_loop [6] (fun vi=>∃ k:Nat,(k:Int)≤(s.size:Int)∧vi=.int .i64 (k:Int)∧Hid (priB (s.data.toList.take k)=true)) (fun vi=>s.size - (intOf vi).toNat)
 case atStart=>exact ⟨0,by omega,rfl,rfl⟩
 case round=>
  obtain ⟨k,hk,rfl,hall⟩:=hrel
  by_cases hlt:k < s.size
  · have hki:(k:Int) < (s.size:Int):=by omega
    have hl:k < s.data.toList.length:=by simpa using hlt
    have stp:Hid (priC s[k]=false→T=false):=fun h=>by rw [← hT.out]; exact priB_stop hl h
    have nx:Hid (priC s[k]=true→priB (s.data.toList.take (k + 1))=true):=fun h=>priB_next hl hall.out h
    have lk:s[k].toNat < 256:=s[k].toNat_lt;clear hall hT
    by_cases a1:(32:Int)≤(s[k].toNat:Int)
    · have q1:decide ((s[k].toNat:Int) < 32)=false:=decide_eq_false (by omega)
      by_cases a2:(s[k].toNat:Int)≤126
      · have q2:decide (126 < (s[k].toNat:Int))=false:=decide_eq_false (by omega);have nl:Hid (priB (s.data.toList.take (k + 1))=true):=nx.out (decide_eq_true (by omega));clear nx stp;go_wp2;exact ⟨⟨k + 1,by omega,by simp,nl⟩,by simp [intOf]; omega⟩
      · have q2:decide (126 < (s[k].toNat:Int))=true:=decide_eq_true (by omega);have fin:Hid (T=false):=stp.out (decide_eq_false (by omega));clear nx stp;go_wp2;go_ret;exact ⟨ret_bp fin.out,rfl⟩
    · have q1:decide ((s[k].toNat:Int) < 32)=true:=decide_eq_true (by omega);have fin:Hid (T=false):=stp.out (decide_eq_false (by omega));clear nx stp;go_wp2;go_ret;exact ⟨ret_bp fin.out,rfl⟩
  · obtain rfl:k=s.size:=by omega
    have fin:Hid (T=true):=by
     have h:=hall.out;rw [List.take_of_length_le (by simp)] at h;rw [← hT.out];exact h
    clear hall hT hlt;go_wp2;go_ret;exact ⟨ret_bp fin.out,rfl⟩
theorem counts_none (w:World) (g cap:Nat):Calls Tryz.prog 73 #[.slice (some ⟨g,0,none⟩) 0 cap] w fun e w'=>e=.returned (.bool false)∧w'=w:=by
 go_enter Tryz.func73,Tryz.ntmps73
 go_wp2;go_ret;exact ⟨rfl,rfl⟩
theorem counts_some (w:World) (g n cap:Nat) (hn:(1:Int)≤(n:Int)) (d:ByteArray) (B:Bool) (hc:w.cell? ⟨g,0,none⟩=some (.string d)) (hd:Lib.hasPrefix d.data.toList [35]=B):Calls Tryz.prog 73 #[.slice (some ⟨g,0,none⟩) n cap] w fun e w'=>e=.returned (.bool (!B))∧w'=w:=by
 have f:Hid (∀ w,Calls Tryz.prog 101 #[.string d,.string ⟨#[35]⟩] w fun e w'=>e=.returned (.bool B)∧w'=w):=fun w=>by rw [← hd]; exact prefix_any d ⟨#[35]⟩ w
 have q1:decide ((0:Int) < (n:Int))=true:=decide_eq_true (by omega);clear hd
 go_enter Tryz.func73,Tryz.ntmps73
 go_wp2_with fail
 refine (f.out _).mono ?_;rintro e w' ⟨rfl,rfl⟩;clear f;go_wp2;go_ret;exact ⟨rfl,rfl⟩
theorem counts_any (w:World) (g cap:Nat) (ws:List Wd) (hok:∀ d ∈ ws,¬ d=[]) (hc:∀ (h:0 < ws.length),w.cell? ⟨g,0,none⟩=some (.string (txt ws[0]))):Calls Tryz.prog 73 #[.slice (some ⟨g,0,none⟩) ws.length cap] w fun e w'=>e=.returned (.bool (countsB ws))∧w'=w:=by
 cases ws with
 | nil=>exact counts_none w g cap
 | cons d r=>
  cases d with
  | nil=>exact absurd rfl (hok [] (by simp))
  | cons c d=>
   have:=counts_some w g (r.length + 1) cap (by omega) (txt (c :: d)) _ (hc (by simp)) rfl;have e:(!Lib.hasPrefix (txt (c :: d)).data.toList [35])=countsB ((c :: d) :: r):=by
    show (!((35:UInt8) == c && List.isPrefixOf [] d))=!(c == 35);rw [show List.isPrefixOf [] d=true by cases d <;> rfl,Bool.and_true]
    by_cases h:c=35
    · subst h; rfl
    · have h2:¬ (35:UInt8)=c:=fun e=>h e.symm
      rw [beq_eq_false_iff_ne.2 h2,beq_eq_false_iff_ne.2 h]
   rw [e] at this;exact this
theorem own_ne {x:World} {base:Nat} {e:TypeId} {size:Nat} {v:Value} {n:Nat} {xs:List Value} (h:x.ownsRow base e size v n xs) {k:Nat} (hk:x.heap.size≤k):v.ownBlock=none ∨ v.ownBlock ≠ some k:=by
 cases hv:v.ownBlock with
 | none=>exact .inl rfl
 | some g=>
  right
  intro e;have:=(World.ownsRow.lt h g hv).2;have:=Option.some.inj e;omega
theorem LxSt.words {w x:World} {T:TypeId} {vo:Value} {fs:List Dn} (h:LxSt w x T vo (.slice none 0 0) fs []) (ws:List Wd) (hm:ws.length≤maxLen) :
 LxSt w (x.alloc (.cells (strV ws).toArray 9)) T vo (.slice (some ⟨x.heap.size,0,none⟩) ws.length ws.length) fs ws:=by
 refine ⟨World.ownsRow.alloc h.ro _,?_,?_,?_,h.b.alloc h.b.size _⟩
 · refine ⟨by simp,.inr ⟨x.heap.size,ws.length,(strV ws).toArray,rfl,h.b.size,World.alloc_heap_new x _,Nat.le_refl _,hm,by simp,?_⟩⟩;rw [List.take_of_length_le (by simp)]
 · intro f hf;obtain ⟨⟨g,cap,q1,q2,q3,q4,q5⟩,q6⟩:=h.fin f hf;refine ⟨⟨g,cap,q1,fun j hj=>(World.grownBy_alloc x _ none).cell (q2 j hj) (by simp),Nat.lt_of_lt_of_le q3 (World.grownBy_alloc x _ none).size,q4,?_⟩,q6⟩;intro e;have:g=x.heap.size:=by simpa [Value.ownBlock] using e
   omega
 · rcases own_ne h.ro (Nat.le_refl _) with e | e
   · exact .inl e
   · right
     simpa [Value.ownBlock] using e
theorem LxSt.own {w x y:World} {T:TypeId} {vo:Value} {fs:List Dn} {row:Option Nat} (h:LxSt w x T vo (.slice none 0 0) fs []) (hg:x.grownBy y row) (hr:∀ r,row=some r→w.heap.size≤r∧∃ o:Obj,x.heap[r]?=some o∧o.isCells=false):LxSt w y T vo (.slice none 0 0) fs []:=by
 refine ⟨h.ro.kept hg ?_,World.ownsRow_nil _ _ _ _,?_,h.ne,h.b.grown hg h.b.size (fun k e=>(hr k e).1)⟩
 · rcases h.ro.2 with ⟨e,_⟩ | ⟨g,cap,cur,e,_,hgb,_⟩
   · exact .inl (by rw [e]; rfl)
   · refine .inr fun e'=>?_
     rw [e] at e';obtain ⟨o,ho,hc⟩:=(hr g (by simpa [Value.ownBlock] using e'.symm)).2;rw [hgb] at ho; cases ho; cases hc
 · intro f hf;obtain ⟨⟨g,cap,q1,q2,q3,q4,q5⟩,q6⟩:=h.fin f hf;exact ⟨⟨g,cap,q1,fun j hj=>cell_kept (q2 j hj) hg (fun r e=>(hr r e).2),Nat.lt_of_lt_of_le q3 hg.size,q4,q5⟩,q6⟩
theorem box_no_str {x:World} {B:Nat} {t:TypeId} {v:Value} (h:Boxed x B t v) (hv:∀ s,v ≠ .string s) {g j:Nat} {s:ByteArray} (hc:x.cell? ⟨g,0 + j,none⟩=some (.string s)):g ≠ B:=by
 intro e;subst e;rw [Nat.zero_add] at hc;unfold World.cell? at hc;rw [show x.heap[g]?=_ from h] at hc
 cases j with
 | zero=>simp at hc; exact hv s hc
 | succ j=>simp at hc
theorem LxSt.store {w x:World} {T:TypeId} {vo:Value} {fs:List Dn} (h:LxSt w x T vo (.slice none 0 0) fs []) {B:Nat} {t:TypeId} {v:Value} (hb:Boxed x B t v) (ht:t ≠ T) (hv:∀ s,v ≠ .string s) (hB:w.heap.size≤B) (u:Value):LxSt w (x.setCell ⟨B,0,none⟩ u) T vo (.slice none 0 0) fs []:=by
 have hg:=grownBy_setCell' x B u;refine ⟨h.ro.kept hg (.inr (hb.not_row ht h.ro).symm),World.ownsRow_nil _ _ _ _,?_,h.ne,h.b.setCell (p:=⟨B,0,none⟩) hB u⟩;intro f hf;obtain ⟨⟨g,cap,q1,q2,q3,q4,q5⟩,q6⟩:=h.fin f hf;exact ⟨⟨g,cap,q1,fun j hj=>hg.cell (q2 j hj) (fun e=>box_no_str hb hv (q2 j hj) (Option.some.inj e)),Nat.lt_of_lt_of_le q3 hg.size,q4,q5⟩,q6⟩
theorem LxSt.putObj {w x:World} {T:TypeId} {vo:Value} {fs:List Dn} (h:LxSt w x T vo (.slice none 0 0) fs []) {l:Nat} {o:Obj} (o':Obj) (hl:x.heap[l]?=some o) (ho:o.isCells=false) (hB:w.heap.size≤l):LxSt w (x.putObj l o') T vo (.slice none 0 0) fs []:=
 h.own (grownBy_putObj' x l o') (fun r e=>by cases e; exact ⟨hB,o,hl,ho⟩)
end Go.Proofs.YthabffjgdhfbmaaGreatDoor
