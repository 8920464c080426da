/-
  Texts that belong together, one behind the other: DsMath, DsMem, MapStr, DsMap, LexWordNm, RefReads, RefReads2, LexWord, LexWord2, LexNmP, LexWordP. Conditions: as each says.
-/
import Derived.BigQuiet
import Derived.Deep.CutRange
import Derived.Deep.QuietTactic
import Derived.Laws.BytesArg
import Derived.Maps.AppendAt
import Derived.Test.YthabffjgdhfbmaaGreatDoorJl1
import Derived.Test.YthabffjgdhfbmaaGreatDoorJl2
set_option maxRecDepth 100000
set_option maxHeartbeats 32000000
set_option linter.unusedVariables false
namespace Go.Proofs.YthabffjgdhfbmaaGreatDoor
open Go.RowKit
def dv0:Dv:=⟨[],0,0,0,0,[],[],[],0,0,0,0⟩
abbrev Lr:=Int × List Wd
def kDev:Wd:=[100,101,118,105,99,101]
def kSta:Wd:=[115,116,97,114,116]
def kEsc:Wd:=[101,115,99,97,112,101]
def kSiz:Wd:=[115,105,122,101]
def kSum:Wd:=[115,117,109]
def kReq:Wd:=[114,101,113,117,101,115,116]
def kPol:Wd:=[112,111,108,108]
def kTim:Wd:=[116,105,109,101,111,117,116]
def kRet:Wd:=[114,101,116,114,105,101,115]
def kAge:Wd:=[97,103,101]
def kFie:Wd:=[102,105,101,108,100]
def tenK:List Wd:=[kDev,kSta,kEsc,kSiz,kSum,kReq,kPol,kTim,kRet,kAge]
def octO (w:Wd):Option Nat:=
 match hexR w with
 | some [b]=>some b
 | _=>none
def fldO (a:List Wd):Option Fd:=
 match a with
 | [n,p,k,wd,s,o,u]=>
  if (nameB n=true∧nameB k=true∧nameB u=true)∧numB p 0 31=true∧numB wd 1 8=true∧frB s=true∧frB o=true
  then some ⟨n,readV p,k,readV wd,frN s,frD s,frN o,frD o,u⟩ else none
 | _=>none
def mName (a:List Wd) (k:Wd→Dv→Dv):Option (Dv→Dv):=
 match a with
 | [x]=>if nameB x=true then some (k x) else none
 | _=>none
def mNum (a:List Wd) (lo hi:Int) (k:Int→Dv→Dv):Option (Dv→Dv):=
 match a with
 | [x]=>if numB x lo hi=true then some (k (readV x)) else none
 | _=>none
def mSta (a:List Wd):Option (Dv→Dv):=
 match a with
 | [x]=>Option.map (fun (b:Nat) (d:Dv)=>{ d with st:=(b:Int) }) (octO x)
 | _=>none
def mEsc (a:List Wd):Option (Dv→Dv):=
 match a with
 | [x,y]=>(octO x).bind fun (b:Nat)=>Option.map (fun (c:Nat) (d:Dv)=>{ d with es:=(b:Int),mx:=(c:Int) }) (octO y)
 | _=>none
def mReq (a:List Wd):Option (Dv→Dv):=
 match a with
 | [x]=>(hexR x).bind fun b=>if b.length≤16 then some fun d=>{ d with rq:=b } else none
 | _=>none
def updM (f:Wd) (a:List Wd):Option (Dv→Dv):=
 if f=kDev then mName a (fun x d=>{ d with nm:=x })
 else if f=kSta then mSta a
 else if f=kEsc then mEsc a
 else if f=kSiz then mNum a 1 32 (fun x d=>{ d with sz:=x })
 else if f=kSum then mName a (fun x d=>{ d with sm:=x })
 else if f=kReq then mReq a
 else if f=kPol then mNum a 1 1000 (fun x d=>{ d with po:=x })
 else if f=kTim then mNum a 1 1000 (fun x d=>{ d with ti:=x })
 else if f=kRet then mNum a 0 10 (fun x d=>{ d with re:=x })
 else if f=kAge then mNum a 1 1000 (fun x d=>{ d with ag:=x })
 else if f=kFie then (fldO a).map fun x d=>{ d with fs:=d.fs ++ [x] }
 else none
def knownB (f:Wd):Bool:=decide (f ∈ tenK ∨ f=kFie)
def stepM (d:Dv) (seen:List Wd) (ws:List Wd):Except Nat Dv:=
 match ws with
 | []=>.error 6
 | f :: a=>
  if knownB f=false then .error 6
  else if f ≠ kFie∧f ∈ seen then .error 8
  else if f=kFie∧d.fs.length=8 then .error 7
  else match updM f a with
   | none=>.error 6
   | some u=>.ok (u d)
def lackB (seen:List Wd):Bool:=decide (∃ k ∈ tenK,k ∉ seen)
def goM (d:Dv) (seen:List Wd):List Lr→Dv × Int × Nat
 | []=>if lackB seen=true then (dv0,0,9) else (d,0,0)
 | r :: rs=>
  match stepM d seen r.2 with
  | .error e=>(dv0,r.1,e)
  | .ok d'=>goM d' (seen ++ [r.2.headD []]) rs
def readM (rs:List Lr):Dv × Int × Nat:=goM dv0 [] rs
theorem upd_form {f:Wd} {a:List Wd} {u:Dv→Dv} (h:updM f a=some u) :
 (f=kDev∧∃ x,nameB x=true∧u=fun d=>{ d with nm:=x }) ∨ (f=kSta∧∃ x:Nat,u=fun d=>{ d with st:=(x:Int) }) ∨ (f=kEsc∧∃ x y:Nat,u=fun d=>{ d with es:=(x:Int),mx:=(y:Int) })
 ∨ (f=kSiz∧∃ x,u=fun d=>{ d with sz:=x }) ∨ (f=kSum∧∃ x,nameB x=true∧u=fun d=>{ d with sm:=x }) ∨ (f=kReq∧∃ x,u=fun d=>{ d with rq:=x })
 ∨ (f=kPol∧∃ x,u=fun d=>{ d with po:=x }) ∨ (f=kTim∧∃ x,u=fun d=>{ d with ti:=x }) ∨ (f=kRet∧∃ x,u=fun d=>{ d with re:=x }) ∨ (f=kAge∧∃ x,u=fun d=>{ d with ag:=x })
 ∨ (f=kFie∧∃ x,u=fun d=>{ d with fs:=d.fs ++ [x] }):=by
 have hn:∀ {k:Wd→Dv→Dv},mName a k=some u→∃ x,nameB x=true∧u=k x:=by
  intro k h;unfold mName at h
  split at h
  · split at h
    · exact ⟨_,by assumption,(Option.some.inj h).symm⟩
    · cases h
  · cases h
 have hm:∀ {lo hi} {k:Int→Dv→Dv},mNum a lo hi k=some u→∃ x,u=k x:=by
  intro lo hi k h;unfold mNum at h
  split at h
  · split at h
    · exact ⟨_,(Option.some.inj h).symm⟩
    · cases h
  · cases h
 unfold updM at h
 by_cases h0:f=kDev
 · rw [if_pos h0] at h;obtain ⟨x,hx,e⟩:=hn h;exact .inl ⟨h0,x,hx,e⟩
 rw [if_neg h0] at h
 by_cases h1:f=kSta
 · rw [if_pos h1] at h;refine .inr (.inl ⟨h1,?_⟩);unfold mSta at h
   split at h
   · obtain ⟨b,_,e⟩:=Option.map_eq_some_iff.1 h; exact ⟨b,e.symm⟩
   · cases h
 rw [if_neg h1] at h
 by_cases h2:f=kEsc
 · rw [if_pos h2] at h;refine .inr (.inr (.inl ⟨h2,?_⟩));unfold mEsc at h
   split at h
   · obtain ⟨b,_,e⟩:=Option.bind_eq_some_iff.1 h;obtain ⟨c,_,e⟩:=Option.map_eq_some_iff.1 e;exact ⟨b,c,e.symm⟩
   · cases h
 rw [if_neg h2] at h
 by_cases h3:f=kSiz
 · rw [if_pos h3] at h;obtain ⟨x,e⟩:=hm h;exact .inr (.inr (.inr (.inl ⟨h3,x,e⟩)))
 rw [if_neg h3] at h
 by_cases h4:f=kSum
 · rw [if_pos h4] at h;obtain ⟨x,hx,e⟩:=hn h;exact .inr (.inr (.inr (.inr (.inl ⟨h4,x,hx,e⟩))))
 rw [if_neg h4] at h
 by_cases h5:f=kReq
 · rw [if_pos h5] at h;refine .inr (.inr (.inr (.inr (.inr (.inl ⟨h5,?_⟩)))));unfold mReq at h
   split at h
   · obtain ⟨b,_,e⟩:=Option.bind_eq_some_iff.1 h
     split at e
     · exact ⟨b,(Option.some.inj e).symm⟩
     · cases e
   · cases h
 rw [if_neg h5] at h
 by_cases h6:f=kPol
 · rw [if_pos h6] at h;obtain ⟨x,e⟩:=hm h;exact .inr (.inr (.inr (.inr (.inr (.inr (.inl ⟨h6,x,e⟩))))))
 rw [if_neg h6] at h
 by_cases h7:f=kTim
 · rw [if_pos h7] at h;obtain ⟨x,e⟩:=hm h;exact .inr (.inr (.inr (.inr (.inr (.inr (.inr (.inl ⟨h7,x,e⟩)))))))
 rw [if_neg h7] at h
 by_cases h8:f=kRet
 · rw [if_pos h8] at h;obtain ⟨x,e⟩:=hm h;exact .inr (.inr (.inr (.inr (.inr (.inr (.inr (.inr (.inl ⟨h8,x,e⟩))))))))
 rw [if_neg h8] at h
 by_cases h9:f=kAge
 · rw [if_pos h9] at h;obtain ⟨x,e⟩:=hm h;exact .inr (.inr (.inr (.inr (.inr (.inr (.inr (.inr (.inr (.inl ⟨h9,x,e⟩)))))))))
 rw [if_neg h9] at h
 by_cases h10:f=kFie
 · rw [if_pos h10] at h;obtain ⟨x,_,e⟩:=Option.map_eq_some_iff.1 h;exact .inr (.inr (.inr (.inr (.inr (.inr (.inr (.inr (.inr (.inr (⟨h10,x,e.symm⟩))))))))))
 rw [if_neg h10] at h
 cases h
theorem upd_len {f:Wd} {a:List Wd} {u:Dv→Dv} (hu:updM f a=some u) (d:Dv):(u d).fs.length=d.fs.length + (if f=kFie then 1 else 0):=by
 rcases upd_form hu with ⟨rfl,x,_,rfl⟩ | ⟨rfl,x,rfl⟩ | ⟨rfl,x,y,rfl⟩ | ⟨rfl,x,rfl⟩ | ⟨rfl,x,_,rfl⟩ | ⟨rfl,x,rfl⟩ | ⟨rfl,x,rfl⟩ | ⟨rfl,x,rfl⟩ | ⟨rfl,x,rfl⟩ | ⟨rfl,x,rfl⟩ | ⟨rfl,x,rfl⟩
 all_goals first | (rw [if_neg (by decide)]; rfl) | (rw [if_pos rfl]; simp)
theorem step_ok {d d':Dv} {s:List Wd} {ws:List Wd} (h:stepM d s ws=.ok d'):∃ f a u,ws=f :: a∧knownB f=true∧¬ (f ≠ kFie∧f ∈ s)∧¬ (f=kFie∧d.fs.length=8)∧updM f a=some u∧d'=u d:=by
 unfold stepM at h
 split at h
 · cases h
 · split at h
   · cases h
   split at h
   · cases h
   split at h
   · cases h
   split at h
   · cases h
   · rename_i f a h1 h2 h3 _ u hu
     exact ⟨f,a,u,rfl,by cases hk:knownB f <;> simp_all,h2,h3,hu,(Except.ok.inj h).symm⟩
theorem ok_step {d:Dv} {s:List Wd} {f:Wd} {a:List Wd} {u:Dv→Dv} (h1:knownB f=true) (h2:¬ (f ≠ kFie∧f ∈ s)) (h3:¬ (f=kFie∧d.fs.length=8)) (hu:updM f a=some u):stepM d s (f :: a)=.ok (u d):=by
 unfold stepM;simp only [h1,hu];rw [if_neg (by decide),if_neg h2,if_neg h3]
theorem head_cons (f:Wd) (a:List Wd):(f :: a).headD []=f:=rfl
theorem go_ok {d d':Dv} {s:List Wd} {r:Lr} {rs:List Lr} (h:stepM d s r.2=.ok d'):goM d s (r :: rs)=goM d' (s ++ [r.2.headD []]) rs:=by rw [goM,h]
theorem nodup_sub (l:List Wd):∀ (m:List Wd),l.Nodup→(∀ x ∈ l,x ∈ m)→l.length≤m.length:=by
 induction l with
 | nil=>intro m _ _; simp
 | cons x l ih=>
  intro m hn hs;have h1:=List.nodup_cons.1 hn;have hx:x ∈ m:=hs x (by simp);have h2:=ih (m.erase x) h1.2 (fun y hy=>(List.mem_erase_of_ne (fun e=>h1.1 (by rw [← e]; exact hy))).2 (hs y (by simp [hy])));rw [List.length_erase_of_mem hx] at h2;have:0 < m.length:=List.length_pos_of_mem hx;simp only [List.length_cons]; omega
def notF (s:List Wd):List Wd:=s.filter fun x=>!decide (x=kFie)
structure SeenOk (d:Dv) (s:List Wd):Prop where
 nd:(notF s).Nodup
 sub:∀ x ∈ s,x ∈ tenK ∨ x=kFie
 cnt:s.count kFie=d.fs.length
 le:d.fs.length≤8
theorem SeenOk.first:SeenOk dv0 []:=⟨by decide,fun x h=>(by cases h),rfl,by decide⟩
theorem SeenOk.step {d d':Dv} {s:List Wd} {ws:List Wd} (h:SeenOk d s) (hs:stepM d s ws=.ok d'):SeenOk d' (s ++ [ws.headD []]):=by
 obtain ⟨f,a,u,rfl,k1,t1,z1,u1,rfl⟩:=step_ok hs;rw [head_cons];have hl:=upd_len u1 d;have hk:f ∈ tenK ∨ f=kFie:=by simpa [knownB] using k1
 refine ⟨?_,?_,?_,?_⟩
 · unfold notF;rw [List.filter_append]
   by_cases hf:f=kFie
   · rw [show List.filter (fun x=>!decide (x=kFie)) [f]=[] by simp [hf],List.append_nil]; exact h.nd
   · rw [show List.filter (fun x=>!decide (x=kFie)) [f]=[f] by simp [hf]];refine List.nodup_append.2 ⟨h.nd,by simp,?_⟩;intro x hx y hy e;have hy':y=f:=by simpa using hy
     exact t1 ⟨hf,by rw [← hy',← e]; exact (List.mem_filter.1 hx).1⟩
 · intro x hx;rcases List.mem_append.1 hx with hx | hx
   · exact h.sub x hx
   · have:x=f:=by simpa using hx
     rw [this]; exact hk
 · rw [List.count_append,h.cnt,hl,List.count_singleton]
   by_cases hf:f=kFie
   · rw [hf]; simp
   · rw [if_neg hf]; simp [hf]
 · rw [hl];have:=h.le
   by_cases hf:f=kFie
   · rw [if_pos hf];have:¬ d.fs.length=8:=fun e=>z1 ⟨hf,e⟩
     omega
   · rw [if_neg hf]; omega
theorem tenK_nf:∀ k ∈ tenK,¬ k=kFie:=by decide
theorem SeenOk.lack {d:Dv} {s:List Wd} (h:SeenOk d s):lackB s=decide ((notF s).length < 10):=by
 unfold lackB;rw [decide_eq_decide]
 constructor
 · rintro ⟨k,hk,hn⟩;have:=nodup_sub (notF s) (tenK.erase k) h.nd (fun x hx=>by
    have hm:=List.mem_filter.1 hx;have h1:=h.sub x hm.1;have h2:¬ x=kFie:=by simpa using hm.2
    exact (List.mem_erase_of_ne (fun e=>hn (by rw [← e]; exact hm.1))).2 (h1.resolve_right h2))
   rw [List.length_erase_of_mem hk] at this;have e:tenK.length=10:=rfl;omega
 · intro hl;refine Classical.byContradiction fun hc=>?_
   have:=nodup_sub tenK (notF s) (by decide) (fun x hx=>List.mem_filter.2 ⟨Classical.byContradiction fun hn=>hc ⟨x,hx,hn⟩,by simpa using tenK_nf x hx⟩);have e:tenK.length=10:=rfl;omega
def StrsAny (x:World) (v:Value) (ws:List Wd):Prop:=(∃ a c,v=.slice a 0 c∧ws=[]) ∨ ∃ g o cap,v=.slice (some ⟨g,o,none⟩) ws.length cap∧StrsIn x g o ws∧g < x.heap.size
theorem StrsAny.below {x y:World} {v:Value} {ws:List Wd} (h:StrsAny x v ws) (k:Below x.heap.size x y):StrsAny y v ws:=by
 rcases h with h | ⟨g,o,cap,h1,h2,h3⟩
 · exact .inl h
 · exact .inr ⟨g,o,cap,h1,fun j hj=>(k.cell (p:=⟨g,o + j,none⟩) h3).trans (h2 j hj),Nat.lt_of_lt_of_le h3 k.size⟩
def LrIn (x:World) (g a:Nat) (r:Lr):Prop:=x.cell? ⟨g,a,none⟩=some (.int .i64 r.1)∧∃ u,x.cell? ⟨g,a + 1,none⟩=some u∧StrsAny x u r.2
def LrsAt (x:World) (v:Value) (rs:List Lr):Prop:=(v=.slice none 0 0∧rs=[]) ∨ ∃ g o cap,v=.slice (some ⟨g,o,none⟩) rs.length cap∧(∀ j (h:j < rs.length),LrIn x g (o + 2 * j) rs[j])∧g < x.heap.size
def lrOf (rs:List Ln):List Lr:=rs.map fun r=>((r.1:Int),r.2)
def octI (w:Wd):Int:=
 match octO w with
 | some b=>(b:Int)
 | none=>-1
theorem oct_some {w:Wd} {b:Nat} (h:hexR w=some [b]):octO w=some b:=by unfold octO; rw [h]
theorem oct_none {w:Wd} (h:hexR w=none):octO w=none:=by unfold octO; rw [h]
theorem oct_long {w:Wd} {bs:List Nat} (h:hexR w=some bs) (hl:¬ bs.length=1):octO w=none:=by
 unfold octO;rw [h]
 match bs,hl with
 | [],_=>rfl
 | [b],hl=>exact absurd rfl hl
 | _ :: _ :: _,_=>rfl
theorem hexR_b {l:List UInt8} {bs:List Nat} (h:hexR l=some bs):AllBytes bs∧bs.length≤l.length:=by
 unfold hexR at h
 split at h
 · cases h
 · exact hex_bytes l h
section
variable {P:Program}
theorem obj_map (w:World) (g:Nat) (es:Array MapEntry) (c:Nat) (h:w.heap[g]?=some (.map es c)):(getObj g).run P w=.ok (.map es c) w:=by
 simp [getObj,Sem.run,h]
theorem set_map (w:World) (g:Nat) (es:Array MapEntry) (c:Nat) (h:w.heap[g]?=some (.map es c)) {o:Obj}:(setObj g o).run P w=.ok () { w with heap:=w.heap.setIfInBounds g o }:=by
 simp [setObj,Sem.run,h]
theorem key_str (w:World) (b:Bool) (K:TypeId) (hk:P.underlying K=some .string) (s:ByteArray):(Instr.checkKey b 10000 K (.string s)).run P w=.ok () w:=by
 unfold Instr.checkKey;simp [run_underlying hk,Result.andThen]
theorem find_str (w:World) (K:TypeId) (hk:P.underlying K=some .string) (s:ByteArray) (es:List MapEntry) (r:Option (Nat × Value)) (hf:Instr.findNow .string (.string s) es 0=some r):(Instr.findKey K (.string s) es).run P w=.ok r w:=by
 simp [Instr.findKey,run_underlying hk,Result.andThen,hf]
theorem push_last (h:Array Obj) (o o':Obj):(h.push o).setIfInBounds h.size o'=h.push o':=by
 apply Array.ext_getElem?;intro i;rw [Array.getElem?_setIfInBounds,Array.getElem?_push,Array.getElem?_push]
 by_cases e:h.size=i
 · subst e; simp
 · rw [if_neg e,if_neg (Ne.symm e),if_neg (Ne.symm e)]
theorem mset_last (w:World) (o o':Obj):({ w.alloc o with heap:=(w.alloc o).heap.setIfInBounds w.heap.size o' }:World)=w.alloc o':=by
 show ({ w with heap:=(w.heap.push o).setIfInBounds w.heap.size o' }:World)={ w with heap:=w.heap.push o' };rw [push_last]
theorem insert_str (T K E:TypeId) (ht:P.underlying T=some (.map K E)) (hk:P.underlying K=some .string) (es:Array MapEntry) (c:Nat) (s:ByteArray) (v:Value) (hf:Instr.findNow .string (.string s) es.toList 0=some none) (w:World) :
 (Instr.mapUpdate T (.map (some w.heap.size)) (.string s) v).run P (w.alloc (.map es c))=.ok () (w.alloc (.map (es.push { key:=.string s,val:=v,born:=c }) (c + 1))):=by
 have hb:(w.alloc (.map es c)).heap[w.heap.size]?=some (.map es c):=World.alloc_heap_new w _;have hs:(setObj w.heap.size (.map (es.push { key:=.string s,val:=v,born:=c }) (c + 1))).run P (w.alloc (.map es c))=.ok () (w.alloc (.map (es.push { key:=.string s,val:=v,born:=c }) (c + 1))):=by
  rw [set_map (w.alloc (.map es c)) _ _ _ hb,mset_last]
 unfold Instr.mapUpdate;simp [run_underlying ht,obj_map _ _ _ _ hb,key_str _ _ _ hk,find_str _ _ hk _ _ _ hf,hs,Result.andThen]
theorem lookup_str (T K E:TypeId) (ht:P.underlying T=some (.map K E)) (hk:P.underlying K=some .string) (w:World) (g:Nat) (es:Array MapEntry) (c:Nat) (hb:w.heap[g]?=some (.map es c)) (s:ByteArray) (i:Nat) (v:Value) (hf:Instr.findNow .string (.string s) es.toList 0=some (some (i,v))) :
 (Instr.lookup T (.map (some g)) (.string s) true).run P w=.ok (.tuple #[v,.bool true]) w:=by
 unfold Instr.lookup;simp [run_underlying ht,obj_map _ _ _ _ hb,key_str _ _ _ hk,find_str _ _ hk _ _ _ hf,Result.andThen]
theorem lookup_no (T K E:TypeId) (ht:P.underlying T=some (.map K E)) (hk:P.underlying K=some .string) (w:World) (g:Nat) (es:Array MapEntry) (c:Nat) (hb:w.heap[g]?=some (.map es c)) (s:ByteArray) (z:Value) (hz:(zeroValue E).run P w=.ok z w) (hf:Instr.findNow .string (.string s) es.toList 0=some none) :
 (Instr.lookup T (.map (some g)) (.string s) true).run P w=.ok (.tuple #[z,.bool false]) w:=by
 unfold Instr.lookup;simp [run_underlying ht,obj_map _ _ _ _ hb,key_str _ _ _ hk,find_str _ _ hk _ _ _ hf,hz,Result.andThen]
end
theorem same_str (a b:ByteArray):Instr.sameNow .string (.string a) (.string b)=some (a == b):=by rfl
theorem ba_beq (a b:ByteArray):(a == b)=decide (a=b):=by
 rcases a with ⟨a⟩
 rcases b with ⟨b⟩
 rw [Bool.eq_iff_iff,decide_eq_true_iff]
 constructor
 · intro h;have h':(a == b)=true:=h;rw [eq_of_beq h']
 · intro h;have:a=b:=by injection h
   show (a == b)=true;rw [this];exact beq_self_eq_true _
theorem txt_beq (a b:Wd):(txt a == txt b)=decide (a=b):=by
 rw [ba_beq,decide_eq_decide];exact ⟨txt_inj,fun h=>by rw [h]⟩
theorem bits_same (s:ByteArray):Instr.sameBits 10000 (.string s) (.string s)=true:=by
 unfold Instr.sameBits;rw [ba_beq];exact decide_eq_true rfl
theorem find_list (s:Wd):∀ (es:List MapEntry) (n:Nat),(∀ e ∈ es,∃ f,e.key=.string (txt f)) →
 (Instr.findNow .string (.string (txt s)) es n=some none∧∀ e ∈ es,e.key ≠ .string (txt s)) ∨ ∃ i e,es[i]?=some e∧e.key=.string (txt s)∧Instr.findNow .string (.string (txt s)) es n=some (some (n + i,e.val))
 | [],n,_=>.inl ⟨rfl,fun e h=>(by cases h)⟩
 | e :: es,n,h=>by
  obtain ⟨f,hf⟩:=h e (by simp)
  by_cases hs:s=f
  · subst hs;refine .inr ⟨0,e,rfl,hf,?_⟩;rw [Instr.findNow,hf,same_str,txt_beq,decide_eq_true rfl];rfl
  · have e1:Instr.findNow .string (.string (txt s)) (e :: es) n=Instr.findNow .string (.string (txt s)) es (n + 1):=by
     rw [Instr.findNow,hf,same_str,txt_beq,decide_eq_false hs]
    rcases find_list s es (n + 1) (fun e' he'=>h e' (by simp [he'])) with ⟨h1,h2⟩ | ⟨i,e',h1,h2,h3⟩
    · refine .inl ⟨by rw [e1]; exact h1,fun e' he'=>?_⟩;rcases List.mem_cons.1 he' with rfl | he'
      · rw [hf]; intro hc; injection hc with hc; exact hs (txt_inj hc).symm
      · exact h2 e' he'
    · exact .inr ⟨i + 1,e',h1,h2,by rw [e1,h3]; congr 3; omega⟩
theorem find_arr (s:Wd) (es:Array MapEntry) (h:∀ (i:Nat) (e:MapEntry),es[i]?=some e→∃ f,e.key=.string (txt f)) :
 (Instr.findNow .string (.string (txt s)) es.toList 0=some none∧∀ (i:Nat) (e:MapEntry),es[i]?=some e→e.key ≠ .string (txt s)) ∨ ∃ (i:Nat) (e:MapEntry),es[i]?=some e∧e.key=.string (txt s)∧Instr.findNow .string (.string (txt s)) es.toList 0=some (some (i,e.val)):=by
 rcases find_list s es.toList 0 (fun e he=>by
  obtain ⟨i,hi⟩:=List.mem_iff_getElem?.1 he;exact h i e (by rwa [Array.getElem?_toList] at hi)) with ⟨h1,h2⟩ | ⟨i,e,h1,h2,h3⟩
 · exact .inl ⟨h1,fun i e he=>h2 e (List.mem_of_getElem? (i:=i) (by rw [Array.getElem?_toList]; exact he))⟩
 · exact .inr ⟨i,e,by rwa [Array.getElem?_toList] at h1,h2,by rw [h3,Nat.zero_add]⟩
section
variable {P:Program}
theorem look_found (T K E:TypeId) (ht:P.underlying T=some (.map K E)) (hk:P.underlying K=some .string) (w:World) (g:Nat) (es:Array MapEntry) (c:Nat) (hb:w.heap[g]?=some (.map es c)) (s:ByteArray) (i:Nat) (v:Value) (hf:Instr.findNow .string (.string s) es.toList 0=some (some (i,v))) :
 (Instr.lookup T (.map (some g)) (.string s) false).run P w=.ok v w:=by
 unfold Instr.lookup;simp [run_underlying ht,obj_map _ _ _ _ hb,key_str _ _ _ hk,find_str _ _ hk _ _ _ hf,Result.andThen]
theorem look_none (T K E:TypeId) (ht:P.underlying T=some (.map K E)) (hk:P.underlying K=some .string) (w:World) (g:Nat) (es:Array MapEntry) (c:Nat) (hb:w.heap[g]?=some (.map es c)) (s:ByteArray) (z:Value) (hz:(zeroValue E).run P w=.ok z w) (hf:Instr.findNow .string (.string s) es.toList 0=some none) :
 (Instr.lookup T (.map (some g)) (.string s) false).run P w=.ok z w:=by
 unfold Instr.lookup;simp [run_underlying ht,obj_map _ _ _ _ hb,key_str _ _ _ hk,find_str _ _ hk _ _ _ hf,hz,Result.andThen]
theorem ins_none (T K E:TypeId) (ht:P.underlying T=some (.map K E)) (hk:P.underlying K=some .string) (es:Array MapEntry) (c:Nat) (s:ByteArray) (v:Value) (hf:Instr.findNow .string (.string s) es.toList 0=some none) (w:World) (g:Nat) (hb:w.heap[g]?=some (.map es c)) :
 (Instr.mapUpdate T (.map (some g)) (.string s) v).run P w=.ok () { w with heap:=w.heap.setIfInBounds g (.map (es.push { key:=.string s,val:=v,born:=c }) (c + 1)) }:=by
 have hs:=set_map (P:=P) w g es c hb (o:=.map (es.push { key:=.string s,val:=v,born:=c }) (c + 1));unfold Instr.mapUpdate;simp [run_underlying ht,obj_map _ _ _ _ hb,key_str _ _ _ hk,find_str _ _ hk _ _ _ hf,hs,Result.andThen]
theorem ins_found (T K E:TypeId) (ht:P.underlying T=some (.map K E)) (hk:P.underlying K=some .string) (es:Array MapEntry) (c:Nat) (s:ByteArray) (v u:Value) (i:Nat) (e:MapEntry) (he:es[i]?=some e) (hke:e.key=.string s) (hf:Instr.findNow .string (.string s) es.toList 0=some (some (i,u))) (w:World) (g:Nat) (hb:w.heap[g]?=some (.map es c)) :
 (Instr.mapUpdate T (.map (some g)) (.string s) v).run P w=.ok () { w with heap:=w.heap.setIfInBounds g (.map (es.modify i fun e=>{ e with key:=.string s,val:=v }) c) }:=by
 have hs:=set_map (P:=P) w g es c hb (o:=.map (es.modify i fun e=>{ e with key:=.string s,val:=v }) c);unfold Instr.mapUpdate;simp [run_underlying ht,obj_map _ _ _ _ hb,key_str _ _ _ hk,find_str _ _ hk _ _ _ hf,he,hke,Instr.keyThatStays,bits_same,hs,Result.andThen]
end
structure LnOk (es:Array MapEntry) (seen:List Wd):Prop where
 nd:∀ (i j:Nat) (a b:MapEntry),es[i]?=some a→es[j]?=some b→a.key=b.key→i=j
 key:∀ (i:Nat) (e:MapEntry),es[i]?=some e→∃ f:Wd,e.key=.string (txt f)∧e.val=.int .i64 ((seen.count f:Nat):Int)
 has:∀ f ∈ seen,∃ (i:Nat) (e:MapEntry),es[i]?=some e∧e.key=.string (txt f)
theorem LnOk.first:LnOk #[] []:=⟨fun i j a b h=>(by simp at h),fun i e h=>(by simp at h),fun f h=>(by cases h)⟩
theorem LnOk.strs {es:Array MapEntry} {seen:List Wd} (h:LnOk es seen) (i:Nat) (e:MapEntry) (he:es[i]?=some e):∃ f,e.key=.string (txt f):=by
 obtain ⟨f,h1,_⟩:=h.key i e he;exact ⟨f,h1⟩
theorem LnOk.look {es:Array MapEntry} {seen:List Wd} (h:LnOk es seen) (f:Wd):(Instr.findNow .string (.string (txt f)) es.toList 0=some none∧seen.count f=0) ∨ ∃ (i:Nat) (e:MapEntry),es[i]?=some e∧e.key=.string (txt f)∧Instr.findNow .string (.string (txt f)) es.toList 0=some (some (i,.int .i64 ((seen.count f:Nat):Int))):=by
 rcases find_arr f es h.strs with ⟨h1,h2⟩ | ⟨i,e,h1,h2,h3⟩
 · refine .inl ⟨h1,List.count_eq_zero.2 fun hm=>?_⟩;obtain ⟨i,e,he,hk⟩:=h.has f hm;exact h2 i e he hk
 · refine .inr ⟨i,e,h1,h2,?_⟩;obtain ⟨f',h4,h5⟩:=h.key i e h1;have:f'=f:=by
    rw [h2] at h4;injection h4 with h4
    exact (txt_inj h4).symm
   rw [h3,h5,this]
theorem LnOk.push {es:Array MapEntry} {seen:List Wd} (h:LnOk es seen) (f:Wd) (hn:Instr.findNow .string (.string (txt f)) es.toList 0=some none) (hc:seen.count f=0) (c:Nat):LnOk (es.push { key:=.string (txt f),val:=.int .i64 1,born:=c }) (seen ++ [f]):=by
 have nf:∀ (i:Nat) (e:MapEntry),es[i]?=some e→e.key ≠ .string (txt f):=by
  rcases find_arr f es h.strs with ⟨_,h2⟩ | ⟨i,e,h1,h2,h3⟩
  · exact h2
  · rw [hn] at h3; cases h3
 have at':∀ (i:Nat) (e:MapEntry),(es.push { key:=.string (txt f),val:=.int .i64 1,born:=c })[i]?=some e→es[i]?=some e ∨ (i=es.size∧e={ key:=.string (txt f),val:=.int .i64 1,born:=c }):=by
  intro i e he;rw [Array.getElem?_push] at he
  split at he
  · exact .inr ⟨by assumption,(Option.some.inj he).symm⟩
  · exact .inl he
 refine ⟨fun i j a b ha hb hab=>?_,fun i e he=>?_,fun g hg=>?_⟩
 · rcases at' i a ha with ha | ⟨rfl,rfl⟩
   · rcases at' j b hb with hb | ⟨rfl,rfl⟩
     · exact h.nd i j a b ha hb hab
     · exact absurd hab (nf i a ha)
   · rcases at' j b hb with hb | ⟨rfl,rfl⟩
     · exact absurd hab.symm (nf j b hb)
     · rfl
 · rcases at' i e he with he | ⟨rfl,rfl⟩
   · obtain ⟨g,h1,h2⟩:=h.key i e he;refine ⟨g,h1,?_⟩;have:¬ f=g:=fun e'=>nf i e he (by rw [h1,e'])
     rw [h2,List.count_append,List.count_singleton];simp [this]
   · refine ⟨f,rfl,?_⟩;rw [List.count_append,hc,List.count_singleton];simp
 · rcases List.mem_append.1 hg with hg | hg
   · obtain ⟨i,e,he,hk⟩:=h.has g hg;refine ⟨i,e,?_,hk⟩;have hlt:=(Array.getElem?_eq_some_iff.1 he).1;rw [Array.getElem?_push,if_neg (by omega)]; exact he
   · have:g=f:=by simpa using hg
     subst this;exact ⟨es.size,_,by rw [Array.getElem?_push,if_pos rfl],rfl⟩
theorem LnOk.turn {es:Array MapEntry} {seen:List Wd} (h:LnOk es seen) (f:Wd) {i:Nat} {e:MapEntry} (he:es[i]?=some e) (hk:e.key=.string (txt f)):LnOk (es.modify i fun e=>{ e with key:=.string (txt f),val:=.int .i64 ((seen.count f:Nat) + 1:Int) }) (seen ++ [f]):=by
 have at':∀ (j:Nat) (a:MapEntry),(es.modify i fun e=>{ e with key:=.string (txt f),val:=.int .i64 ((seen.count f:Nat) + 1:Int) })[j]?=some a→(j ≠ i∧es[j]?=some a) ∨ (j=i∧a={ e with key:=.string (txt f),val:=.int .i64 ((seen.count f:Nat) + 1:Int) }):=by
  intro j a ha;rw [Array.getElem?_modify] at ha
  by_cases hji:i=j
  · subst hji;rw [if_pos rfl,he] at ha;exact .inr ⟨rfl,(Option.some.inj ha).symm⟩
  · rw [if_neg hji] at ha;exact .inl ⟨Ne.symm hji,ha⟩
 have nf:∀ (j:Nat) (a:MapEntry),j ≠ i→es[j]?=some a→a.key ≠ .string (txt f):=fun j a hj ha hc=>hj (h.nd j i a e ha he (by rw [hc,hk]))
 refine ⟨fun j k a b ha hb hab=>?_,fun j a ha=>?_,fun g hg=>?_⟩
 · rcases at' j a ha with ⟨hj,ha2⟩ | ⟨hj,ha2⟩
   · rcases at' k b hb with ⟨hk2,hb2⟩ | ⟨hk2,hb2⟩
     · exact h.nd j k a b ha2 hb2 hab
     · exact absurd (hab.trans (by rw [hb2])) (nf j a hj ha2)
   · rcases at' k b hb with ⟨hk2,hb2⟩ | ⟨hk2,hb2⟩
     · exact absurd (hab.symm.trans (by rw [ha2])) (nf k b hk2 hb2)
     · rw [hj,hk2]
 · rcases at' j a ha with ⟨hj,ha2⟩ | ⟨rfl,rfl⟩
   · obtain ⟨g,h1,h2⟩:=h.key j a ha2;refine ⟨g,h1,?_⟩;have:¬ f=g:=fun e'=>nf j a hj ha2 (by rw [h1,e'])
     rw [h2,List.count_append,List.count_singleton];simp [this]
   · refine ⟨f,rfl,?_⟩;rw [List.count_append,List.count_singleton];simp
 · have:∃ (j:Nat) (a:MapEntry),es[j]?=some a∧a.key=.string (txt g):=by
    rcases List.mem_append.1 hg with hg | hg
    · exact h.has g hg
    · have:g=f:=by simpa using hg
      subst this;exact ⟨i,e,he,hk⟩
   obtain ⟨j,a,ha,hka⟩:=this
   by_cases hji:i=j
   · subst hji;refine ⟨i,_,by rw [Array.getElem?_modify,if_pos rfl,he]; rfl,?_⟩;rw [he] at ha
     cases ha
     rw [← hka,hk]
   · exact ⟨j,a,by rw [Array.getElem?_modify,if_neg hji]; exact ha,hka⟩
theorem sdrop_at {s:ByteArray} {k:Nat} (hk:k < s.size):s.data.toList.drop k=s[k] :: s.data.toList.drop (k + 1):=by
 have hl:k < s.data.toList.length:=by simpa using hk
 rw [List.drop_eq_getElem_cons hl];rfl
theorem name_form {s:ByteArray} (h0:0 < s.size):nameB s.data.toList=(decide (s.size≤12) && (lowB s[0] && allN s.data.toList)):=by
 have hl:s.data.toList.length=s.size:=by simp
 have e:s.data.toList=s[0] :: s.data.toList.drop 1:=by
  have:=sdrop_at (s:=s) (k:=0) h0
  simpa using this
 unfold nameB;rw [hl]
 congr 1
 obtain ⟨r,hr⟩:∃ r,s.data.toList=s[0] :: r:=⟨_,e⟩;rw [hr]
theorem ret_bb {x y:Bool} (h:y=x):Ending.returned (.bool x)=.returned (.bool y):=by rw [h]
theorem rname_main (s:ByteArray) (w:World) (h0:0 < s.size) (h12:(s.size:Int)≤12) (c1:(97:Int)≤(s[0].toNat:Int)) (c2:(s[0].toNat:Int)≤122) :
 Calls Tryz.prog 25 #[.string s] w fun e w'=>e=.returned (.bool (allN s.data.toList))∧w'=w:=by
 have h0i:(0:Int) < (s.size:Int):=by omega
 have g1:decide ((s.size:Int) < 1)=false:=decide_eq_false (by omega);have g2:decide (12 < (s.size:Int))=false:=decide_eq_false (by omega);have g3:decide ((s[0].toNat:Int) < 97)=false:=decide_eq_false (by omega);have g4:decide (122 < (s[0].toNat:Int))=false:=decide_eq_false (by omega);obtain ⟨T,hT⟩:∃ T,allN s.data.toList=T:=⟨_,rfl⟩;rw [hT];replace hT:Hid (allN s.data.toList=T):=hT
 go_enter Tryz.func25,Tryz.ntmps25
 go_wp2
 go_loop [3] (fun vi=>∃ k:Nat,(k:Int)≤(s.size:Int)∧vi=.int .i64 (k:Int)∧Hid (allN (s.data.toList.take k)=true)) (fun vi=>s.size - (intOf vi).toNat)
 case atStart=>exact ⟨0,by omega,rfl,rfl⟩
 case round=>
  obtain ⟨k,hk,rfl,hall⟩:=hrel
  by_cases hlt:k < s.size
  · have hki:(k:Int) < (s.size:Int):=by omega
    have hl:k < s.data.toList.length:=by simpa using hlt
    have stp:Hid (nameC s[k]=false→T=false):=fun h=>by rw [← hT.out]; exact allN_stop hl h
    have nx:Hid (nameC s[k]=true→allN (s.data.toList.take (k + 1))=true):=fun h=>allN_next hl hall.out h
    have lk:s[k].toNat < 256:=s[k].toNat_lt;clear hall hT g3 g4 c1 c2
    by_cases a1:(97:Int)≤(s[k].toNat:Int)
    · by_cases a2:(s[k].toNat:Int)≤122
      · have nl:Hid (allN (s.data.toList.take (k + 1))=true):=nx.out (by unfold nameC; simp; omega);have q1:decide ((s[k].toNat:Int) < 97)=false:=decide_eq_false (by omega);have q2:decide (122 < (s[k].toNat:Int))=false:=decide_eq_false (by omega);clear nx stp;go_wp2;exact ⟨⟨k + 1,by omega,by simp,nl⟩,by simp [intOf]; omega⟩
      · have fin:Hid (T=false):=stp.out (by unfold nameC; simp; omega);have q1:decide ((s[k].toNat:Int) < 97)=false:=decide_eq_false (by omega);have q2:decide (122 < (s[k].toNat:Int))=true:=decide_eq_true (by omega);have q3:decide ((s[k].toNat:Int) < 48)=false:=decide_eq_false (by omega);have q4:decide (57 < (s[k].toNat:Int))=true:=decide_eq_true (by omega);clear nx stp;go_wp2;go_ret;exact ⟨ret_bb fin.out,rfl⟩
    · have q1:decide ((s[k].toNat:Int) < 97)=true:=decide_eq_true (by omega)
      by_cases a3:(48:Int)≤(s[k].toNat:Int)
      · have q3:decide ((s[k].toNat:Int) < 48)=false:=decide_eq_false (by omega)
        by_cases a4:(s[k].toNat:Int)≤57
        · have nl:Hid (allN (s.data.toList.take (k + 1))=true):=nx.out (by unfold nameC; simp; omega);have q4:decide (57 < (s[k].toNat:Int))=false:=decide_eq_false (by omega);clear nx stp;go_wp2;exact ⟨⟨k + 1,by omega,by simp,nl⟩,by simp [intOf]; omega⟩
        · have fin:Hid (T=false):=stp.out (by unfold nameC; simp; omega);have q4:decide (57 < (s[k].toNat:Int))=true:=decide_eq_true (by omega);clear nx stp;go_wp2;go_ret;exact ⟨ret_bb fin.out,rfl⟩
      · have fin:Hid (T=false):=stp.out (by unfold nameC; simp; omega);have q3:decide ((s[k].toNat:Int) < 48)=true:=decide_eq_true (by omega);clear nx stp;go_wp2;go_ret;exact ⟨ret_bb fin.out,rfl⟩
  · obtain rfl:k=s.size:=by omega
    have fin:Hid (T=true):=by
     have h:=hall.out;rw [List.take_of_length_le (by simp)] at h;rw [← hT.out];exact h
    clear hall hT hlt g3 g4 c1 c2;go_wp2;go_ret;exact ⟨ret_bb fin.out,rfl⟩
theorem rname_zero (s:ByteArray) (w:World) (h0:(s.size:Int) < 1) :
 Calls Tryz.prog 25 #[.string s] w fun e w'=>e=.returned (.bool false)∧w'=w:=by
 have g1:decide ((s.size:Int) < 1)=true:=decide_eq_true (by omega)
 go_enter Tryz.func25,Tryz.ntmps25
 go_wp2;go_ret;exact ⟨rfl,rfl⟩
theorem rname_long (s:ByteArray) (w:World) (h12:12 < (s.size:Int)) :
 Calls Tryz.prog 25 #[.string s] w fun e w'=>e=.returned (.bool false)∧w'=w:=by
 have g1:decide ((s.size:Int) < 1)=false:=decide_eq_false (by omega);have g2:decide (12 < (s.size:Int))=true:=decide_eq_true (by omega)
 go_enter Tryz.func25,Tryz.ntmps25
 go_wp2;go_ret;exact ⟨rfl,rfl⟩
theorem rname_low (s:ByteArray) (w:World) (h0:0 < s.size) (h12:(s.size:Int)≤12) (c1:(s[0].toNat:Int) < 97) :
 Calls Tryz.prog 25 #[.string s] w fun e w'=>e=.returned (.bool false)∧w'=w:=by
 have h0i:(0:Int) < (s.size:Int):=by omega
 have g1:decide ((s.size:Int) < 1)=false:=decide_eq_false (by omega);have g2:decide (12 < (s.size:Int))=false:=decide_eq_false (by omega);have g3:decide ((s[0].toNat:Int) < 97)=true:=decide_eq_true (by omega)
 go_enter Tryz.func25,Tryz.ntmps25
 go_wp2;go_ret;exact ⟨rfl,rfl⟩
theorem rname_high (s:ByteArray) (w:World) (h0:0 < s.size) (h12:(s.size:Int)≤12) (c1:(97:Int)≤(s[0].toNat:Int)) (c2:(122:Int) < (s[0].toNat:Int)) :
 Calls Tryz.prog 25 #[.string s] w fun e w'=>e=.returned (.bool false)∧w'=w:=by
 have h0i:(0:Int) < (s.size:Int):=by omega
 have g1:decide ((s.size:Int) < 1)=false:=decide_eq_false (by omega);have g2:decide (12 < (s.size:Int))=false:=decide_eq_false (by omega);have g3:decide ((s[0].toNat:Int) < 97)=false:=decide_eq_false (by omega);have g4:decide (122 < (s[0].toNat:Int))=true:=decide_eq_true (by omega)
 go_enter Tryz.func25,Tryz.ntmps25
 go_wp2;go_ret;exact ⟨rfl,rfl⟩
theorem rname_any (s:ByteArray) (w:World):Calls Tryz.prog 25 #[.string s] w fun e w'=>e=.returned (.bool (nameB s.data.toList))∧w'=w:=by
 by_cases h0:0 < s.size
 · rw [name_form h0]
   by_cases h12:(s.size:Int)≤12
   · rw [decide_eq_true (show s.size≤12 by omega),Bool.true_and]
     by_cases c1:(97:Int)≤(s[0].toNat:Int)
     · by_cases c2:(s[0].toNat:Int)≤122
       · rw [show lowB s[0]=true by unfold lowB; simp; omega,Bool.true_and];exact rname_main s w h0 h12 c1 c2
       · rw [show lowB s[0]=false by unfold lowB; simp; omega,Bool.false_and];exact rname_high s w h0 h12 c1 (by omega)
     · rw [show lowB s[0]=false by unfold lowB; simp; omega,Bool.false_and];exact rname_low s w h0 h12 (by omega)
   · rw [decide_eq_false (show ¬ s.size≤12 by omega),Bool.false_and];exact rname_long s w (by omega)
 · have e:s.data.toList=[]:=List.length_eq_zero_iff.1 (by rw [show s.data.toList.length=s.size by simp]; omega);rw [e];exact rname_zero s w (by omega)
theorem size_len (t:ByteArray):t.data.toList.length=t.size:=by simp
theorem eq48 {c:UInt8}:(c.toNat:Int)=48 ↔ c=48:=by
 constructor
 · intro h; exact UInt8.toNat_inj.1 (by show c.toNat=48; omega)
 · intro h; subst h; rfl
theorem bad_none {t:ByteArray} {m:Bool} (h:t.size=0):badB t.data.toList m=true:=by
 unfold badB; rw [plainB_none h]; rfl
theorem bad_zero {t:ByteArray} {m:Bool} (h0:0 < t.size) (hc:(t[0].toNat:Int)=48) (h:1 < t.size ∨ m=true):badB t.data.toList m=true:=by
 unfold badB
 by_cases h1:1 < t.size
 · rw [plainB_zero h0 hc (by omega)]; rfl
 · have hm:m=true:=by
    cases h with
    | inl h=>exact absurd h h1
    | inr h=>exact h
   have e:=bytes_cons t h0;have hd:t.data.toList.drop 1=[]:=List.drop_eq_nil_iff.2 (by rw [size_len]; omega);rw [hd,eq48.1 hc] at e;rw [hm,e]; rfl
theorem bad_not_all {t:ByteArray} {m:Bool} (h:allB t.data.toList=false):badB t.data.toList m=true:=by
 unfold badB plainB; unfold allB at h; rw [h]; simp
theorem fine_all {t:ByteArray} {m:Bool} (h0:0 < t.size) (hok:¬ ((t[0].toNat:Int)=48) ∨ ((t[0].toNat:Int)=48∧(t.size:Int)≤1∧m=false)) (h:allB t.data.toList=true):badB t.data.toList m=false:=by
 unfold badB;rw [plainB_loop h0 (by omega),h]
 cases hok with
 | inl hn=>
  have e:=bytes_cons t h0;have:¬ t.data.toList=[48]:=by
   intro x; rw [x] at e;have h2:=(List.cons.inj e).1;exact hn (by rw [← h2]; rfl)
  simp [this]
 | inr hh=>rw [hh.2.2]; rfl
theorem big_over {t:ByteArray} {m:Bool} (h0:0 < t.size) (hn:¬ ((t[0].toNat:Int)=48)) (h19:19 < t.size) (h:allB t.data.toList=true):fitB (sgn m (val t.data.toList))=false:=by
 have hd:=all_get t h 0 h0;have hv:=val_ge t[0] (t.data.toList.drop 1) ((isd_iff _).2 hd) (fun e=>hn (eq48.2 e));rw [← bytes_cons t h0] at hv;have hl:(t.data.toList.drop 1).length=t.size - 1:=by simp
 have hp:10 ^ 19≤10 ^ (t.data.toList.drop 1).length:=Nat.pow_le_pow_right (by omega) (by omega);have h10:(10:Nat) ^ 19=10000000000000000000:=by decide
 rw [h10] at hp;unfold sgn
 cases m
 · exact (fit_no (by simp; omega)).1
 · exact (fit_no (by simp; omega)).1
theorem small_val {t:ByteArray} {k v:Nat} (h:allB (t.data.toList.take k)=true) (hv:v=val (t.data.toList.take k)) (hk:k≤18):(v:Int)≤1000000000000000000:=by
 unfold allB at h;have h1:=val_lt _ h;have h2:10 ^ (t.data.toList.take k).length≤10 ^ 18:=Nat.pow_le_pow_right (by omega) (by have:=List.length_take_le k t.data.toList; omega);have h10:(10:Nat) ^ 18=1000000000000000000:=by decide
 rw [h10] at h2;omega
theorem small_val' {t:ByteArray} {v:Nat} (h:allB t.data.toList=true) (hv:v=val t.data.toList) (hk:t.size≤19):(v:Int)≤10000000000000000000:=by
 unfold allB at h;have h1:=val_lt _ h;have h2:10 ^ t.data.toList.length≤10 ^ 19:=Nat.pow_le_pow_right (by omega) (by rw [size_len]; omega);have h10:(10:Nat) ^ 19=10000000000000000000:=by decide
 rw [h10] at h2;omega
theorem end_minus_no {l:List UInt8} {v:Int} (hb:badB l true=false) (hv:v=(val l:Int)) (h:9223372036854775808 < v):coreV l true=0∧coreE l true=2:=
 core_over hb (by unfold sgn; exact (fit_no (by simp; omega)).1)
theorem end_minus_yes {l:List UInt8} {v:Int} (hb:badB l true=false) (hv:v=(val l:Int)) (h:v≤9223372036854775808):coreV l true=wrap64 (IntKind.u64.wrap (-v))∧coreE l true=0:=by
 rw [neg_u64 (by omega)];have:=core_fine hb (by unfold sgn; exact (fit_yes (by simp; omega)).1);rw [hv]
 simpa [sgn] using this
theorem end_plus_no {l:List UInt8} {v:Int} (hb:badB l false=false) (hv:v=(val l:Int)) (h:9223372036854775808≤v):coreV l false=0∧coreE l false=2:=
 core_over hb (by unfold sgn; exact (fit_no (by simp; omega)).1)
theorem end_plus_yes {l:List UInt8} {v:Int} (hb:badB l false=false) (hv:v=(val l:Int)) (h:v < 9223372036854775808):coreV l false=v∧coreE l false=0:=by
 have:=core_fine hb (by unfold sgn; exact (fit_yes (by simp; omega)).1);rw [hv]
 simpa [sgn] using this
theorem rread_over (s t:ByteArray) (m:Bool) (w:World) (hs:s.size≤maxLen) (ht:t.size≤maxLen)
 (hc:(m=true∧s.extract 1 s.size=t∧∃ h0:0 < s.size,((s[0].toNat:Int) == 45)=true) ∨ (m=false∧s=t∧∃ h0:0 < s.size,((s[0].toNat:Int) == 45)=false))
 (h0:0 < t.size) (hn:¬ ((t[0].toNat:Int)=48)) (h19:(19:Int) < (t.size:Int)) :
 Calls Tryz.prog 94 #[.string s] w fun e w'=>e=.returned (.tuple #[.int .i64 (coreV t.data.toList m),.int .i64 (coreE t.data.toList m)])∧w'=w:=by
 unfold maxLen at hs ht;have hz:((t.size:Int) == 0)=false:=beq_eq_false_iff_ne.2 (by omega);have hn2:((t[0].toNat:Int) == 48)=false:=by simp [hn]
 rcases hc with ⟨rfl,hx,hs0,hm⟩ | ⟨rfl,rfl,hs0,hm⟩
 case' inr=>generalize s=t at *
 all_goals
  go_enter Tryz.func94,Tryz.ntmps94
  go_wp2
  go_loop [6,8] (fun n i=>∃ k:Nat,k≤t.size∧i=.int .i64 (k:Int)∧n=.int .u64 0∧Hid (allB (t.data.toList.take k)=true)) (fun _ i=>t.size - (intOf i).toNat)
  case atStart=>exact ⟨0,Nat.zero_le _,rfl,rfl,rfl⟩
  case round=>
   obtain ⟨k,hk,rfl,rfl,hall⟩:=hrel
   by_cases hlt:k < t.size
   · have hno:∀ m,Hid (isd t[k]=false→coreV t.data.toList m=0∧coreE t.data.toList m=6):=fun m h=>core_bad (bad_not_all (all_not t k hlt h))
     have hyes:Hid (isd t[k]=true→allB (t.data.toList.take (k + 1))=true):=fun h=>by
      have h2:=hall.out;unfold allB at h2 ⊢;rw [all_take t k hlt,h2,h]; rfl
     go_wp2
     all_goals
      first
       | (go_ret2; first | exact ⟨ret_nn ((hno _).out (isd_low (by omega))),rfl⟩ | exact ⟨ret_nn ((hno _).out (isd_high (by omega))),rfl⟩)
       | (go_round
          case rel=>exact ⟨k + 1,by omega,by go_num,rfl,hyes.out (isd_mid (by omega) (by omega))⟩
          case measure=>simp [intOf]; omega)
   · have hf:∀ m,(m=true→(t[0].toNat:Int) ≠ 48)→Hid (coreV t.data.toList m=0∧coreE t.data.toList m=2):=fun m _=>by
      have hal:=hall.out;rw [List.take_of_length_le (by rw [size_len]; omega)] at hal;exact core_over (fine_all h0 (.inl hn) hal) (big_over h0 hn (by omega) hal)
     have H1:=hf true (fun _=>hn);have H2:=hf false (fun _=>hn);clear hf;go_wp2
     go_ret2
     first | exact ⟨ret_nn H1.out,rfl⟩ | exact ⟨ret_nn H2.out,rfl⟩
theorem rread_short (s t:ByteArray) (m:Bool) (w:World) (hs:s.size≤maxLen) (ht:t.size≤maxLen)
 (hc:(m=true∧s.extract 1 s.size=t∧∃ h0:0 < s.size,((s[0].toNat:Int) == 45)=true) ∨ (m=false∧s=t∧∃ h0:0 < s.size,((s[0].toNat:Int) == 45)=false))
 (h0:0 < t.size) (hok:(((t[0].toNat:Int) == 48)=false) ∨ ((((t[0].toNat:Int) == 48)=true)∧(t.size:Int)≤1∧m=false)) (h19:(t.size:Int)≤19) :
 Calls Tryz.prog 94 #[.string s] w fun e w'=>e=.returned (.tuple #[.int .i64 (coreV t.data.toList m),.int .i64 (coreE t.data.toList m)])∧w'=w:=by
 unfold maxLen at hs ht;have hz:((t.size:Int) == 0)=false:=beq_eq_false_iff_ne.2 (by omega);have hdec:decide ((19:Int) < (t.size:Int))=false:=decide_eq_false (by omega);have hbad:Hid (allB t.data.toList=true→badB t.data.toList m=false):=fun h=>fine_all h0 (by simpa using hok) h
 rcases hc with ⟨rfl,hx,hs0,hm⟩ | ⟨rfl,rfl,hs0,hm⟩
 case' inr=>generalize s=t at *
 all_goals
  rcases hok with hn2 | ⟨hn2,hn3,hn4⟩
  all_goals try (exfalso; cases hn4; done)
  all_goals
   go_enter Tryz.func94,Tryz.ntmps94
   go_wp2
   go_loop [6,8] (fun n i=>∃ k v:Nat,k≤t.size∧i=.int .i64 (k:Int)∧n=.int .u64 (v:Int)∧Hid (v=val (t.data.toList.take k))∧Hid (allB (t.data.toList.take k)=true)) (fun _ i=>t.size - (intOf i).toNat)
   case atStart=>exact ⟨0,0,Nat.zero_le _,rfl,rfl,rfl,rfl⟩
   case round=>
    obtain ⟨k,v,hk,rfl,rfl,hve,hall⟩:=hrel
    by_cases hlt:k < t.size
    · have hno:∀ m,Hid (isd t[k]=false→coreV t.data.toList m=0∧coreE t.data.toList m=6):=fun m h=>core_bad (bad_not_all (all_not t k hlt h))
      have hyes:Hid (isd t[k]=true→allB (t.data.toList.take (k + 1))=true):=fun h=>by
       have h2:=hall.out;unfold allB at h2 ⊢;rw [all_take t k hlt,h2,h]; rfl
      have hnx:Hid (val (t.data.toList.take (k + 1))=10 * v + (t[k].toNat - 48)):=by
       show _=_;rw [val_next t k hlt,← hve.out]
      have hv:=small_val hall.out hve.out (by omega);go_wp2
      all_goals
       first
        | (go_ret2; first | exact ⟨ret_nn ((hno _).out (isd_low (by omega))),rfl⟩ | exact ⟨ret_nn ((hno _).out (isd_high (by omega))),rfl⟩)
        | (go_round
           case rel=>exact ⟨k + 1,val (t.data.toList.take (k + 1)),by omega,by go_num,by rw [hnx.out]; congr 1; omega,rfl,hyes.out (isd_mid (by omega) (by omega))⟩
           case measure=>simp [intOf]; omega)
    · have hal:Hid (allB t.data.toList=true):=by
       have hal:=hall.out;rw [List.take_of_length_le (by rw [size_len]; omega)] at hal;exact hal
      have hvl:Hid (v=val t.data.toList):=by
       have:=hve.out;rw [List.take_of_length_le (by rw [size_len]; omega)] at this;exact this
      have hv:=small_val' hal.out hvl.out (by omega);have HB:Hid _:=hbad.out hal.out;have hvi:Hid ((v:Int)=(val t.data.toList:Int)):=by show _=_; rw [← hvl.out]
      have hv0:0≤(v:Int):=by omega
      clear hbad hve hall hvl;generalize (v:Int)=V at *;have hq:(V=9223372036854775808∧(V == 9223372036854775808)=true) ∨ (V < 9223372036854775808∧(V == 9223372036854775808)=false) ∨ (9223372036854775808 < V∧(V == 9223372036854775808)=false):=by
       by_cases h:V=9223372036854775808
       · exact .inl ⟨h,beq_iff_eq.2 h⟩
       · by_cases h2:V < 9223372036854775808
         · exact .inr (.inl ⟨h2,beq_eq_false_iff_ne.2 h⟩)
         · exact .inr (.inr ⟨by omega,beq_eq_false_iff_ne.2 h⟩)
      rcases hq with ⟨q1,q2⟩ | ⟨q1,q2⟩ | ⟨q1,q2⟩
      all_goals
       have Q1:Hid _:=q1;clear q1;go_wp2
       all_goals
        go_ret2
        have q1:=Q1.out;refine ⟨ret_nn ?_,rfl⟩
        first
         | exact end_minus_no HB.out hvi.out (by omega)
         | exact end_minus_yes HB.out hvi.out (by omega)
         | exact end_plus_no HB.out hvi.out (by omega)
         | exact end_plus_yes HB.out hvi.out (by omega)
         | (rw [Go.IntWalk.wrap64_in _ (by omega)]; exact end_plus_yes HB.out hvi.out (by omega))
theorem rread_none_minus (s t:ByteArray) (w:World) (hs:s.size≤maxLen) (hx:s.extract 1 s.size=t) (h0:0 < s.size) (hm:((s[0].toNat:Int) == 45)=true) (hz0:t.size=0) :
 Calls Tryz.prog 94 #[.string s] w fun e w'=>e=.returned (.tuple #[.int .i64 (coreV t.data.toList true),.int .i64 (coreE t.data.toList true)])∧w'=w:=by
 unfold maxLen at hs;have hz:((t.size:Int) == 0)=true:=beq_iff_eq.2 (by omega);have hz2:t=ByteArray.empty:=ByteArray.ext (Array.eq_empty_of_size_eq_zero hz0);have H:Hid (coreV t.data.toList true=0∧coreE t.data.toList true=6):=core_bad (bad_none hz0);clear hz0
 go_enter Tryz.func94,Tryz.ntmps94
 go_wp2
 go_ret2
 exact ⟨ret_nn H.out,rfl⟩
theorem rread_none_plus (t:ByteArray) (w:World) (hz0:t.size=0) :
 Calls Tryz.prog 94 #[.string t] w fun e w'=>e=.returned (.tuple #[.int .i64 (coreV t.data.toList false),.int .i64 (coreE t.data.toList false)])∧w'=w:=by
 have H:Hid (coreV t.data.toList false=0∧coreE t.data.toList false=6):=core_bad (bad_none hz0);have hz2:t=ByteArray.empty:=ByteArray.ext (Array.eq_empty_of_size_eq_zero hz0);subst hz2
 go_enter Tryz.func94,Tryz.ntmps94
 go_wp2
 go_ret2
 exact ⟨ret_nn H.out,rfl⟩
theorem rread_zero (s t:ByteArray) (m:Bool) (w:World) (hs:s.size≤maxLen) (ht:t.size≤maxLen)
 (hc:(m=true∧s.extract 1 s.size=t∧∃ h0:0 < s.size,((s[0].toNat:Int) == 45)=true) ∨ (m=false∧s=t∧∃ h0:0 < s.size,((s[0].toNat:Int) == 45)=false))
 (h0:0 < t.size) (hn2:((t[0].toNat:Int) == 48)=true) (hok:(1:Int) < (t.size:Int) ∨ ((t.size:Int)≤1∧m=true)) :
 Calls Tryz.prog 94 #[.string s] w fun e w'=>e=.returned (.tuple #[.int .i64 (coreV t.data.toList m),.int .i64 (coreE t.data.toList m)])∧w'=w:=by
 unfold maxLen at hs ht;have hz:((t.size:Int) == 0)=false:=beq_eq_false_iff_ne.2 (by omega);have H:Hid (coreV t.data.toList m=0∧coreE t.data.toList m=6):=core_bad (bad_zero h0 (by simpa using hn2) (by
  rcases hok with h | ⟨_,h⟩
  · exact .inl (by omega)
  · exact .inr h))
 rcases hc with ⟨rfl,hx,hs0,hm⟩ | ⟨rfl,rfl,hs0,hm⟩
 case' inr=>generalize s=t at *
 all_goals
  rcases hok with hk | ⟨hk,hk2⟩
  all_goals try (exfalso; cases hk2; done)
  all_goals
   go_enter Tryz.func94,Tryz.ntmps94
   go_wp2
   go_ret2
   exact ⟨ret_nn H.out,rfl⟩
theorem rread_any (s:ByteArray) (w:World) (hs:s.size≤maxLen) :
 Calls Tryz.prog 94 #[.string s] w fun e w'=>e=.returned (.tuple #[.int .i64 (readV s.data.toList),.int .i64 (readE s.data.toList)])∧w'=w:=by
 have core:∀ (t:ByteArray) (m:Bool),t.size≤maxLen→((m=true∧s.extract 1 s.size=t∧∃ h0:0 < s.size,((s[0].toNat:Int) == 45)=true) ∨ (m=false∧s=t∧∃ h0:0 < s.size,((s[0].toNat:Int) == 45)=false))→0 < t.size →
  Calls Tryz.prog 94 #[.string s] w fun e w'=>e=.returned (.tuple #[.int .i64 (coreV t.data.toList m),.int .i64 (coreE t.data.toList m)])∧w'=w:=by
  intro t m ht hc h0
  by_cases h48:(t[0].toNat:Int)=48
  · by_cases h1:1 < t.size
    · exact rread_zero s t m w hs ht hc h0 (beq_iff_eq.2 h48) (.inl (by omega))
    · cases m
      · exact rread_short s t false w hs ht hc h0 (.inr ⟨beq_iff_eq.2 h48,by omega,rfl⟩) (by omega)
      · exact rread_zero s t true w hs ht hc h0 (beq_iff_eq.2 h48) (.inr ⟨by omega,rfl⟩)
  · by_cases h19:19 < t.size
    · exact rread_over s t m w hs ht hc h0 h48 (by omega)
    · exact rread_short s t m w hs ht hc h0 (.inl (beq_eq_false_iff_ne.2 h48)) (by omega)
 unfold readV readE
 by_cases h0:0 < s.size
 · rw [head_is s h0]
   by_cases hc:s[0]=45
   · rw [if_pos (by rw [hc]),if_pos (by rw [hc])];have ht:(s.extract 1 s.size).data.toList=s.data.toList.drop 1:=Lib.extract_to_end s 1;have hts:(s.extract 1 s.size).size≤maxLen:=by simp [maxLen] at hs ⊢; omega
     rw [← ht]
     by_cases hz:(s.extract 1 s.size).size=0
     · exact rread_none_minus s _ w hs rfl h0 (eq45.2 hc) hz
     · exact core _ true hts (.inl ⟨rfl,rfl,h0,eq45.2 hc⟩) (by omega)
   · have hn:¬ some s[0]=some 45:=fun e=>hc (Option.some.inj e)
     rw [if_neg hn,if_neg hn];refine core s false hs (.inr ⟨rfl,rfl,h0,?_⟩) h0
     cases e:((s[0].toNat:Int) == 45)
     · rfl
     · exact absurd (eq45.1 e) hc
 · rw [head_none s h0];rw [if_neg (by intro h; cases h),if_neg (by intro h; cases h)];exact rread_none_plus s w (by omega)
theorem rhalf_any (c:Nat) (hc:c < 256) (w:World):Calls Tryz.prog 95 #[.int .u8 (c:Int)] w fun e w'=>e=.returned (.int .i64 (halfC c))∧w'=w:=by
 have hci:(0:Int)≤(c:Int)∧(c:Int) < 256:=⟨by omega,by omega⟩;obtain ⟨V,hV⟩:∃ V,halfC c=V:=⟨_,rfl⟩;rw [hV];replace hV:Hid (halfC c=V):=hV
 by_cases h1:(48:Int)≤(c:Int)
 · by_cases h2:(c:Int)≤57
   · have fin:Hid ((c:Int) - 48=V):=by have:=hV.out; unfold halfC at this; rwa [if_pos ⟨by omega,by omega⟩] at this
     clear hV
     go_enter Tryz.func95,Tryz.ntmps95
     go_wp2;go_ret;exact ⟨by rw [← fin.out]; rfl,rfl⟩
   · by_cases h3:(97:Int)≤(c:Int)
     · by_cases h4:(c:Int)≤102
       · have fin:Hid ((c:Int) - 87=V):=by have:=hV.out; unfold halfC at this; rwa [if_neg (by omega),if_pos ⟨by omega,by omega⟩] at this
         clear hV
         go_enter Tryz.func95,Tryz.ntmps95
         go_wp2;go_ret;exact ⟨by rw [← fin.out]; rfl,rfl⟩
       · have fin:Hid (-1=V):=by have:=hV.out; unfold halfC at this; rwa [if_neg (by omega),if_neg (by omega)] at this
         clear hV
         go_enter Tryz.func95,Tryz.ntmps95
         go_wp2;go_ret;exact ⟨by rw [← fin.out]; rfl,rfl⟩
     · have fin:Hid (-1=V):=by have:=hV.out; unfold halfC at this; rwa [if_neg (by omega),if_neg (by omega)] at this
       clear hV
       go_enter Tryz.func95,Tryz.ntmps95
       go_wp2;go_ret;exact ⟨by rw [← fin.out]; rfl,rfl⟩
 · have fin:Hid (-1=V):=by have:=hV.out; unfold halfC at this; rwa [if_neg (by omega),if_neg (by omega)] at this
   have h3:¬ (97:Int)≤(c:Int):=by omega
   clear hV
   go_enter Tryz.func95,Tryz.ntmps95
   go_wp2;go_ret;exact ⟨by rw [← fin.out]; rfl,rfl⟩
structure HxSt (w x:World) (o:Value) (l:List Nat):Prop where
 r:RowB x w.heap.size o l
 b:Below w.heap.size w x
theorem HxSt.drewN {w x:World} {o:Value} {l:List Nat} (h:HxSt w x o l) (n:Nat):HxSt w (x.drewN n) o l:=⟨h.r,⟨h.b.os,h.b.tape,h.b.output,h.b.size,h.b.block⟩⟩
theorem cell_oneH (w:World) (b:Int):∀ (j:Nat) (u:Value),([.int .u8 b]:List Value)[j]?=some u→(w.alloc (.cells #[.int .u8 b] 5)).cell? ((⟨w.heap.size,0,none⟩:Addr).add j)=some u:=cell_one_new w _ _
theorem rhex_main (s:ByteArray) (w:World) (hs:(s.size:Int)≤5000) (h0:0 < (s.size:Int)) (hev:(s.size:Int) % 2=0) (T:Option (List Nat)) (hT:hexO s.data.toList=T) :
 Calls Tryz.prog 68 #[.string s] w fun e w'=>∃ v,e=.returned (.tuple #[v,.bool T.isSome])∧BytesAt w' v (T.getD [])∧Below w.heap.size w w':=by
 obtain ⟨i0,hi,hz0,hz1,hz2⟩:=info_parts info_u8;have L0:Hid (LeftH [] s.data.toList T):=by unfold Hid; rw [← hT]; exact LeftH.first _
 have hz:((s.size:Int) == 0)=false:=beq_eq_false_iff_ne.2 (by omega);have hq1:((s.size:Int) % 2 == 1)=false:=beq_eq_false_iff_ne.2 (by omega);replace hev:Hid ((s.size:Int) % 2=0):=hev;clear hT
 go_enter Tryz.func68,Tryz.ntmps68
 go_wp2
 go_loopw [4,5] (fun vo vi wr=>∃ (k:Nat) (out:List Nat),(k:Int)≤(s.size:Int)∧vi=.int .i64 (k:Int)∧((k:Int) % 2=0∧(out.length:Int)≤(k:Int))∧Hid (HxSt w wr vo out)∧Hid (LeftH out (s.data.toList.drop k) T)) (fun _ vi _=>s.size - (intOf vi).toNat)
 case atStart=>exact ⟨0,[],by omega,rfl,⟨by omega,by simp⟩,⟨World.ownsRow_nil _ _ _ _,Below.refl _ _⟩,L0⟩
 case round=>
  obtain ⟨k,out,hk,rfl,⟨hk2,hol⟩,st,left⟩:=hrel;clear L0
  by_cases hlt:k < s.size
  · have hki:(k:Int) < (s.size:Int):=by omega
    have hk1:k + 1 < s.size:=by have:=hev.out; omega
    have hk1i:(k:Int) + 1 < (s.size:Int):=by omega
    have lf:=left.out;rw [sdrop_at hlt,sdrop_at hk1] at lf;have x1:s[k].toNat < 256:=s[k].toNat_lt;have x2:s[k + 1].toNat < 256:=s[k + 1].toNat_lt;have b1:=half_bd s[k].toNat;have b2:=half_bd s[k + 1].toNat;have f1:Hid (∀ w,Calls Tryz.prog 95 #[.int .u8 (s[k].toNat:Int)] w fun e w'=>e=.returned (.int .i64 (halfC s[k].toNat))∧w'=w):=fun w=>rhalf_any _ x1 w
    have f2:Hid (∀ w,Calls Tryz.prog 95 #[.int .u8 (s[k + 1].toNat:Int)] w fun e w'=>e=.returned (.int .i64 (halfC s[k + 1].toNat))∧w'=w):=fun w=>rhalf_any _ x2 w
    have nx:Hid ((0≤halfC s[k].toNat∧0≤halfC s[k + 1].toNat)→LeftH (out ++ [(16 * halfC s[k].toNat + halfC s[k + 1].toNat).toNat]) (s.data.toList.drop (k + 2)) T):=fun h=>lf.two h.1 h.2
    have bd:Hid (¬ (0≤halfC s[k].toNat∧0≤halfC s[k + 1].toNat)→T=none):=fun h=>lf.bad h
    clear lf left x1 x2;generalize halfC s[k].toNat=p at *;generalize halfC s[k + 1].toNat=q at *;have wk:IntKind.i64.wrap ((k:Int) + 1)=(k:Int) + 1:=by simp only [IntKind.wrap_i64]; omega
    have ix:∀ x:World,(Instr.index 9 (.string s) (.int .i64 ((k:Int) + 1))).run Tryz.prog x=.ok (.int .u8 (s[k + 1].toNat:Int)) x:=fun x=>by
     rw [run_index_string x 9 s .i64 _ Tryz.underlying9,dif_pos ⟨by omega,hk1i⟩];rfl
    go_wp2_with fail
    go_quiet (first
     | (go_at_call 95; with_reducible refine Calls.quiet_of_same (f1.out _))
     | (go_at_call 95; with_reducible refine Calls.quiet_of_same (f2.out _)))
    clear f1 f2 ix wk;replace st:Hid (HxSt w (wr.drewN nq) u4 out):=st.out.drewN nq;generalize wr.drewN nq=wd at *
    by_cases h1:0≤p
    · by_cases h2:0≤q
      · obtain ⟨c,hc⟩:∃ c:Nat,(16 * p + q).toNat=c:=⟨_,rfl⟩;have nl:=nx.out ⟨h1,h2⟩;rw [hc] at nl;replace nl:Hid (LeftH (out ++ [c]) (s.data.toList.drop (k + 2)) T):=nl;have wc:IntKind.u8.wrap (16 * p + q)=(c:Int):=by simp only [IntKind.wrap_u8']; omega
        have h63:out.length + 1≤maxLen:=by unfold maxLen; omega
        have hby:(out.length + 1) * 1≤140737488355328:=by omega
        have hsz:=st.out.b.size;clear nx bd hc
        go_wp2_with (at_builtin; refine wpList_append_own _ rfl _ _ 23 rfl w.heap.size 5 i0 (.int .u8 0) 1 1 Tryz.underlying23 hi hz0 hz1 hz2 rfl (by decide) _ _ _ rfl (World.ownsRow.alloc st.out.r _) ⟨wd.heap.size,0,none⟩ 1 1 [.int .u8 (c:Int)] rfl rfl (cell_oneH _ _) (by simp [Value.oneCell']) h63 hby (by simp; omega) ?_; intro v' y hown' hgrow _; have st2:Hid (HxSt w y v' (out ++ [c])):=⟨by unfold RowB; rw [List.length_append]; unfold u8v; rw [List.map_append]; exact hown',(st.out.b.alloc hsz _).grown hgrow (by simp; omega) (fun q eq=>(World.ownsRow.lt st.out.r q eq).1)⟩; clear hown' hgrow)
        exact ⟨⟨k + 2,out ++ [c],by omega,by simp,⟨by omega,by simp; omega⟩,st2,nl⟩,by simp [intOf]; omega⟩
      · have h2':q < 0:=by omega
        have fin:Hid (T=none):=bd.out (fun h=>h2 h.2);have B:Hid (Below w.heap.size w wd):=st.out.b;clear nx bd st;go_wp2
        go_ret2
        exact ⟨_,by rw [fin.out]; rfl,by rw [fin.out]; exact .inl ⟨rfl,rfl⟩,B.out⟩
    · have h1':p < 0:=by omega
      have fin:Hid (T=none):=bd.out (fun h=>h1 h.1);have B:Hid (Below w.heap.size w wd):=st.out.b;clear nx bd st;go_wp2
      go_ret2
      exact ⟨_,by rw [fin.out]; rfl,by rw [fin.out]; exact .inl ⟨rfl,rfl⟩,B.out⟩
  · obtain rfl:k=s.size:=by omega
    have fin:Hid (T=some out):=by
     have h:=left.out;rw [List.drop_eq_nil_of_le (by simp)] at h;exact h.fin
    have X:Hid (BytesAt wr u4 out):=st.out.r.at;have B:Hid (Below w.heap.size w wr):=st.out.b;clear left st hlt;go_wp2
    go_ret2
    exact ⟨_,by rw [fin.out]; rfl,by rw [fin.out]; exact X.out,B.out⟩
theorem rhex_none (s:ByteArray) (w:World) (h0:(s.size:Int)=0) :
 Calls Tryz.prog 68 #[.string s] w fun e w'=>e=.returned (.tuple #[.slice none 0 0,.bool false])∧w'=w:=by
 go_enter Tryz.func68,Tryz.ntmps68
 go_wp2
 go_ret2
 exact ⟨rfl,rfl⟩
theorem rhex_odd (s:ByteArray) (w:World) (hs:(s.size:Int)≤5000) (h0:0 < (s.size:Int)) (hev:(s.size:Int) % 2=1) :
 Calls Tryz.prog 68 #[.string s] w fun e w'=>e=.returned (.tuple #[.slice none 0 0,.bool false])∧w'=w:=by
 have hz:((s.size:Int) == 0)=false:=beq_eq_false_iff_ne.2 (by omega)
 go_enter Tryz.func68,Tryz.ntmps68
 go_wp2
 go_ret2
 exact ⟨rfl,rfl⟩
theorem rhex_any (s:ByteArray) (w:World) (hs:(s.size:Int)≤5000) :
 Calls Tryz.prog 68 #[.string s] w fun e w'=>∃ v,e=.returned (.tuple #[v,.bool (hexR s.data.toList).isSome])∧BytesAt w' v ((hexR s.data.toList).getD [])∧Below w.heap.size w w':=by
 have hl:s.data.toList.length=s.size:=by simp
 by_cases h0:s.size=0
 · have e:hexR s.data.toList=none:=by unfold hexR; rw [if_pos (List.length_eq_zero_iff.1 (hl.trans h0))]
   rw [e];refine (rhex_none s w (by omega)).mono ?_;rintro e w' ⟨rfl,rfl⟩;exact ⟨_,rfl,.inl ⟨rfl,rfl⟩,Below.refl _ _⟩
 · have e:hexR s.data.toList=hexO s.data.toList:=by unfold hexR; rw [if_neg (fun q=>h0 (by rw [← hl,q]; rfl))]
   rw [e]
   by_cases h1:s.size % 2=1
   · rw [hex_odd _ (by rw [hl]; exact h1)];refine (rhex_odd s w hs (by omega) (by omega)).mono ?_;rintro e w' ⟨rfl,rfl⟩;exact ⟨_,rfl,.inl ⟨rfl,rfl⟩,Below.refl _ _⟩
   · exact rhex_main s w hs (by omega) (by omega) _ rfl
theorem rnum_e (s:ByteArray) (w:World) (lo hi V E:Int) (bV:-9223372036854775808≤V∧V≤9223372036854775807) (hE:¬ E=0) (hE2:(E != 0)=true) (f:Hid (Calls Tryz.prog 94 #[.string s] w fun e w'=>e=.returned (.tuple #[.int .i64 V,.int .i64 E])∧w'=w)) :
 Calls Tryz.prog 65 #[.string s,.int .i64 lo,.int .i64 hi] w fun e w'=>e=.returned (.tuple #[.int .i64 0,.bool false])∧w'=w:=by
 go_enter Tryz.func65,Tryz.ntmps65
 go_wp2_with fail
 refine f.out.mono ?_;rintro e w1 ⟨rfl,rfl⟩;clear f;go_wp2
 go_ret2
 exact ⟨rfl,rfl⟩
theorem rnum_lo (s:ByteArray) (w:World) (lo hi V:Int) (bV:-9223372036854775808≤V∧V≤9223372036854775807) (q1:V < lo) (f:Hid (Calls Tryz.prog 94 #[.string s] w fun e w'=>e=.returned (.tuple #[.int .i64 V,.int .i64 0])∧w'=w)) :
 Calls Tryz.prog 65 #[.string s,.int .i64 lo,.int .i64 hi] w fun e w'=>e=.returned (.tuple #[.int .i64 0,.bool false])∧w'=w:=by
 go_enter Tryz.func65,Tryz.ntmps65
 go_wp2_with fail
 refine f.out.mono ?_;rintro e w1 ⟨rfl,rfl⟩;clear f;go_wp2
 go_ret2
 exact ⟨rfl,rfl⟩
theorem rnum_hi (s:ByteArray) (w:World) (lo hi V:Int) (bV:-9223372036854775808≤V∧V≤9223372036854775807) (q0:lo≤V) (q1:hi < V) (f:Hid (Calls Tryz.prog 94 #[.string s] w fun e w'=>e=.returned (.tuple #[.int .i64 V,.int .i64 0])∧w'=w)) :
 Calls Tryz.prog 65 #[.string s,.int .i64 lo,.int .i64 hi] w fun e w'=>e=.returned (.tuple #[.int .i64 0,.bool false])∧w'=w:=by
 go_enter Tryz.func65,Tryz.ntmps65
 go_wp2_with fail
 refine f.out.mono ?_;rintro e w1 ⟨rfl,rfl⟩;clear f;go_wp2
 go_ret2
 exact ⟨rfl,rfl⟩
theorem rnum_ok (s:ByteArray) (w:World) (lo hi V:Int) (bV:-9223372036854775808≤V∧V≤9223372036854775807) (q0:lo≤V) (q1:V≤hi) (f:Hid (Calls Tryz.prog 94 #[.string s] w fun e w'=>e=.returned (.tuple #[.int .i64 V,.int .i64 0])∧w'=w)) :
 Calls Tryz.prog 65 #[.string s,.int .i64 lo,.int .i64 hi] w fun e w'=>e=.returned (.tuple #[.int .i64 V,.bool true])∧w'=w:=by
 go_enter Tryz.func65,Tryz.ntmps65
 go_wp2_with fail
 refine f.out.mono ?_;rintro e w1 ⟨rfl,rfl⟩;clear f;go_wp2
 go_ret2
 exact ⟨rfl,rfl⟩
theorem rnum_any (s:ByteArray) (w:World) (hs:s.size≤maxLen) (lo hi:Int):Calls Tryz.prog 65 #[.string s,.int .i64 lo,.int .i64 hi] w fun e w'=>e=.returned (.tuple #[.int .i64 (numV s.data.toList lo hi),.bool (numB s.data.toList lo hi)])∧w'=w:=by
 have f:=rread_any s w hs;have bV:=readV_bd s.data.toList;unfold numV;obtain ⟨B,hB⟩:∃ B,numB s.data.toList lo hi=B:=⟨_,rfl⟩;have hB2:=hB;unfold numB at hB2;rw [hB]
 by_cases hE:readE s.data.toList=0
 · rw [hE] at f hB2
   by_cases q0:lo≤readV s.data.toList
   · by_cases q1:readV s.data.toList≤hi
     · obtain rfl:B=true:=by rw [← hB2]; simp [q0,q1]
       rw [if_pos rfl];exact rnum_ok s w lo hi _ bV q0 q1 f
     · obtain rfl:B=false:=by rw [← hB2]; simp; omega
       rw [if_neg (by simp)];exact rnum_hi s w lo hi _ bV q0 (by omega) f
   · obtain rfl:B=false:=by rw [← hB2]; simp; omega
     rw [if_neg (by simp)];exact rnum_lo s w lo hi _ bV (by omega) f
 · obtain rfl:B=false:=by rw [← hB2]; simp [hE]
   rw [if_neg (by simp)];exact rnum_e s w lo hi _ _ bV hE (bne_iff_ne.2 hE) f
def NameP:Prop:=∀ (s:ByteArray) (w:World),(s.size:Int)≤5000→Calls Tryz.prog 46 #[.string s] w fun e w'=>e=.returned (.bool (nameB s.data.toList))∧Below w.heap.size w w'
theorem same_w {f:FuncId} {args:Array Value} {x:World} {v:Value} (h:Calls Tryz.prog f args x fun e w'=>e=.returned v∧w'=x):Calls Tryz.prog f args x fun e w'=>e=.returned v∧Below x.heap.size x w':=
 h.mono fun _ _ ⟨a,b⟩=>⟨a,by rw [b]; exact Below.refl _ _⟩
def HexP:Prop:=∀ (s:ByteArray) (w:World),(s.size:Int)≤5000→Calls Tryz.prog 130 #[.string s] w fun e w'=>∃ v,e=.returned (.tuple #[v,.bool (hexR s.data.toList).isSome])∧BytesAt w' v ((hexR s.data.toList).getD [])∧Below w.heap.size w w'
end Go.Proofs.YthabffjgdhfbmaaGreatDoor
