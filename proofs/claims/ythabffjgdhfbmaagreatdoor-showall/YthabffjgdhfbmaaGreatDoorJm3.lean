/-
  Texts that belong together, one behind the other: DsMath, DsMem, MapStr, DsMap, LexWordNm, LexNmP, LexWordP, LexPN, LexPM, LexPD, LexPH. Conditions: as each says.
-/
import Derived.BigQuiet
import Derived.Deep.CutRange
import Derived.Deep.OwnRows
import Derived.Deep.QuietTactic
import Derived.Laws.BytesArg
import Derived.Laws.RangeAny
import Derived.Laws.ShiftsVar
import Derived.Maps.AppendAt
import Derived.Test.YthabffjgdhfbmaaGreatDoorJm1
import Derived.Test.YthabffjgdhfbmaaGreatDoorJm2
set_option maxRecDepth 100000
set_option maxHeartbeats 32000000
set_option linter.unusedVariables false
namespace Go.Proofs.YthabffjgdhfbmaaGreatDoor
open Go.RowKit
def dv0:Dv:=⟨[],0,0,0,0,[],[],[],0,0,0,0⟩
abbrev Lr:=Int × List Wd
def kDev:Wd:=[100,101,118,105,99,101]
def kSta:Wd:=[115,116,97,114,116]
def kEsc:Wd:=[101,115,99,97,112,101]
def kSiz:Wd:=[115,105,122,101]
def kSum:Wd:=[115,117,109]
def kReq:Wd:=[114,101,113,117,101,115,116]
def kPol:Wd:=[112,111,108,108]
def kTim:Wd:=[116,105,109,101,111,117,116]
def kRet:Wd:=[114,101,116,114,105,101,115]
def kAge:Wd:=[97,103,101]
def kFie:Wd:=[102,105,101,108,100]
def tenK:List Wd:=[kDev,kSta,kEsc,kSiz,kSum,kReq,kPol,kTim,kRet,kAge]
def octO (w:Wd):Option Nat:=
 match hexR w with
 | some [b]=>some b
 | _=>none
def fldO (a:List Wd):Option Fd:=
 match a with
 | [n,p,k,wd,s,o,u]=>
  if (nameB n=true∧nameB k=true∧nameB u=true)∧numB p 0 31=true∧numB wd 1 8=true∧frB s=true∧frB o=true
  then some ⟨n,readV p,k,readV wd,frN s,frD s,frN o,frD o,u⟩ else none
 | _=>none
def mName (a:List Wd) (k:Wd→Dv→Dv):Option (Dv→Dv):=
 match a with
 | [x]=>if nameB x=true then some (k x) else none
 | _=>none
def mNum (a:List Wd) (lo hi:Int) (k:Int→Dv→Dv):Option (Dv→Dv):=
 match a with
 | [x]=>if numB x lo hi=true then some (k (readV x)) else none
 | _=>none
def mSta (a:List Wd):Option (Dv→Dv):=
 match a with
 | [x]=>Option.map (fun (b:Nat) (d:Dv)=>{ d with st:=(b:Int) }) (octO x)
 | _=>none
def mEsc (a:List Wd):Option (Dv→Dv):=
 match a with
 | [x,y]=>(octO x).bind fun (b:Nat)=>Option.map (fun (c:Nat) (d:Dv)=>{ d with es:=(b:Int),mx:=(c:Int) }) (octO y)
 | _=>none
def mReq (a:List Wd):Option (Dv→Dv):=
 match a with
 | [x]=>(hexR x).bind fun b=>if b.length≤16 then some fun d=>{ d with rq:=b } else none
 | _=>none
def updM (f:Wd) (a:List Wd):Option (Dv→Dv):=
 if f=kDev then mName a (fun x d=>{ d with nm:=x })
 else if f=kSta then mSta a
 else if f=kEsc then mEsc a
 else if f=kSiz then mNum a 1 32 (fun x d=>{ d with sz:=x })
 else if f=kSum then mName a (fun x d=>{ d with sm:=x })
 else if f=kReq then mReq a
 else if f=kPol then mNum a 1 1000 (fun x d=>{ d with po:=x })
 else if f=kTim then mNum a 1 1000 (fun x d=>{ d with ti:=x })
 else if f=kRet then mNum a 0 10 (fun x d=>{ d with re:=x })
 else if f=kAge then mNum a 1 1000 (fun x d=>{ d with ag:=x })
 else if f=kFie then (fldO a).map fun x d=>{ d with fs:=d.fs ++ [x] }
 else none
def knownB (f:Wd):Bool:=decide (f ∈ tenK ∨ f=kFie)
def stepM (d:Dv) (seen:List Wd) (ws:List Wd):Except Nat Dv:=
 match ws with
 | []=>.error 6
 | f :: a=>
  if knownB f=false then .error 6
  else if f ≠ kFie∧f ∈ seen then .error 8
  else if f=kFie∧d.fs.length=8 then .error 7
  else match updM f a with
   | none=>.error 6
   | some u=>.ok (u d)
def lackB (seen:List Wd):Bool:=decide (∃ k ∈ tenK,k ∉ seen)
def goM (d:Dv) (seen:List Wd):List Lr→Dv × Int × Nat
 | []=>if lackB seen=true then (dv0,0,9) else (d,0,0)
 | r :: rs=>
  match stepM d seen r.2 with
  | .error e=>(dv0,r.1,e)
  | .ok d'=>goM d' (seen ++ [r.2.headD []]) rs
def readM (rs:List Lr):Dv × Int × Nat:=goM dv0 [] rs
theorem upd_form {f:Wd} {a:List Wd} {u:Dv→Dv} (h:updM f a=some u) :
 (f=kDev∧∃ x,nameB x=true∧u=fun d=>{ d with nm:=x }) ∨ (f=kSta∧∃ x:Nat,u=fun d=>{ d with st:=(x:Int) }) ∨ (f=kEsc∧∃ x y:Nat,u=fun d=>{ d with es:=(x:Int),mx:=(y:Int) })
 ∨ (f=kSiz∧∃ x,u=fun d=>{ d with sz:=x }) ∨ (f=kSum∧∃ x,nameB x=true∧u=fun d=>{ d with sm:=x }) ∨ (f=kReq∧∃ x,u=fun d=>{ d with rq:=x })
 ∨ (f=kPol∧∃ x,u=fun d=>{ d with po:=x }) ∨ (f=kTim∧∃ x,u=fun d=>{ d with ti:=x }) ∨ (f=kRet∧∃ x,u=fun d=>{ d with re:=x }) ∨ (f=kAge∧∃ x,u=fun d=>{ d with ag:=x })
 ∨ (f=kFie∧∃ x,u=fun d=>{ d with fs:=d.fs ++ [x] }):=by
 have hn:∀ {k:Wd→Dv→Dv},mName a k=some u→∃ x,nameB x=true∧u=k x:=by
  intro k h;unfold mName at h
  split at h
  · split at h
    · exact ⟨_,by assumption,(Option.some.inj h).symm⟩
    · cases h
  · cases h
 have hm:∀ {lo hi} {k:Int→Dv→Dv},mNum a lo hi k=some u→∃ x,u=k x:=by
  intro lo hi k h;unfold mNum at h
  split at h
  · split at h
    · exact ⟨_,(Option.some.inj h).symm⟩
    · cases h
  · cases h
 unfold updM at h
 by_cases h0:f=kDev
 · rw [if_pos h0] at h;obtain ⟨x,hx,e⟩:=hn h;exact .inl ⟨h0,x,hx,e⟩
 rw [if_neg h0] at h
 by_cases h1:f=kSta
 · rw [if_pos h1] at h;refine .inr (.inl ⟨h1,?_⟩);unfold mSta at h
   split at h
   · obtain ⟨b,_,e⟩:=Option.map_eq_some_iff.1 h; exact ⟨b,e.symm⟩
   · cases h
 rw [if_neg h1] at h
 by_cases h2:f=kEsc
 · rw [if_pos h2] at h;refine .inr (.inr (.inl ⟨h2,?_⟩));unfold mEsc at h
   split at h
   · obtain ⟨b,_,e⟩:=Option.bind_eq_some_iff.1 h;obtain ⟨c,_,e⟩:=Option.map_eq_some_iff.1 e;exact ⟨b,c,e.symm⟩
   · cases h
 rw [if_neg h2] at h
 by_cases h3:f=kSiz
 · rw [if_pos h3] at h;obtain ⟨x,e⟩:=hm h;exact .inr (.inr (.inr (.inl ⟨h3,x,e⟩)))
 rw [if_neg h3] at h
 by_cases h4:f=kSum
 · rw [if_pos h4] at h;obtain ⟨x,hx,e⟩:=hn h;exact .inr (.inr (.inr (.inr (.inl ⟨h4,x,hx,e⟩))))
 rw [if_neg h4] at h
 by_cases h5:f=kReq
 · rw [if_pos h5] at h;refine .inr (.inr (.inr (.inr (.inr (.inl ⟨h5,?_⟩)))));unfold mReq at h
   split at h
   · obtain ⟨b,_,e⟩:=Option.bind_eq_some_iff.1 h
     split at e
     · exact ⟨b,(Option.some.inj e).symm⟩
     · cases e
   · cases h
 rw [if_neg h5] at h
 by_cases h6:f=kPol
 · rw [if_pos h6] at h;obtain ⟨x,e⟩:=hm h;exact .inr (.inr (.inr (.inr (.inr (.inr (.inl ⟨h6,x,e⟩))))))
 rw [if_neg h6] at h
 by_cases h7:f=kTim
 · rw [if_pos h7] at h;obtain ⟨x,e⟩:=hm h;exact .inr (.inr (.inr (.inr (.inr (.inr (.inr (.inl ⟨h7,x,e⟩)))))))
 rw [if_neg h7] at h
 by_cases h8:f=kRet
 · rw [if_pos h8] at h;obtain ⟨x,e⟩:=hm h;exact .inr (.inr (.inr (.inr (.inr (.inr (.inr (.inr (.inl ⟨h8,x,e⟩))))))))
 rw [if_neg h8] at h
 by_cases h9:f=kAge
 · rw [if_pos h9] at h;obtain ⟨x,e⟩:=hm h;exact .inr (.inr (.inr (.inr (.inr (.inr (.inr (.inr (.inr (.inl ⟨h9,x,e⟩)))))))))
 rw [if_neg h9] at h
 by_cases h10:f=kFie
 · rw [if_pos h10] at h;obtain ⟨x,_,e⟩:=Option.map_eq_some_iff.1 h;exact .inr (.inr (.inr (.inr (.inr (.inr (.inr (.inr (.inr (.inr (⟨h10,x,e.symm⟩))))))))))
 rw [if_neg h10] at h
 cases h
theorem upd_len {f:Wd} {a:List Wd} {u:Dv→Dv} (hu:updM f a=some u) (d:Dv):(u d).fs.length=d.fs.length + (if f=kFie then 1 else 0):=by
 rcases upd_form hu with ⟨rfl,x,_,rfl⟩ | ⟨rfl,x,rfl⟩ | ⟨rfl,x,y,rfl⟩ | ⟨rfl,x,rfl⟩ | ⟨rfl,x,_,rfl⟩ | ⟨rfl,x,rfl⟩ | ⟨rfl,x,rfl⟩ | ⟨rfl,x,rfl⟩ | ⟨rfl,x,rfl⟩ | ⟨rfl,x,rfl⟩ | ⟨rfl,x,rfl⟩
 all_goals first | (rw [if_neg (by decide)]; rfl) | (rw [if_pos rfl]; simp)
theorem step_ok {d d':Dv} {s:List Wd} {ws:List Wd} (h:stepM d s ws=.ok d'):∃ f a u,ws=f :: a∧knownB f=true∧¬ (f ≠ kFie∧f ∈ s)∧¬ (f=kFie∧d.fs.length=8)∧updM f a=some u∧d'=u d:=by
 unfold stepM at h
 split at h
 · cases h
 · split at h
   · cases h
   split at h
   · cases h
   split at h
   · cases h
   split at h
   · cases h
   · rename_i f a h1 h2 h3 _ u hu
     exact ⟨f,a,u,rfl,by cases hk:knownB f <;> simp_all,h2,h3,hu,(Except.ok.inj h).symm⟩
theorem ok_step {d:Dv} {s:List Wd} {f:Wd} {a:List Wd} {u:Dv→Dv} (h1:knownB f=true) (h2:¬ (f ≠ kFie∧f ∈ s)) (h3:¬ (f=kFie∧d.fs.length=8)) (hu:updM f a=some u):stepM d s (f :: a)=.ok (u d):=by
 unfold stepM;simp only [h1,hu];rw [if_neg (by decide),if_neg h2,if_neg h3]
theorem head_cons (f:Wd) (a:List Wd):(f :: a).headD []=f:=rfl
theorem go_ok {d d':Dv} {s:List Wd} {r:Lr} {rs:List Lr} (h:stepM d s r.2=.ok d'):goM d s (r :: rs)=goM d' (s ++ [r.2.headD []]) rs:=by rw [goM,h]
theorem nodup_sub (l:List Wd):∀ (m:List Wd),l.Nodup→(∀ x ∈ l,x ∈ m)→l.length≤m.length:=by
 induction l with
 | nil=>intro m _ _; simp
 | cons x l ih=>
  intro m hn hs;have h1:=List.nodup_cons.1 hn;have hx:x ∈ m:=hs x (by simp);have h2:=ih (m.erase x) h1.2 (fun y hy=>(List.mem_erase_of_ne (fun e=>h1.1 (by rw [← e]; exact hy))).2 (hs y (by simp [hy])));rw [List.length_erase_of_mem hx] at h2;have:0 < m.length:=List.length_pos_of_mem hx;simp only [List.length_cons]; omega
def notF (s:List Wd):List Wd:=s.filter fun x=>!decide (x=kFie)
structure SeenOk (d:Dv) (s:List Wd):Prop where
 nd:(notF s).Nodup
 sub:∀ x ∈ s,x ∈ tenK ∨ x=kFie
 cnt:s.count kFie=d.fs.length
 le:d.fs.length≤8
theorem SeenOk.first:SeenOk dv0 []:=⟨by decide,fun x h=>(by cases h),rfl,by decide⟩
theorem SeenOk.step {d d':Dv} {s:List Wd} {ws:List Wd} (h:SeenOk d s) (hs:stepM d s ws=.ok d'):SeenOk d' (s ++ [ws.headD []]):=by
 obtain ⟨f,a,u,rfl,k1,t1,z1,u1,rfl⟩:=step_ok hs;rw [head_cons];have hl:=upd_len u1 d;have hk:f ∈ tenK ∨ f=kFie:=by simpa [knownB] using k1
 refine ⟨?_,?_,?_,?_⟩
 · unfold notF;rw [List.filter_append]
   by_cases hf:f=kFie
   · rw [show List.filter (fun x=>!decide (x=kFie)) [f]=[] by simp [hf],List.append_nil]; exact h.nd
   · rw [show List.filter (fun x=>!decide (x=kFie)) [f]=[f] by simp [hf]];refine List.nodup_append.2 ⟨h.nd,by simp,?_⟩;intro x hx y hy e;have hy':y=f:=by simpa using hy
     exact t1 ⟨hf,by rw [← hy',← e]; exact (List.mem_filter.1 hx).1⟩
 · intro x hx;rcases List.mem_append.1 hx with hx | hx
   · exact h.sub x hx
   · have:x=f:=by simpa using hx
     rw [this]; exact hk
 · rw [List.count_append,h.cnt,hl,List.count_singleton]
   by_cases hf:f=kFie
   · rw [hf]; simp
   · rw [if_neg hf]; simp [hf]
 · rw [hl];have:=h.le
   by_cases hf:f=kFie
   · rw [if_pos hf];have:¬ d.fs.length=8:=fun e=>z1 ⟨hf,e⟩
     omega
   · rw [if_neg hf]; omega
theorem tenK_nf:∀ k ∈ tenK,¬ k=kFie:=by decide
def lrOf (rs:List Ln):List Lr:=rs.map fun r=>((r.1:Int),r.2)
theorem oct_some {w:Wd} {b:Nat} (h:hexR w=some [b]):octO w=some b:=by unfold octO; rw [h]
theorem oct_none {w:Wd} (h:hexR w=none):octO w=none:=by unfold octO; rw [h]
theorem oct_long {w:Wd} {bs:List Nat} (h:hexR w=some bs) (hl:¬ bs.length=1):octO w=none:=by
 unfold octO;rw [h]
 match bs,hl with
 | [],_=>rfl
 | [b],hl=>exact absurd rfl hl
 | _ :: _ :: _,_=>rfl
theorem hexR_b {l:List UInt8} {bs:List Nat} (h:hexR l=some bs):AllBytes bs∧bs.length≤l.length:=by
 unfold hexR at h
 split at h
 · cases h
 · exact hex_bytes l h
section
variable {P:Program}
theorem obj_map (w:World) (g:Nat) (es:Array MapEntry) (c:Nat) (h:w.heap[g]?=some (.map es c)):(getObj g).run P w=.ok (.map es c) w:=by
 simp [getObj,Sem.run,h]
theorem set_map (w:World) (g:Nat) (es:Array MapEntry) (c:Nat) (h:w.heap[g]?=some (.map es c)) {o:Obj}:(setObj g o).run P w=.ok () { w with heap:=w.heap.setIfInBounds g o }:=by
 simp [setObj,Sem.run,h]
theorem key_str (w:World) (b:Bool) (K:TypeId) (hk:P.underlying K=some .string) (s:ByteArray):(Instr.checkKey b 10000 K (.string s)).run P w=.ok () w:=by
 unfold Instr.checkKey;simp [run_underlying hk,Result.andThen]
theorem find_str (w:World) (K:TypeId) (hk:P.underlying K=some .string) (s:ByteArray) (es:List MapEntry) (r:Option (Nat × Value)) (hf:Instr.findNow .string (.string s) es 0=some r):(Instr.findKey K (.string s) es).run P w=.ok r w:=by
 simp [Instr.findKey,run_underlying hk,Result.andThen,hf]
theorem push_last (h:Array Obj) (o o':Obj):(h.push o).setIfInBounds h.size o'=h.push o':=by
 apply Array.ext_getElem?;intro i;rw [Array.getElem?_setIfInBounds,Array.getElem?_push,Array.getElem?_push]
 by_cases e:h.size=i
 · subst e; simp
 · rw [if_neg e,if_neg (Ne.symm e),if_neg (Ne.symm e)]
theorem mset_last (w:World) (o o':Obj):({ w.alloc o with heap:=(w.alloc o).heap.setIfInBounds w.heap.size o' }:World)=w.alloc o':=by
 show ({ w with heap:=(w.heap.push o).setIfInBounds w.heap.size o' }:World)={ w with heap:=w.heap.push o' };rw [push_last]
theorem insert_str (T K E:TypeId) (ht:P.underlying T=some (.map K E)) (hk:P.underlying K=some .string) (es:Array MapEntry) (c:Nat) (s:ByteArray) (v:Value) (hf:Instr.findNow .string (.string s) es.toList 0=some none) (w:World) :
 (Instr.mapUpdate T (.map (some w.heap.size)) (.string s) v).run P (w.alloc (.map es c))=.ok () (w.alloc (.map (es.push { key:=.string s,val:=v,born:=c }) (c + 1))):=by
 have hb:(w.alloc (.map es c)).heap[w.heap.size]?=some (.map es c):=World.alloc_heap_new w _;have hs:(setObj w.heap.size (.map (es.push { key:=.string s,val:=v,born:=c }) (c + 1))).run P (w.alloc (.map es c))=.ok () (w.alloc (.map (es.push { key:=.string s,val:=v,born:=c }) (c + 1))):=by
  rw [set_map (w.alloc (.map es c)) _ _ _ hb,mset_last]
 unfold Instr.mapUpdate;simp [run_underlying ht,obj_map _ _ _ _ hb,key_str _ _ _ hk,find_str _ _ hk _ _ _ hf,hs,Result.andThen]
theorem lookup_str (T K E:TypeId) (ht:P.underlying T=some (.map K E)) (hk:P.underlying K=some .string) (w:World) (g:Nat) (es:Array MapEntry) (c:Nat) (hb:w.heap[g]?=some (.map es c)) (s:ByteArray) (i:Nat) (v:Value) (hf:Instr.findNow .string (.string s) es.toList 0=some (some (i,v))) :
 (Instr.lookup T (.map (some g)) (.string s) true).run P w=.ok (.tuple #[v,.bool true]) w:=by
 unfold Instr.lookup;simp [run_underlying ht,obj_map _ _ _ _ hb,key_str _ _ _ hk,find_str _ _ hk _ _ _ hf,Result.andThen]
theorem lookup_no (T K E:TypeId) (ht:P.underlying T=some (.map K E)) (hk:P.underlying K=some .string) (w:World) (g:Nat) (es:Array MapEntry) (c:Nat) (hb:w.heap[g]?=some (.map es c)) (s:ByteArray) (z:Value) (hz:(zeroValue E).run P w=.ok z w) (hf:Instr.findNow .string (.string s) es.toList 0=some none) :
 (Instr.lookup T (.map (some g)) (.string s) true).run P w=.ok (.tuple #[z,.bool false]) w:=by
 unfold Instr.lookup;simp [run_underlying ht,obj_map _ _ _ _ hb,key_str _ _ _ hk,find_str _ _ hk _ _ _ hf,hz,Result.andThen]
end
theorem same_str (a b:ByteArray):Instr.sameNow .string (.string a) (.string b)=some (a == b):=by rfl
theorem ba_beq (a b:ByteArray):(a == b)=decide (a=b):=by
 rcases a with ⟨a⟩
 rcases b with ⟨b⟩
 rw [Bool.eq_iff_iff,decide_eq_true_iff]
 constructor
 · intro h;have h':(a == b)=true:=h;rw [eq_of_beq h']
 · intro h;have:a=b:=by injection h
   show (a == b)=true;rw [this];exact beq_self_eq_true _
theorem txt_beq (a b:Wd):(txt a == txt b)=decide (a=b):=by
 rw [ba_beq,decide_eq_decide];exact ⟨txt_inj,fun h=>by rw [h]⟩
theorem bits_same (s:ByteArray):Instr.sameBits 10000 (.string s) (.string s)=true:=by
 unfold Instr.sameBits;rw [ba_beq];exact decide_eq_true rfl
theorem find_list (s:Wd):∀ (es:List MapEntry) (n:Nat),(∀ e ∈ es,∃ f,e.key=.string (txt f)) →
 (Instr.findNow .string (.string (txt s)) es n=some none∧∀ e ∈ es,e.key ≠ .string (txt s)) ∨ ∃ i e,es[i]?=some e∧e.key=.string (txt s)∧Instr.findNow .string (.string (txt s)) es n=some (some (n + i,e.val))
 | [],n,_=>.inl ⟨rfl,fun e h=>(by cases h)⟩
 | e :: es,n,h=>by
  obtain ⟨f,hf⟩:=h e (by simp)
  by_cases hs:s=f
  · subst hs;refine .inr ⟨0,e,rfl,hf,?_⟩;rw [Instr.findNow,hf,same_str,txt_beq,decide_eq_true rfl];rfl
  · have e1:Instr.findNow .string (.string (txt s)) (e :: es) n=Instr.findNow .string (.string (txt s)) es (n + 1):=by
     rw [Instr.findNow,hf,same_str,txt_beq,decide_eq_false hs]
    rcases find_list s es (n + 1) (fun e' he'=>h e' (by simp [he'])) with ⟨h1,h2⟩ | ⟨i,e',h1,h2,h3⟩
    · refine .inl ⟨by rw [e1]; exact h1,fun e' he'=>?_⟩;rcases List.mem_cons.1 he' with rfl | he'
      · rw [hf]; intro hc; injection hc with hc; exact hs (txt_inj hc).symm
      · exact h2 e' he'
    · exact .inr ⟨i + 1,e',h1,h2,by rw [e1,h3]; congr 3; omega⟩
theorem find_arr (s:Wd) (es:Array MapEntry) (h:∀ (i:Nat) (e:MapEntry),es[i]?=some e→∃ f,e.key=.string (txt f)) :
 (Instr.findNow .string (.string (txt s)) es.toList 0=some none∧∀ (i:Nat) (e:MapEntry),es[i]?=some e→e.key ≠ .string (txt s)) ∨ ∃ (i:Nat) (e:MapEntry),es[i]?=some e∧e.key=.string (txt s)∧Instr.findNow .string (.string (txt s)) es.toList 0=some (some (i,e.val)):=by
 rcases find_list s es.toList 0 (fun e he=>by
  obtain ⟨i,hi⟩:=List.mem_iff_getElem?.1 he;exact h i e (by rwa [Array.getElem?_toList] at hi)) with ⟨h1,h2⟩ | ⟨i,e,h1,h2,h3⟩
 · exact .inl ⟨h1,fun i e he=>h2 e (List.mem_of_getElem? (i:=i) (by rw [Array.getElem?_toList]; exact he))⟩
 · exact .inr ⟨i,e,by rwa [Array.getElem?_toList] at h1,h2,by rw [h3,Nat.zero_add]⟩
section
variable {P:Program}
theorem look_found (T K E:TypeId) (ht:P.underlying T=some (.map K E)) (hk:P.underlying K=some .string) (w:World) (g:Nat) (es:Array MapEntry) (c:Nat) (hb:w.heap[g]?=some (.map es c)) (s:ByteArray) (i:Nat) (v:Value) (hf:Instr.findNow .string (.string s) es.toList 0=some (some (i,v))) :
 (Instr.lookup T (.map (some g)) (.string s) false).run P w=.ok v w:=by
 unfold Instr.lookup;simp [run_underlying ht,obj_map _ _ _ _ hb,key_str _ _ _ hk,find_str _ _ hk _ _ _ hf,Result.andThen]
theorem look_none (T K E:TypeId) (ht:P.underlying T=some (.map K E)) (hk:P.underlying K=some .string) (w:World) (g:Nat) (es:Array MapEntry) (c:Nat) (hb:w.heap[g]?=some (.map es c)) (s:ByteArray) (z:Value) (hz:(zeroValue E).run P w=.ok z w) (hf:Instr.findNow .string (.string s) es.toList 0=some none) :
 (Instr.lookup T (.map (some g)) (.string s) false).run P w=.ok z w:=by
 unfold Instr.lookup;simp [run_underlying ht,obj_map _ _ _ _ hb,key_str _ _ _ hk,find_str _ _ hk _ _ _ hf,hz,Result.andThen]
theorem ins_none (T K E:TypeId) (ht:P.underlying T=some (.map K E)) (hk:P.underlying K=some .string) (es:Array MapEntry) (c:Nat) (s:ByteArray) (v:Value) (hf:Instr.findNow .string (.string s) es.toList 0=some none) (w:World) (g:Nat) (hb:w.heap[g]?=some (.map es c)) :
 (Instr.mapUpdate T (.map (some g)) (.string s) v).run P w=.ok () { w with heap:=w.heap.setIfInBounds g (.map (es.push { key:=.string s,val:=v,born:=c }) (c + 1)) }:=by
 have hs:=set_map (P:=P) w g es c hb (o:=.map (es.push { key:=.string s,val:=v,born:=c }) (c + 1));unfold Instr.mapUpdate;simp [run_underlying ht,obj_map _ _ _ _ hb,key_str _ _ _ hk,find_str _ _ hk _ _ _ hf,hs,Result.andThen]
theorem ins_found (T K E:TypeId) (ht:P.underlying T=some (.map K E)) (hk:P.underlying K=some .string) (es:Array MapEntry) (c:Nat) (s:ByteArray) (v u:Value) (i:Nat) (e:MapEntry) (he:es[i]?=some e) (hke:e.key=.string s) (hf:Instr.findNow .string (.string s) es.toList 0=some (some (i,u))) (w:World) (g:Nat) (hb:w.heap[g]?=some (.map es c)) :
 (Instr.mapUpdate T (.map (some g)) (.string s) v).run P w=.ok () { w with heap:=w.heap.setIfInBounds g (.map (es.modify i fun e=>{ e with key:=.string s,val:=v }) c) }:=by
 have hs:=set_map (P:=P) w g es c hb (o:=.map (es.modify i fun e=>{ e with key:=.string s,val:=v }) c);unfold Instr.mapUpdate;simp [run_underlying ht,obj_map _ _ _ _ hb,key_str _ _ _ hk,find_str _ _ hk _ _ _ hf,he,hke,Instr.keyThatStays,bits_same,hs,Result.andThen]
end
structure LnOk (es:Array MapEntry) (seen:List Wd):Prop where
 nd:∀ (i j:Nat) (a b:MapEntry),es[i]?=some a→es[j]?=some b→a.key=b.key→i=j
 key:∀ (i:Nat) (e:MapEntry),es[i]?=some e→∃ f:Wd,e.key=.string (txt f)∧e.val=.int .i64 ((seen.count f:Nat):Int)
 has:∀ f ∈ seen,∃ (i:Nat) (e:MapEntry),es[i]?=some e∧e.key=.string (txt f)
theorem LnOk.first:LnOk #[] []:=⟨fun i j a b h=>(by simp at h),fun i e h=>(by simp at h),fun f h=>(by cases h)⟩
theorem LnOk.strs {es:Array MapEntry} {seen:List Wd} (h:LnOk es seen) (i:Nat) (e:MapEntry) (he:es[i]?=some e):∃ f,e.key=.string (txt f):=by
 obtain ⟨f,h1,_⟩:=h.key i e he;exact ⟨f,h1⟩
theorem LnOk.look {es:Array MapEntry} {seen:List Wd} (h:LnOk es seen) (f:Wd):(Instr.findNow .string (.string (txt f)) es.toList 0=some none∧seen.count f=0) ∨ ∃ (i:Nat) (e:MapEntry),es[i]?=some e∧e.key=.string (txt f)∧Instr.findNow .string (.string (txt f)) es.toList 0=some (some (i,.int .i64 ((seen.count f:Nat):Int))):=by
 rcases find_arr f es h.strs with ⟨h1,h2⟩ | ⟨i,e,h1,h2,h3⟩
 · refine .inl ⟨h1,List.count_eq_zero.2 fun hm=>?_⟩;obtain ⟨i,e,he,hk⟩:=h.has f hm;exact h2 i e he hk
 · refine .inr ⟨i,e,h1,h2,?_⟩;obtain ⟨f',h4,h5⟩:=h.key i e h1;have:f'=f:=by
    rw [h2] at h4;injection h4 with h4
    exact (txt_inj h4).symm
   rw [h3,h5,this]
theorem LnOk.push {es:Array MapEntry} {seen:List Wd} (h:LnOk es seen) (f:Wd) (hn:Instr.findNow .string (.string (txt f)) es.toList 0=some none) (hc:seen.count f=0) (c:Nat):LnOk (es.push { key:=.string (txt f),val:=.int .i64 1,born:=c }) (seen ++ [f]):=by
 have nf:∀ (i:Nat) (e:MapEntry),es[i]?=some e→e.key ≠ .string (txt f):=by
  rcases find_arr f es h.strs with ⟨_,h2⟩ | ⟨i,e,h1,h2,h3⟩
  · exact h2
  · rw [hn] at h3; cases h3
 have at':∀ (i:Nat) (e:MapEntry),(es.push { key:=.string (txt f),val:=.int .i64 1,born:=c })[i]?=some e→es[i]?=some e ∨ (i=es.size∧e={ key:=.string (txt f),val:=.int .i64 1,born:=c }):=by
  intro i e he;rw [Array.getElem?_push] at he
  split at he
  · exact .inr ⟨by assumption,(Option.some.inj he).symm⟩
  · exact .inl he
 refine ⟨fun i j a b ha hb hab=>?_,fun i e he=>?_,fun g hg=>?_⟩
 · rcases at' i a ha with ha | ⟨rfl,rfl⟩
   · rcases at' j b hb with hb | ⟨rfl,rfl⟩
     · exact h.nd i j a b ha hb hab
     · exact absurd hab (nf i a ha)
   · rcases at' j b hb with hb | ⟨rfl,rfl⟩
     · exact absurd hab.symm (nf j b hb)
     · rfl
 · rcases at' i e he with he | ⟨rfl,rfl⟩
   · obtain ⟨g,h1,h2⟩:=h.key i e he;refine ⟨g,h1,?_⟩;have:¬ f=g:=fun e'=>nf i e he (by rw [h1,e'])
     rw [h2,List.count_append,List.count_singleton];simp [this]
   · refine ⟨f,rfl,?_⟩;rw [List.count_append,hc,List.count_singleton];simp
 · rcases List.mem_append.1 hg with hg | hg
   · obtain ⟨i,e,he,hk⟩:=h.has g hg;refine ⟨i,e,?_,hk⟩;have hlt:=(Array.getElem?_eq_some_iff.1 he).1;rw [Array.getElem?_push,if_neg (by omega)]; exact he
   · have:g=f:=by simpa using hg
     subst this;exact ⟨es.size,_,by rw [Array.getElem?_push,if_pos rfl],rfl⟩
theorem LnOk.turn {es:Array MapEntry} {seen:List Wd} (h:LnOk es seen) (f:Wd) {i:Nat} {e:MapEntry} (he:es[i]?=some e) (hk:e.key=.string (txt f)):LnOk (es.modify i fun e=>{ e with key:=.string (txt f),val:=.int .i64 ((seen.count f:Nat) + 1:Int) }) (seen ++ [f]):=by
 have at':∀ (j:Nat) (a:MapEntry),(es.modify i fun e=>{ e with key:=.string (txt f),val:=.int .i64 ((seen.count f:Nat) + 1:Int) })[j]?=some a→(j ≠ i∧es[j]?=some a) ∨ (j=i∧a={ e with key:=.string (txt f),val:=.int .i64 ((seen.count f:Nat) + 1:Int) }):=by
  intro j a ha;rw [Array.getElem?_modify] at ha
  by_cases hji:i=j
  · subst hji;rw [if_pos rfl,he] at ha;exact .inr ⟨rfl,(Option.some.inj ha).symm⟩
  · rw [if_neg hji] at ha;exact .inl ⟨Ne.symm hji,ha⟩
 have nf:∀ (j:Nat) (a:MapEntry),j ≠ i→es[j]?=some a→a.key ≠ .string (txt f):=fun j a hj ha hc=>hj (h.nd j i a e ha he (by rw [hc,hk]))
 refine ⟨fun j k a b ha hb hab=>?_,fun j a ha=>?_,fun g hg=>?_⟩
 · rcases at' j a ha with ⟨hj,ha2⟩ | ⟨hj,ha2⟩
   · rcases at' k b hb with ⟨hk2,hb2⟩ | ⟨hk2,hb2⟩
     · exact h.nd j k a b ha2 hb2 hab
     · exact absurd (hab.trans (by rw [hb2])) (nf j a hj ha2)
   · rcases at' k b hb with ⟨hk2,hb2⟩ | ⟨hk2,hb2⟩
     · exact absurd (hab.symm.trans (by rw [ha2])) (nf k b hk2 hb2)
     · rw [hj,hk2]
 · rcases at' j a ha with ⟨hj,ha2⟩ | ⟨rfl,rfl⟩
   · obtain ⟨g,h1,h2⟩:=h.key j a ha2;refine ⟨g,h1,?_⟩;have:¬ f=g:=fun e'=>nf j a hj ha2 (by rw [h1,e'])
     rw [h2,List.count_append,List.count_singleton];simp [this]
   · refine ⟨f,rfl,?_⟩;rw [List.count_append,List.count_singleton];simp
 · have:∃ (j:Nat) (a:MapEntry),es[j]?=some a∧a.key=.string (txt g):=by
    rcases List.mem_append.1 hg with hg | hg
    · exact h.has g hg
    · have:g=f:=by simpa using hg
      subst this;exact ⟨i,e,he,hk⟩
   obtain ⟨j,a,ha,hka⟩:=this
   by_cases hji:i=j
   · subst hji;refine ⟨i,_,by rw [Array.getElem?_modify,if_pos rfl,he]; rfl,?_⟩;rw [he] at ha
     cases ha
     rw [← hka,hk]
   · exact ⟨j,a,by rw [Array.getElem?_modify,if_neg hji]; exact ha,hka⟩
theorem sdrop_at {s:ByteArray} {k:Nat} (hk:k < s.size):s.data.toList.drop k=s[k] :: s.data.toList.drop (k + 1):=by
 have hl:k < s.data.toList.length:=by simpa using hk
 rw [List.drop_eq_getElem_cons hl];rfl
theorem name_form {s:ByteArray} (h0:0 < s.size):nameB s.data.toList=(decide (s.size≤12) && (lowB s[0] && allN s.data.toList)):=by
 have hl:s.data.toList.length=s.size:=by simp
 have e:s.data.toList=s[0] :: s.data.toList.drop 1:=by
  have:=sdrop_at (s:=s) (k:=0) h0
  simpa using this
 unfold nameB;rw [hl]
 congr 1
 obtain ⟨r,hr⟩:∃ r,s.data.toList=s[0] :: r:=⟨_,e⟩;rw [hr]
theorem ret_bb {x y:Bool} (h:y=x):Ending.returned (.bool x)=.returned (.bool y):=by rw [h]
theorem rname_main (s:ByteArray) (w:World) (h0:0 < s.size) (h12:(s.size:Int)≤12) (c1:(97:Int)≤(s[0].toNat:Int)) (c2:(s[0].toNat:Int)≤122) :
 Calls Tryz.prog 25 #[.string s] w fun e w'=>e=.returned (.bool (allN s.data.toList))∧w'=w:=by
 have h0i:(0:Int) < (s.size:Int):=by omega
 have g1:decide ((s.size:Int) < 1)=false:=decide_eq_false (by omega);have g2:decide (12 < (s.size:Int))=false:=decide_eq_false (by omega);have g3:decide ((s[0].toNat:Int) < 97)=false:=decide_eq_false (by omega);have g4:decide (122 < (s[0].toNat:Int))=false:=decide_eq_false (by omega);obtain ⟨T,hT⟩:∃ T,allN s.data.toList=T:=⟨_,rfl⟩;rw [hT];replace hT:Hid (allN s.data.toList=T):=hT
 go_enter Tryz.func25,Tryz.ntmps25
 go_wp2
 go_loop [3] (fun vi=>∃ k:Nat,(k:Int)≤(s.size:Int)∧vi=.int .i64 (k:Int)∧Hid (allN (s.data.toList.take k)=true)) (fun vi=>s.size - (intOf vi).toNat)
 case atStart=>exact ⟨0,by omega,rfl,rfl⟩
 case round=>
  obtain ⟨k,hk,rfl,hall⟩:=hrel
  by_cases hlt:k < s.size
  · have hki:(k:Int) < (s.size:Int):=by omega
    have hl:k < s.data.toList.length:=by simpa using hlt
    have stp:Hid (nameC s[k]=false→T=false):=fun h=>by rw [← hT.out]; exact allN_stop hl h
    have nx:Hid (nameC s[k]=true→allN (s.data.toList.take (k + 1))=true):=fun h=>allN_next hl hall.out h
    have lk:s[k].toNat < 256:=s[k].toNat_lt;clear hall hT g3 g4 c1 c2
    by_cases a1:(97:Int)≤(s[k].toNat:Int)
    · by_cases a2:(s[k].toNat:Int)≤122
      · have nl:Hid (allN (s.data.toList.take (k + 1))=true):=nx.out (by unfold nameC; simp; omega);have q1:decide ((s[k].toNat:Int) < 97)=false:=decide_eq_false (by omega);have q2:decide (122 < (s[k].toNat:Int))=false:=decide_eq_false (by omega);clear nx stp;go_wp2;exact ⟨⟨k + 1,by omega,by simp,nl⟩,by simp [intOf]; omega⟩
      · have fin:Hid (T=false):=stp.out (by unfold nameC; simp; omega);have q1:decide ((s[k].toNat:Int) < 97)=false:=decide_eq_false (by omega);have q2:decide (122 < (s[k].toNat:Int))=true:=decide_eq_true (by omega);have q3:decide ((s[k].toNat:Int) < 48)=false:=decide_eq_false (by omega);have q4:decide (57 < (s[k].toNat:Int))=true:=decide_eq_true (by omega);clear nx stp;go_wp2;go_ret;exact ⟨ret_bb fin.out,rfl⟩
    · have q1:decide ((s[k].toNat:Int) < 97)=true:=decide_eq_true (by omega)
      by_cases a3:(48:Int)≤(s[k].toNat:Int)
      · have q3:decide ((s[k].toNat:Int) < 48)=false:=decide_eq_false (by omega)
        by_cases a4:(s[k].toNat:Int)≤57
        · have nl:Hid (allN (s.data.toList.take (k + 1))=true):=nx.out (by unfold nameC; simp; omega);have q4:decide (57 < (s[k].toNat:Int))=false:=decide_eq_false (by omega);clear nx stp;go_wp2;exact ⟨⟨k + 1,by omega,by simp,nl⟩,by simp [intOf]; omega⟩
        · have fin:Hid (T=false):=stp.out (by unfold nameC; simp; omega);have q4:decide (57 < (s[k].toNat:Int))=true:=decide_eq_true (by omega);clear nx stp;go_wp2;go_ret;exact ⟨ret_bb fin.out,rfl⟩
      · have fin:Hid (T=false):=stp.out (by unfold nameC; simp; omega);have q3:decide ((s[k].toNat:Int) < 48)=true:=decide_eq_true (by omega);clear nx stp;go_wp2;go_ret;exact ⟨ret_bb fin.out,rfl⟩
  · obtain rfl:k=s.size:=by omega
    have fin:Hid (T=true):=by
     have h:=hall.out;rw [List.take_of_length_le (by simp)] at h;rw [← hT.out];exact h
    clear hall hT hlt g3 g4 c1 c2;go_wp2;go_ret;exact ⟨ret_bb fin.out,rfl⟩
theorem rname_zero (s:ByteArray) (w:World) (h0:(s.size:Int) < 1) :
 Calls Tryz.prog 25 #[.string s] w fun e w'=>e=.returned (.bool false)∧w'=w:=by
 have g1:decide ((s.size:Int) < 1)=true:=decide_eq_true (by omega)
 go_enter Tryz.func25,Tryz.ntmps25
 go_wp2;go_ret;exact ⟨rfl,rfl⟩
theorem rname_long (s:ByteArray) (w:World) (h12:12 < (s.size:Int)) :
 Calls Tryz.prog 25 #[.string s] w fun e w'=>e=.returned (.bool false)∧w'=w:=by
 have g1:decide ((s.size:Int) < 1)=false:=decide_eq_false (by omega);have g2:decide (12 < (s.size:Int))=true:=decide_eq_true (by omega)
 go_enter Tryz.func25,Tryz.ntmps25
 go_wp2;go_ret;exact ⟨rfl,rfl⟩
theorem rname_low (s:ByteArray) (w:World) (h0:0 < s.size) (h12:(s.size:Int)≤12) (c1:(s[0].toNat:Int) < 97) :
 Calls Tryz.prog 25 #[.string s] w fun e w'=>e=.returned (.bool false)∧w'=w:=by
 have h0i:(0:Int) < (s.size:Int):=by omega
 have g1:decide ((s.size:Int) < 1)=false:=decide_eq_false (by omega);have g2:decide (12 < (s.size:Int))=false:=decide_eq_false (by omega);have g3:decide ((s[0].toNat:Int) < 97)=true:=decide_eq_true (by omega)
 go_enter Tryz.func25,Tryz.ntmps25
 go_wp2;go_ret;exact ⟨rfl,rfl⟩
theorem rname_high (s:ByteArray) (w:World) (h0:0 < s.size) (h12:(s.size:Int)≤12) (c1:(97:Int)≤(s[0].toNat:Int)) (c2:(122:Int) < (s[0].toNat:Int)) :
 Calls Tryz.prog 25 #[.string s] w fun e w'=>e=.returned (.bool false)∧w'=w:=by
 have h0i:(0:Int) < (s.size:Int):=by omega
 have g1:decide ((s.size:Int) < 1)=false:=decide_eq_false (by omega);have g2:decide (12 < (s.size:Int))=false:=decide_eq_false (by omega);have g3:decide ((s[0].toNat:Int) < 97)=false:=decide_eq_false (by omega);have g4:decide (122 < (s[0].toNat:Int))=true:=decide_eq_true (by omega)
 go_enter Tryz.func25,Tryz.ntmps25
 go_wp2;go_ret;exact ⟨rfl,rfl⟩
theorem rname_any (s:ByteArray) (w:World):Calls Tryz.prog 25 #[.string s] w fun e w'=>e=.returned (.bool (nameB s.data.toList))∧w'=w:=by
 by_cases h0:0 < s.size
 · rw [name_form h0]
   by_cases h12:(s.size:Int)≤12
   · rw [decide_eq_true (show s.size≤12 by omega),Bool.true_and]
     by_cases c1:(97:Int)≤(s[0].toNat:Int)
     · by_cases c2:(s[0].toNat:Int)≤122
       · rw [show lowB s[0]=true by unfold lowB; simp; omega,Bool.true_and];exact rname_main s w h0 h12 c1 c2
       · rw [show lowB s[0]=false by unfold lowB; simp; omega,Bool.false_and];exact rname_high s w h0 h12 c1 (by omega)
     · rw [show lowB s[0]=false by unfold lowB; simp; omega,Bool.false_and];exact rname_low s w h0 h12 (by omega)
   · rw [decide_eq_false (show ¬ s.size≤12 by omega),Bool.false_and];exact rname_long s w (by omega)
 · have e:s.data.toList=[]:=List.length_eq_zero_iff.1 (by rw [show s.data.toList.length=s.size by simp]; omega);rw [e];exact rname_zero s w (by omega)
def NameP:Prop:=∀ (s:ByteArray) (w:World),(s.size:Int)≤5000→Calls Tryz.prog 46 #[.string s] w fun e w'=>e=.returned (.bool (nameB s.data.toList))∧Below w.heap.size w w'
theorem same_w {f:FuncId} {args:Array Value} {x:World} {v:Value} (h:Calls Tryz.prog f args x fun e w'=>e=.returned v∧w'=x):Calls Tryz.prog f args x fun e w'=>e=.returned v∧Below x.heap.size x w':=
 h.mono fun _ _ ⟨a,b⟩=>⟨a,by rw [b]; exact Below.refl _ _⟩
def HexP:Prop:=∀ (s:ByteArray) (w:World),(s.size:Int)≤5000→Calls Tryz.prog 130 #[.string s] w fun e w'=>∃ v,e=.returned (.tuple #[v,.bool (hexR s.data.toList).isSome])∧BytesAt w' v ((hexR s.data.toList).getD [])∧Below w.heap.size w w'
theorem pnum_e (s:ByteArray) (w:World) (lo hi V E:Int) (bV:-9223372036854775808≤V∧V≤9223372036854775807) (hE:¬ E=0) (hE2:(E != 0)=true) (f:Hid (Calls Tryz.prog 144 #[.string s] w fun e w'=>e=.returned (.tuple #[.int .i64 V,.int .i64 E])∧w'=w)) :
 Calls Tryz.prog 128 #[.string s,.int .i64 lo,.int .i64 hi] w fun e w'=>e=.returned (.tuple #[.int .i64 0,.bool false])∧w'=w:=by
 go_enter Tryz.func128,Tryz.ntmps128
 go_wp2_with fail
 refine f.out.mono ?_;rintro e w1 ⟨rfl,rfl⟩;clear f;go_wp2
 go_ret2
 exact ⟨rfl,rfl⟩
theorem pnum_lo (s:ByteArray) (w:World) (lo hi V:Int) (bV:-9223372036854775808≤V∧V≤9223372036854775807) (q1:V < lo) (f:Hid (Calls Tryz.prog 144 #[.string s] w fun e w'=>e=.returned (.tuple #[.int .i64 V,.int .i64 0])∧w'=w)) :
 Calls Tryz.prog 128 #[.string s,.int .i64 lo,.int .i64 hi] w fun e w'=>e=.returned (.tuple #[.int .i64 0,.bool false])∧w'=w:=by
 go_enter Tryz.func128,Tryz.ntmps128
 go_wp2_with fail
 refine f.out.mono ?_;rintro e w1 ⟨rfl,rfl⟩;clear f;go_wp2
 go_ret2
 exact ⟨rfl,rfl⟩
theorem pnum_hi (s:ByteArray) (w:World) (lo hi V:Int) (bV:-9223372036854775808≤V∧V≤9223372036854775807) (q0:lo≤V) (q1:hi < V) (f:Hid (Calls Tryz.prog 144 #[.string s] w fun e w'=>e=.returned (.tuple #[.int .i64 V,.int .i64 0])∧w'=w)) :
 Calls Tryz.prog 128 #[.string s,.int .i64 lo,.int .i64 hi] w fun e w'=>e=.returned (.tuple #[.int .i64 0,.bool false])∧w'=w:=by
 go_enter Tryz.func128,Tryz.ntmps128
 go_wp2_with fail
 refine f.out.mono ?_;rintro e w1 ⟨rfl,rfl⟩;clear f;go_wp2
 go_ret2
 exact ⟨rfl,rfl⟩
theorem pnum_ok (s:ByteArray) (w:World) (lo hi V:Int) (bV:-9223372036854775808≤V∧V≤9223372036854775807) (q0:lo≤V) (q1:V≤hi) (f:Hid (Calls Tryz.prog 144 #[.string s] w fun e w'=>e=.returned (.tuple #[.int .i64 V,.int .i64 0])∧w'=w)) :
 Calls Tryz.prog 128 #[.string s,.int .i64 lo,.int .i64 hi] w fun e w'=>e=.returned (.tuple #[.int .i64 V,.bool true])∧w'=w:=by
 go_enter Tryz.func128,Tryz.ntmps128
 go_wp2_with fail
 refine f.out.mono ?_;rintro e w1 ⟨rfl,rfl⟩;clear f;go_wp2
 go_ret2
 exact ⟨rfl,rfl⟩
theorem pnum_any (s:ByteArray) (w:World) (hs:s.size≤maxLen) (lo hi:Int):Calls Tryz.prog 128 #[.string s,.int .i64 lo,.int .i64 hi] w fun e w'=>e=.returned (.tuple #[.int .i64 (numV s.data.toList lo hi),.bool (numB s.data.toList lo hi)])∧w'=w:=by
 have f:=read_any s w hs;have bV:=readV_bd s.data.toList;unfold numV;obtain ⟨B,hB⟩:∃ B,numB s.data.toList lo hi=B:=⟨_,rfl⟩;have hB2:=hB;unfold numB at hB2;rw [hB]
 by_cases hE:readE s.data.toList=0
 · rw [hE] at f hB2
   by_cases q0:lo≤readV s.data.toList
   · by_cases q1:readV s.data.toList≤hi
     · obtain rfl:B=true:=by rw [← hB2]; simp [q0,q1]
       rw [if_pos rfl];exact pnum_ok s w lo hi _ bV q0 q1 f
     · obtain rfl:B=false:=by rw [← hB2]; simp; omega
       rw [if_neg (by simp)];exact pnum_hi s w lo hi _ bV q0 (by omega) f
   · obtain rfl:B=false:=by rw [← hB2]; simp; omega
     rw [if_neg (by simp)];exact pnum_lo s w lo hi _ bV (by omega) f
 · obtain rfl:B=false:=by rw [← hB2]; simp [hE]
   rw [if_neg (by simp)];exact pnum_e s w lo hi _ _ bV hE (bne_iff_ne.2 hE) f
theorem below_iter (w:World) (s:ByteArray) (p:Nat):Below w.heap.size w (w.iter s p):=(Below.refl _ _).alloc (Nat.le_refl _) _
def NameK (l:List UInt8) (k:Nat):Prop:=allN (l.take k)=true∧(0 < k→∃ c r,l=c :: r∧lowB c=true)
theorem nameK_first (l:List UInt8):NameK l 0:=⟨rfl,fun h=>absurd h (by omega)⟩
theorem nameK_next {l:List UInt8} {k:Nat} (h:k < l.length) (ha:NameK l k) (hc:nameC l[k]=true) (h0:k=0→lowB l[k]=true):NameK l (k + 1):=by
 refine ⟨allN_next h ha.1 hc,fun _=>?_⟩
 by_cases hk:k=0
 · subst hk;exact ⟨l[0],l.drop 1,by have e:=List.drop_eq_getElem_cons h; simpa using e,h0 rfl⟩
 · exact ha.2 (by omega)
theorem nameB_long {l:List UInt8} (h:¬ l.length≤12):nameB l=false:=by unfold nameB; rw [decide_eq_false h]; rfl
theorem nameB_all {l:List UInt8} (h:NameK l l.length) (h0:0 < l.length) (h12:l.length≤12):nameB l=true:=by
 obtain ⟨h1,h2⟩:=h;obtain ⟨c,r,e,hc⟩:=h2 h0;rw [List.take_length] at h1;subst e;unfold nameB;rw [decide_eq_true h12,h1];show (true && (lowB c && true))=true;rw [hc]; rfl
theorem nameB_stop {l:List UInt8} {k:Nat} (h:k < l.length) (hc:nameC l[k]=false ∨ (k=0∧lowB l[k]=false)):nameB l=false:=by
 unfold nameB
 cases l with
 | nil=>simp
 | cons c r=>
  rcases hc with hc | ⟨hk,hc⟩
  · show (decide _ && (lowB c && allN (c :: r)))=false;rw [allN_stop h hc]; simp
  · subst hk;show (decide _ && (lowB c && allN (c :: r)))=false;rw [show lowB c=false from hc]; simp
theorem pname_main (s:ByteArray) (w:World) (h0:(1:Int)≤(s.size:Int)) (h12:(s.size:Int)≤12) :
 Calls Tryz.prog 46 #[.string s] w fun e w'=>e=.returned (.bool (nameB s.data.toList))∧Below w.heap.size w w':=by
 have g1:decide ((s.size:Int) < 1)=false:=decide_eq_false (by omega);have g2:decide (12 < (s.size:Int))=false:=decide_eq_false (by omega);have hlen:s.data.toList.length=s.size:=by simp
 obtain ⟨T,hT⟩:∃ T,nameB s.data.toList=T:=⟨_,rfl⟩;rw [hT];replace hT:Hid (nameB s.data.toList=T):=hT
 go_enter Tryz.func46,Tryz.ntmps46
 go_wp2
 go_loopw [] (fun wr=>∃ k:Nat,k≤s.size∧wr=w.iter s k∧Hid (NameK s.data.toList k)) (fun wr=>s.size - wr.iterPos w.heap.size)
 case atStart=>exact ⟨0,Nat.zero_le _,rfl,nameK_first _⟩
 case round=>
  obtain ⟨k,hk,rfl,hall⟩:=hrel
  by_cases hlt:k < s.size
  · have hl:k < s.data.toList.length:=by simpa using hlt
    have lk:s[k].toNat < 256:=s[k].toNat_lt;have stp:Hid (nameC s[k]=false ∨ (k=0∧lowB s[k]=false)→T=false):=fun h=>by rw [← hT.out]; exact nameB_stop hl h
    have nx:Hid (nameC s[k]=true→(k=0→lowB s[k]=true)→NameK s.data.toList (k + 1)):=fun h h2=>nameK_next hl hall.out h h2
    clear hall hT
    by_cases ha:s[k].toNat < 128
    · have hd:=decode_ascii s k hlt ha;have hnx:∀ ty,(Instr.next (.pointer (some ⟨w.heap.size,0,none⟩)) true ty).run Tryz.prog (w.iter s k)=.ok (.tuple #[.bool true,.int .i64 (k:Int),.int .i32 (s[k].toNat:Int)]) (w.iter s (k + 1)):=fun ty=>by rw [run_next_any w s k ty hlt,hd]
      clear hd;obtain ⟨c,hc⟩:∃ c:Nat,s[k].toNat=c:=⟨_,rfl⟩;have hcn:Hid ((nameC s[k]=decide ((97≤c∧c≤122) ∨ (48≤c∧c≤57)))∧(lowB s[k]=decide (97≤c∧c≤122))):=by rw [← hc]; exact ⟨rfl,rfl⟩
      rw [hc] at hnx ha lk;clear hc
      by_cases a1:(97:Int)≤(c:Int)
      · have q1:decide ((97:Int)≤(c:Int))=true:=decide_eq_true a1
        by_cases a2:(c:Int)≤122
        · have q2:decide ((c:Int)≤122)=true:=decide_eq_true a2;have nl:Hid (NameK s.data.toList (k + 1)):=nx.out (by rw [hcn.out.1]; exact decide_eq_true (by omega)) (fun _=>by rw [hcn.out.2]; exact decide_eq_true (by omega));clear nx stp hcn;go_wp2;exact ⟨⟨k + 1,by omega,rfl,nl⟩,by simp; omega⟩
        · have q2:decide ((c:Int)≤122)=false:=decide_eq_false a2;have q3:decide ((48:Int)≤(c:Int))=true:=decide_eq_true (by omega);have q4:decide ((c:Int)≤57)=false:=decide_eq_false (by omega);have fin:Hid (T=false):=stp.out (.inl (by rw [hcn.out.1]; exact decide_eq_false (by omega)));clear nx stp hcn;go_wp2;go_ret;exact ⟨ret_bb fin.out,below_iter _ _ _⟩
      · have q1:decide ((97:Int)≤(c:Int))=false:=decide_eq_false a1
        by_cases a3:(48:Int)≤(c:Int)
        · have q3:decide ((48:Int)≤(c:Int))=true:=decide_eq_true a3
          by_cases a4:(c:Int)≤57
          · have q4:decide ((c:Int)≤57)=true:=decide_eq_true a4
            by_cases k0:(k:Int)=0
            · have q5:((k:Int) == 0)=true:=by simp [k0]
              have fin:Hid (T=false):=stp.out (.inr ⟨by omega,by rw [hcn.out.2]; exact decide_eq_false (by omega)⟩);clear nx stp hcn;go_wp2;go_ret;exact ⟨ret_bb fin.out,below_iter _ _ _⟩
            · have q5:((k:Int) == 0)=false:=beq_eq_false_iff_ne.2 k0;have nl:Hid (NameK s.data.toList (k + 1)):=nx.out (by rw [hcn.out.1]; exact decide_eq_true (by omega)) (fun h=>absurd h (by omega));clear nx stp hcn;go_wp2;exact ⟨⟨k + 1,by omega,rfl,nl⟩,by simp; omega⟩
          · have q4:decide ((c:Int)≤57)=false:=decide_eq_false a4;have fin:Hid (T=false):=stp.out (.inl (by rw [hcn.out.1]; exact decide_eq_false (by omega)));clear nx stp hcn;go_wp2;go_ret;exact ⟨ret_bb fin.out,below_iter _ _ _⟩
        · have q3:decide ((48:Int)≤(c:Int))=false:=decide_eq_false a3;have fin:Hid (T=false):=stp.out (.inl (by rw [hcn.out.1]; exact decide_eq_false (by omega)));clear nx stp hcn;go_wp2;go_ret;exact ⟨ret_bb fin.out,below_iter _ _ _⟩
    · have hd:=decode_high s k hlt (by omega);obtain ⟨R,hR⟩:∃ R:Nat,(Utf8.decode s k).1=R:=⟨_,rfl⟩;obtain ⟨D,hD⟩:∃ D:Nat,(Utf8.decode s k).2=D:=⟨_,rfl⟩;have hnx:∀ ty,(Instr.next (.pointer (some ⟨w.heap.size,0,none⟩)) true ty).run Tryz.prog (w.iter s k)=.ok (.tuple #[.bool true,.int .i64 (k:Int),.int .i32 (R:Int)]) (w.iter s (k + D)):=fun ty=>by rw [run_next_any w s k ty hlt,hR,hD]
      rw [hR] at hd;have hR1:(128:Int)≤(R:Int):=by omega
      have q1:decide ((97:Int)≤(R:Int))=true:=decide_eq_true (by omega);have q2:decide ((R:Int)≤122)=false:=decide_eq_false (by omega);have q3:decide ((48:Int)≤(R:Int))=true:=decide_eq_true (by omega);have q4:decide ((R:Int)≤57)=false:=decide_eq_false (by omega);have fin:Hid (T=false):=stp.out (.inl (by unfold nameC; exact decide_eq_false (by omega)));clear nx stp hd hR hD;go_wp2;go_ret;exact ⟨ret_bb fin.out,below_iter _ _ _⟩
  · obtain rfl:k=s.size:=by omega
    have fin:Hid (T=true):=by
     rw [← hT.out];exact nameB_all (by rw [hlen]; exact hall.out) (by omega) (by omega)
    have hnx:∀ ty,(Instr.next (.pointer (some ⟨w.heap.size,0,none⟩)) true ty).run Tryz.prog (w.iter s s.size)=_:=fun ty=>run_next_end w s s.size ty (by omega)
    clear hall hT;go_wp2;go_ret;exact ⟨ret_bb fin.out,below_iter _ _ _⟩
theorem pname_zero (s:ByteArray) (w:World) (h0:(s.size:Int) < 1) :
 Calls Tryz.prog 46 #[.string s] w fun e w'=>e=.returned (.bool false)∧w'=w:=by
 have g1:decide ((s.size:Int) < 1)=true:=decide_eq_true (by omega)
 go_enter Tryz.func46,Tryz.ntmps46
 go_wp2;go_ret;exact ⟨rfl,rfl⟩
theorem pname_long (s:ByteArray) (w:World) (h12:12 < (s.size:Int)) :
 Calls Tryz.prog 46 #[.string s] w fun e w'=>e=.returned (.bool false)∧w'=w:=by
 have g1:decide ((s.size:Int) < 1)=false:=decide_eq_false (by omega);have g2:decide (12 < (s.size:Int))=true:=decide_eq_true (by omega)
 go_enter Tryz.func46,Tryz.ntmps46
 go_wp2;go_ret;exact ⟨rfl,rfl⟩
theorem HM:NameP:=fun s w hs=>by
 have hlen:s.data.toList.length=s.size:=by simp
 by_cases h0:(s.size:Int) < 1
 · have e:s.data.toList=[]:=List.length_eq_zero_iff.1 (by rw [hlen]; omega);rw [e];exact same_w (pname_zero s w h0)
 · by_cases h12:(s.size:Int)≤12
   · exact pname_main s w (by omega) h12
   · rw [nameB_long (by rw [hlen]; omega)];exact same_w (pname_long s w (by omega))
theorem digit_fig (c:Nat) (hc:(0:Int)≤(c:Int)∧(c:Int) < 256) (h1:(48:Int)≤(c:Int)) (h2:(c:Int)≤57) (w:World):Calls Tryz.prog 145 #[.int .u8 (c:Int)] w fun e w'=>e=.returned (.tuple #[.int .u8 ((c:Int) - 48),.bool true])∧w'=w:=by
 have q1:decide ((48:Int)≤(c:Int))=true:=decide_eq_true h1;have q2:decide ((c:Int)≤57)=true:=decide_eq_true h2;have wr:IntKind.u8.wrap ((c:Int) - 48)=(c:Int) - 48:=by simp only [IntKind.wrap_u8']; omega
 go_enter Tryz.func145,Tryz.ntmps145
 go_wp2
 go_ret2
 exact ⟨rfl,rfl⟩
theorem digit_low (c:Nat) (hc:(0:Int)≤(c:Int)∧(c:Int) < 256) (h1:(97:Int)≤(c:Int)) (h2:(c:Int)≤102) (w:World):Calls Tryz.prog 145 #[.int .u8 (c:Int)] w fun e w'=>e=.returned (.tuple #[.int .u8 ((c:Int) - 97 + 10),.bool true])∧w'=w:=by
 have q1:decide ((48:Int)≤(c:Int))=true:=decide_eq_true (by omega);have q2:decide ((c:Int)≤57)=false:=decide_eq_false (by omega);have q3:decide ((97:Int)≤(c:Int))=true:=decide_eq_true h1;have q4:decide ((c:Int)≤102)=true:=decide_eq_true h2;have wr:IntKind.u8.wrap ((c:Int) - 97)=(c:Int) - 97:=by simp only [IntKind.wrap_u8']; omega
 have wr2:IntKind.u8.wrap ((c:Int) - 97 + 10)=(c:Int) - 97 + 10:=by simp only [IntKind.wrap_u8']; omega
 go_enter Tryz.func145,Tryz.ntmps145
 go_wp2
 go_ret2
 exact ⟨rfl,rfl⟩
theorem digit_n1 (c:Nat) (hc:(0:Int)≤(c:Int)∧(c:Int) < 256) (h1:(c:Int) < 48) (w:World):Calls Tryz.prog 145 #[.int .u8 (c:Int)] w fun e w'=>e=.returned (.tuple #[.int .u8 (0),.bool false])∧w'=w:=by
 have q1:decide ((48:Int)≤(c:Int))=false:=decide_eq_false (by omega);have q3:decide ((97:Int)≤(c:Int))=false:=decide_eq_false (by omega)
 go_enter Tryz.func145,Tryz.ntmps145
 go_wp2
 go_ret2
 exact ⟨rfl,rfl⟩
theorem digit_n2 (c:Nat) (hc:(0:Int)≤(c:Int)∧(c:Int) < 256) (h1:(57:Int) < (c:Int)) (h2:(c:Int) < 97) (w:World):Calls Tryz.prog 145 #[.int .u8 (c:Int)] w fun e w'=>e=.returned (.tuple #[.int .u8 (0),.bool false])∧w'=w:=by
 have q1:decide ((48:Int)≤(c:Int))=true:=decide_eq_true (by omega);have q2:decide ((c:Int)≤57)=false:=decide_eq_false (by omega);have q3:decide ((97:Int)≤(c:Int))=false:=decide_eq_false (by omega)
 go_enter Tryz.func145,Tryz.ntmps145
 go_wp2
 go_ret2
 exact ⟨rfl,rfl⟩
theorem digit_n3 (c:Nat) (hc:(0:Int)≤(c:Int)∧(c:Int) < 256) (h1:(102:Int) < (c:Int)) (w:World):Calls Tryz.prog 145 #[.int .u8 (c:Int)] w fun e w'=>e=.returned (.tuple #[.int .u8 (0),.bool false])∧w'=w:=by
 have q1:decide ((48:Int)≤(c:Int))=true:=decide_eq_true (by omega);have q2:decide ((c:Int)≤57)=false:=decide_eq_false (by omega);have q3:decide ((97:Int)≤(c:Int))=true:=decide_eq_true (by omega);have q4:decide ((c:Int)≤102)=false:=decide_eq_false (by omega)
 go_enter Tryz.func145,Tryz.ntmps145
 go_wp2
 go_ret2
 exact ⟨rfl,rfl⟩
def dgV (c:Nat):Nat:=(halfC c).toNat
def dgB (c:Nat):Bool:=decide (0≤halfC c)
theorem dgV_lt (c:Nat):dgV c < 16:=by unfold dgV; have:=half_bd c; omega
theorem digit_any (c:Nat) (hc:c < 256) (w:World):Calls Tryz.prog 145 #[.int .u8 (c:Int)] w fun e w'=>e=.returned (.tuple #[.int .u8 ((dgV c:Nat):Int),.bool (dgB c)])∧w'=w:=by
 have hci:(0:Int)≤(c:Int)∧(c:Int) < 256:=⟨by omega,by omega⟩;have key:∀ (V:Int) (B:Bool),(Calls Tryz.prog 145 #[.int .u8 (c:Int)] w fun e w'=>e=.returned (.tuple #[.int .u8 V,.bool B])∧w'=w)→V=((dgV c:Nat):Int)→B=dgB c→Calls Tryz.prog 145 #[.int .u8 (c:Int)] w fun e w'=>e=.returned (.tuple #[.int .u8 ((dgV c:Nat):Int),.bool (dgB c)])∧w'=w:=fun V B h e1 e2=>by rw [← e1,← e2]; exact h
 by_cases h1:48≤c
 · by_cases h2:c≤57
   · have e:halfC c=(c:Int) - 48:=by unfold halfC; rw [if_pos ⟨h1,h2⟩]
     exact key _ _ (digit_fig c hci (by omega) (by omega) w) (by unfold dgV; rw [e]; omega) (by unfold dgB; rw [e]; exact (decide_eq_true (by omega)).symm)
   · by_cases h3:97≤c
     · by_cases h4:c≤102
       · have e:halfC c=(c:Int) - 87:=by unfold halfC; rw [if_neg (by omega),if_pos ⟨h3,h4⟩]
         exact key _ _ (digit_low c hci (by omega) (by omega) w) (by unfold dgV; rw [e]; omega) (by unfold dgB; rw [e]; exact (decide_eq_true (by omega)).symm)
       · have e:halfC c=-1:=by unfold halfC; rw [if_neg (by omega),if_neg (by omega)]
         exact key _ _ (digit_n3 c hci (by omega) w) (by unfold dgV; rw [e]; rfl) (by unfold dgB; rw [e]; rfl)
     · have e:halfC c=-1:=by unfold halfC; rw [if_neg (by omega),if_neg (by omega)]
       exact key _ _ (digit_n2 c hci (by omega) (by omega) w) (by unfold dgV; rw [e]; rfl) (by unfold dgB; rw [e]; rfl)
 · have e:halfC c=-1:=by unfold halfC; rw [if_neg (by omega),if_neg (by omega)]
   exact key _ _ (digit_n1 c hci (by omega) w) (by unfold dgV; rw [e]; rfl) (by unfold dgB; rw [e]; rfl)
def FreshV (w:World) (v:Value):Prop:=v=.slice none 0 0 ∨ ∃ a n cap,v=.slice (some a) n cap∧w.heap.size≤a.block
def HexP2:Prop:=∀ (s:ByteArray) (w:World),(s.size:Int)≤5000→Calls Tryz.prog 130 #[.string s] w fun e w'=>∃ v,e=.returned (.tuple #[v,.bool (hexR s.data.toList).isSome])∧BytesAt w' v ((hexR s.data.toList).getD [])∧FreshV w v∧Below w.heap.size w w'
theorem rowH_zero (w:World) (L:Nat) (hm:L≤maxLen):RowU (w.alloc (.cells (madeCells #[.int .u8 0] L) 5)) w.heap.size L (List.replicate L 0):=by
 have hc:(madeCells #[.int .u8 0] L).toList=u8v (List.replicate L 0):=by rw [toList_madeCells_one]; simp
 refine ⟨by simp,hm,_,World.alloc_heap_new w _,?_,?_⟩
 · have:=congrArg List.length hc
   simpa using this
 · rw [hc,List.length_replicate,List.take_of_length_le (by simp)]
def hexRow (L:Nat) (out:List Nat):List Nat:=out ++ List.replicate (L - out.length) 0
theorem hexRow_len {L:Nat} {out:List Nat} (h:out.length≤L):(hexRow L out).length=L:=by unfold hexRow; simp; omega
theorem hexRow_set {L:Nat} {out:List Nat} (h:out.length < L) (b:Nat):(hexRow L out).set out.length b=hexRow L (out ++ [b]):=by
 unfold hexRow;obtain ⟨m,hm⟩:∃ m,L - out.length=m + 1:=⟨L - out.length - 1,by omega⟩;have e:L - (out ++ [b]).length=m:=by simp; omega
 rw [hm,e,List.replicate_succ,List.set_append_right _ _ (Nat.le_refl _)];simp
theorem hexRow_full {L:Nat} {out:List Nat} (h:out.length=L):hexRow L out=out:=by unfold hexRow; rw [h]; simp
theorem nib (p q:Nat) (hp:p < 16) (hq:q < 16):bits .or .u8 ((p:Int) * 16) (q:Int)=((16 * p + q:Nat):Int):=by
 have h:∀ a b:Fin 16,bits .or .u8 ((a.1:Int) * 16) (b.1:Int)=((16 * a.1 + b.1:Nat):Int):=by decide
 exact h ⟨p,hp⟩ ⟨q,hq⟩
theorem phex_main (s:ByteArray) (w:World) (hs:(s.size:Int)≤5000) (h0:0 < (s.size:Int)) (L:Nat) (hL:(s.size:Int)=2 * (L:Int)) (T:Option (List Nat)) (hT:hexO s.data.toList=T) :
 Calls Tryz.prog 130 #[.string s] w fun e w'=>∃ v,e=.returned (.tuple #[v,.bool T.isSome])∧BytesAt w' v (T.getD [])∧FreshV w v∧Below w.heap.size w w':=by
 have L0:Hid (LeftH [] (s.data.toList.drop (2 * ([]:List Nat).length)) T):=by unfold Hid; rw [← hT]; exact LeftH.first _
 have hz:((s.size:Int) == 0)=false:=beq_eq_false_iff_ne.2 (by omega);have hq:((s.size:Int) % 2 != 0)=false:=by rw [show (s.size:Int) % 2=0 by omega]; rfl
 have hd1:(s.size:Int) / 2=(L:Int):=by omega
 have hd2:Int.tdiv (s.size:Int) 2=(L:Int):=by rw [Int.tdiv_eq_ediv_of_nonneg (by omega)]; exact hd1
 have hL150:(L:Int)≤2500:=by omega
 have hmk:∀ w,(Instr.makeSlice 23 (.int .i64 (L:Int)) (.int .i64 (L:Int))).run Tryz.prog w=.ok (.slice (some ⟨w.heap.size,0,none⟩) L L) (w.alloc (.cells (madeCells #[.int .u8 0] L) 5)):=fun w=>run_make_row' (P:=Tryz.prog) 23 5 (.int .u8 0) 1 Tryz.underlying23 info_u8 rfl .i64 .i64 L (by omega) (by omega) w
 have R0:Hid (RowU (w.alloc (.cells (madeCells #[.int .u8 0] L) 5)) w.heap.size L (hexRow L [])):=rowH_zero w L (by unfold maxLen; omega);have B0:Hid (Below w.heap.size w (w.alloc (.cells (madeCells #[.int .u8 0] L) 5))):=(Below.refl _ _).alloc (Nat.le_refl _) _;replace hL:Hid ((s.size:Int)=2 * (L:Int)):=hL;clear hT
 go_enter Tryz.func130,Tryz.ntmps130
 go_wp2;clear hmk
 go_loopw [25] (fun vi wr=>∃ (out:List Nat),(out.length:Int)≤(L:Int)∧vi=.int .i64 (out.length:Int)∧Hid (RowU wr w.heap.size L (hexRow L out))∧Hid (Below w.heap.size w wr)∧Hid (LeftH out (s.data.toList.drop (2 * out.length)) T)) (fun vi _=>L - (intOf vi).toNat)
 case atStart=>exact ⟨[],by simp,rfl,R0,B0,L0⟩
 case round=>
  obtain ⟨out,hk,rfl,R,B,left⟩:=hrel;clear L0 R0 B0;obtain ⟨k,hko⟩:∃ k,out.length=k:=⟨_,rfl⟩;rw [hko] at hk left ⊢
  by_cases hlt:(k:Int) < (L:Int)
  · have i1:2 * k < s.size:=by have:=hL.out; omega
    have i2:2 * k + 1 < s.size:=by have:=hL.out; omega
    have lf:=left.out;rw [sdrop_at i1,sdrop_at i2] at lf;have x1:s[2 * k].toNat < 256:=s[2 * k].toNat_lt;have x2:s[2 * k + 1].toNat < 256:=s[2 * k + 1].toNat_lt;have ix:∀ x:World,(Instr.index 9 (.string s) (.int .i64 (2 * (k:Int)))).run Tryz.prog x=.ok (.int .u8 (s[2 * k].toNat:Int)) x:=fun x=>by
     rw [run_index_string x 9 s .i64 _ Tryz.underlying9,dif_pos ⟨by omega,by omega⟩];rfl
    have ix2:∀ x:World,(Instr.index 9 (.string s) (.int .i64 (2 * (k:Int) + 1))).run Tryz.prog x=.ok (.int .u8 (s[2 * k + 1].toNat:Int)) x:=fun x=>by
     rw [run_index_string x 9 s .i64 _ Tryz.underlying9,dif_pos ⟨by omega,by omega⟩];rfl
    have f1:Hid (∀ w,Calls Tryz.prog 145 #[.int .u8 (s[2 * k].toNat:Int)] w fun e w'=>e=.returned (.tuple #[.int .u8 ((dgV s[2 * k].toNat:Nat):Int),.bool (dgB s[2 * k].toNat)])∧w'=w):=fun w=>digit_any _ x1 w
    have f2:Hid (∀ w,Calls Tryz.prog 145 #[.int .u8 (s[2 * k + 1].toNat:Int)] w fun e w'=>e=.returned (.tuple #[.int .u8 ((dgV s[2 * k + 1].toNat:Nat):Int),.bool (dgB s[2 * k + 1].toNat)])∧w'=w):=fun w=>digit_any _ x2 w
    have nx:Hid (dgB s[2 * k].toNat=true→dgB s[2 * k + 1].toNat=true→LeftH (out ++ [16 * dgV s[2 * k].toNat + dgV s[2 * k + 1].toNat]) (s.data.toList.drop (2 * (k + 1))) T):=fun g1 g2=>by
     have g3:=of_decide_eq_true g1;have g4:=of_decide_eq_true g2;have:=lf.two g3 g4;have e:(16 * halfC s[2 * k].toNat + halfC s[2 * k + 1].toNat).toNat=16 * dgV s[2 * k].toNat + dgV s[2 * k + 1].toNat:=by unfold dgV; omega
     rw [e] at this;exact this
    have bd:Hid ((dgB s[2 * k].toNat=false ∨ dgB s[2 * k + 1].toNat=false)→T=none):=fun h=>lf.bad (fun h2=>by
     rcases h with h | h
     · exact of_decide_eq_false h h2.1
     · exact of_decide_eq_false h h2.2)
    have v1:=dgV_lt s[2 * k].toNat;have v2:=dgV_lt s[2 * k + 1].toNat;clear lf left x1 x2;generalize s[2 * k].toNat=c1 at *;generalize s[2 * k + 1].toNat=c2 at *;generalize dgV c1=p at *;generalize dgV c2=q at *;generalize dgB c1=b1 at *;generalize dgB c2=b2 at *;have rc:=R.out.cell k (by rw [hexRow_len (by omega)]; omega);have rset:=fun b=>R.out.set k b
    rw [← hko] at rset;obtain ⟨c0,cc⟩:∃ c0:Int,wr.cell? ⟨w.heap.size,k,none⟩=some (.int .u8 c0):=⟨_,rc.1⟩;have cf:=rc.2;clear rc
    cases b1
    · have fin:Hid (T=none):=bd.out (.inl rfl);clear nx bd rset R
      go_wp2_with fail
      refine (f1.out _).mono ?_;rintro e w' ⟨rfl,rfl⟩;clear f1
      go_wp2_with fail
      refine (f2.out _).mono ?_;rintro e w' ⟨rfl,rfl⟩;clear f2;go_wp2
      go_ret2
      exact ⟨_,by rw [fin.out]; rfl,by rw [fin.out]; exact .inl ⟨rfl,rfl⟩,.inl rfl,B.out⟩
    · cases b2
      · have fin:Hid (T=none):=bd.out (.inr rfl);clear nx bd rset R
        go_wp2_with fail
        refine (f1.out _).mono ?_;rintro e w' ⟨rfl,rfl⟩;clear f1
        go_wp2_with fail
        refine (f2.out _).mono ?_;rintro e w' ⟨rfl,rfl⟩;clear f2;go_wp2
        go_ret2
        exact ⟨_,by rw [fin.out]; rfl,by rw [fin.out]; exact .inl ⟨rfl,rfl⟩,.inl rfl,B.out⟩
      · have nl:=nx.out rfl rfl;have R2:=rset (16 * p + q);rw [hexRow_set (by omega),hko] at R2;replace R2:Hid (RowU (wr.setCell ⟨w.heap.size,k,none⟩ (.int .u8 ((16 * p + q:Nat):Int))) w.heap.size L (hexRow L (out ++ [16 * p + q]))):=R2;have hn:=nib p q v1 v2;generalize 16 * p + q=b at *;clear nx bd rset R
        go_wp2_with fail
        refine (f1.out _).mono ?_;rintro e w' ⟨rfl,rfl⟩;clear f1
        go_wp2_with fail
        refine (f2.out _).mono ?_;rintro e w' ⟨rfl,rfl⟩;clear f2;go_wp2;exact ⟨⟨out ++ [b],by simp; omega,by simp [hko],R2,B.out.setCell (Nat.le_refl _) _,by simp only [List.length_append,List.length_singleton,hko]; exact nl⟩,by simp [intOf]; omega⟩
  · obtain rfl:k=L:=by omega
    have fin:Hid (T=some out):=by
     have h:=left.out;rw [List.drop_eq_nil_of_le (by have:=hL.out; simp; omega)] at h;exact h.fin
    have X:Hid (BytesAt wr (.slice (some ⟨w.heap.size,0,none⟩) k k) out):=by
     have h:=R.out;rw [hexRow_full hko] at h;have h2:=h.at;rw [hko] at h2;exact h2
    clear left R hlt;go_wp2
    go_ret2
    exact ⟨_,by rw [fin.out]; rfl,by rw [fin.out]; exact X.out,.inr ⟨_,_,_,rfl,Nat.le_refl _⟩,B.out⟩
theorem phex_none (s:ByteArray) (w:World) (h0:(s.size:Int)=0) :
 Calls Tryz.prog 130 #[.string s] w fun e w'=>e=.returned (.tuple #[.slice none 0 0,.bool false])∧w'=w:=by
 go_enter Tryz.func130,Tryz.ntmps130
 go_wp2
 go_ret2
 exact ⟨rfl,rfl⟩
theorem phex_odd (s:ByteArray) (w:World) (hs:(s.size:Int)≤5000) (h0:0 < (s.size:Int)) (hev:(s.size:Int) % 2=1) :
 Calls Tryz.prog 130 #[.string s] w fun e w'=>e=.returned (.tuple #[.slice none 0 0,.bool false])∧w'=w:=by
 have hz:((s.size:Int) == 0)=false:=beq_eq_false_iff_ne.2 (by omega);have hq:((s.size:Int) % 2 != 0)=true:=by rw [hev]; rfl
 go_enter Tryz.func130,Tryz.ntmps130
 go_wp2
 go_ret2
 exact ⟨rfl,rfl⟩
theorem HH2:HexP2:=fun s w hs=>by
 have hl:s.data.toList.length=s.size:=by simp
 by_cases h0:s.size=0
 · have e:hexR s.data.toList=none:=by unfold hexR; rw [if_pos (List.length_eq_zero_iff.1 (hl.trans h0))]
   rw [e];refine (phex_none s w (by omega)).mono ?_;rintro e w' ⟨rfl,rfl⟩;exact ⟨_,rfl,.inl ⟨rfl,rfl⟩,.inl rfl,Below.refl _ _⟩
 · have e:hexR s.data.toList=hexO s.data.toList:=by unfold hexR; rw [if_neg (fun q=>h0 (by rw [← hl,q]; rfl))]
   rw [e]
   by_cases h1:s.size % 2=1
   · rw [hex_odd _ (by rw [hl]; exact h1)];refine (phex_odd s w hs (by omega) (by omega)).mono ?_;rintro e w' ⟨rfl,rfl⟩;exact ⟨_,rfl,.inl ⟨rfl,rfl⟩,.inl rfl,Below.refl _ _⟩
   · exact phex_main s w hs (by omega) (s.size / 2) (by omega) _ rfl
theorem HH:HexP:=fun s w hs=>(HH2 s w hs).mono fun _ _ ⟨v,h1,h2,_,h3⟩=>⟨v,h1,h2,h3⟩
end Go.Proofs.YthabffjgdhfbmaaGreatDoor
