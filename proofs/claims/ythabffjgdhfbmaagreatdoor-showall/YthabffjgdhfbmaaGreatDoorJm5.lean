/-
  Texts that belong together, one behind the other: DsMean, DsMk, DsMkA. Conditions: as each says.
-/
import Derived.BigQuiet
import Derived.Deep.CutRange
import Derived.Deep.QuietTactic
import Derived.Lib.QuietBelowIn
import Derived.Maps.AppendAt
import Derived.RangeFuncCalls
import Derived.Sort.BigQuietIn
import Derived.Test.YthabffjgdhfbmaaGreatDoorProg
import Derived.Test.YthabffjgdhfbmaaGreatDoorJm1
import Derived.Test.YthabffjgdhfbmaaGreatDoorJm2
import Derived.Test.YthabffjgdhfbmaaGreatDoorJm3
import Derived.Test.YthabffjgdhfbmaaGreatDoorJm4
set_option maxRecDepth 100000
set_option maxHeartbeats 32000000
set_option linter.unusedVariables false
namespace Go.Proofs.YthabffjgdhfbmaaGreatDoor
open Go.RowKit
def NmF (x:World) (N B M k:Nat) (v:Value):Prop:=∃ b,v=.func (.func 125) #[] #[.pointer (some ⟨b,0,none⟩)]∧x.cell? ⟨b,0,none⟩=some (.pointer (some ⟨B,k,none⟩))∧b < N∧b ≠ B∧b ≠ M
def NuF (x:World) (N B M k:Nat) (lo hi:Int) (v:Value):Prop:=∃ b1 b2 b3,v=.func (.func 127) #[] #[.pointer (some ⟨b1,0,none⟩),.pointer (some ⟨b2,0,none⟩),.pointer (some ⟨b3,0,none⟩)]∧x.cell? ⟨b1,0,none⟩=some (.int .i64 lo)∧x.cell? ⟨b2,0,none⟩=some (.int .i64 hi)∧x.cell? ⟨b3,0,none⟩=some (.pointer (some ⟨B,k,none⟩))∧(b1 < N∧b1 ≠ B∧b1 ≠ M)∧(b2 < N∧b2 ≠ B∧b2 ≠ M)∧(b3 < N∧b3 ≠ B∧b3 ≠ M)
def MnF (x:World) (N B M:Nat) (f:Wd) (v:Value):Prop:=
 (f=kDev∧NmF x N B M 0 v) ∨ (f=kSum∧NmF x N B M 5 v) ∨ (f=kSiz∧NuF x N B M 4 1 32 v) ∨ (f=kPol∧NuF x N B M 8 1 1000 v) ∨ (f=kTim∧NuF x N B M 9 1 1000 v) ∨ (f=kRet∧NuF x N B M 10 0 10 v) ∨ (f=kAge∧NuF x N B M 11 1 1000 v)
 ∨ (f=kSta∧v=.func (.func 103) #[.pointer (some ⟨B,0,none⟩)] #[]) ∨ (f=kEsc∧v=.func (.func 104) #[.pointer (some ⟨B,0,none⟩)] #[]) ∨ (f=kReq∧v=.func (.func 107) #[.pointer (some ⟨B,0,none⟩)] #[]) ∨ (f=kFie∧v=.func (.func 106) #[.pointer (some ⟨B,0,none⟩)] #[])
theorem NmF.fr {x y:World} {N B M k:Nat} {v:Value} {r:Option Nat} (h:NmF x N B M k v) (hf:Fr B M r x y) (hr:∀ j,j < N→some j ≠ r):NmF y N B M k v:=by
 obtain ⟨b,h1,h2,h3,h4,h5⟩:=h;exact ⟨b,h1,hf.cell h2 h4 h5 (hr b h3),h3,h4,h5⟩
theorem NuF.fr {x y:World} {N B M k:Nat} {lo hi:Int} {v:Value} {r:Option Nat} (h:NuF x N B M k lo hi v) (hf:Fr B M r x y) (hr:∀ j,j < N→some j ≠ r):NuF y N B M k lo hi v:=by
 obtain ⟨b1,b2,b3,h0,h1,h2,h3,⟨p1,p2,p3⟩,⟨q1,q2,q3⟩,⟨r1,r2,r3⟩⟩:=h;exact ⟨b1,b2,b3,h0,hf.cell h1 p2 p3 (hr b1 p1),hf.cell h2 q2 q3 (hr b2 q1),hf.cell h3 r2 r3 (hr b3 r1),⟨p1,p2,p3⟩,⟨q1,q2,q3⟩,⟨r1,r2,r3⟩⟩
theorem MnF.fr {x y:World} {N B M:Nat} {f:Wd} {v:Value} {r:Option Nat} (h:MnF x N B M f v) (hf:Fr B M r x y) (hr:∀ j,j < N→some j ≠ r):MnF y N B M f v:=by
 rcases h with ⟨e,h⟩ | ⟨e,h⟩ | ⟨e,h⟩ | ⟨e,h⟩ | ⟨e,h⟩ | ⟨e,h⟩ | ⟨e,h⟩ | ⟨e,h⟩ | ⟨e,h⟩ | ⟨e,h⟩ | ⟨e,h⟩
 · exact .inl ⟨e,h.fr hf hr⟩
 · exact .inr (.inl ⟨e,h.fr hf hr⟩)
 · exact .inr (.inr (.inl ⟨e,h.fr hf hr⟩))
 · exact .inr (.inr (.inr (.inl ⟨e,h.fr hf hr⟩)))
 · exact .inr (.inr (.inr (.inr (.inl ⟨e,h.fr hf hr⟩))))
 · exact .inr (.inr (.inr (.inr (.inr (.inl ⟨e,h.fr hf hr⟩)))))
 · exact .inr (.inr (.inr (.inr (.inr (.inr (.inl ⟨e,h.fr hf hr⟩))))))
 · exact .inr (.inr (.inr (.inr (.inr (.inr (.inr (.inl ⟨e,h⟩)))))))
 · exact .inr (.inr (.inr (.inr (.inr (.inr (.inr (.inr (.inl ⟨e,h⟩))))))))
 · exact .inr (.inr (.inr (.inr (.inr (.inr (.inr (.inr (.inr (.inl ⟨e,h⟩)))))))))
 · exact .inr (.inr (.inr (.inr (.inr (.inr (.inr (.inr (.inr (.inr ⟨e,h⟩)))))))))
def WdsAt (L0:Nat) (x:World) (v:Value) (ws:List Wd):Prop:=(∃ a c,v=.slice a 0 c∧ws=[]) ∨ ∃ g o cap,v=.slice (some ⟨g,o,none⟩) ws.length cap∧ws.length≤cap∧StrsIn x g o ws∧g < L0
theorem WdsAt.form {L0:Nat} {x:World} {v:Value} {ws:List Wd} (h:WdsAt L0 x v ws):∃ p cap,v=.slice p ws.length cap:=by
 rcases h with ⟨a,c,rfl,rfl⟩ | ⟨g,o,cap,rfl,_⟩
 · exact ⟨_,_,rfl⟩
 · exact ⟨_,_,rfl⟩
theorem WdsAt.cons {L0:Nat} {x:World} {v:Value} {z:Wd} {ws:List Wd} (h:WdsAt L0 x v (z :: ws)):∃ g o cap,v=.slice (some ⟨g,o,none⟩) (ws.length + 1) cap∧StrsIn x g o (z :: ws)∧g < L0∧ws.length + 1≤cap:=by
 rcases h with ⟨_,_,_,h⟩ | ⟨g,o,cap,rfl,h1,h2,h3⟩
 · cases h
 · exact ⟨g,o,cap,rfl,h2,h3,h1⟩
def Mean (N B M:Nat) (x:World) (d:Dv) (fv qv:Value) (seen:List Wd) (U:Option (Dv→Dv)) (e:Ending) (y:World):Prop:=
 e=.returned (.bool U.isSome)∧Fr B M fv.ownBlock x y∧∀ u,U=some u→∃ fv' qv',DsSt N B M y (u d) fv' qv' seen∧(fv'.ownBlock=fv.ownBlock ∨ ∃ g,fv'.ownBlock=some g∧x.heap.size≤g)
theorem Mean.no {N B M:Nat} {x:World} {d:Dv} {fv qv:Value} {seen:List Wd} {y:World} (h:Below x.heap.size x y):Mean N B M x d fv qv seen none (.returned (.bool false)) y:=⟨rfl,.of_below h,fun u hu=>by cases hu⟩
theorem Mean.one {N B M:Nat} (hB:B < N) (hM:M < N) (hBM:B ≠ M) {x:World} {d:Dv} {fv qv:Value} {seen:List Wd} (St:DsSt N B M x d fv qv seen) {y:World} (h:Below x.heap.size x y) (u:Dv→Dv) (i:Nat) (v:Value) (hr:(rdA d fv qv M).setIfInBounds i v=rdA (u d) fv qv M) (hf:(u d).fs=d.fs) (hq:(u d).rq=d.rq):Mean N B M x d fv qv seen (some u) (.returned (.bool true)) (y.setCell ⟨B,i,none⟩ v):=by
 refine ⟨rfl,(Fr.of_below h).trans (Fr.set B M _ y i v),fun u' hu=>?_⟩
 cases hu
 exact ⟨fv,qv,(St.below hB hM h).set hB hM hBM i v hr hf hq,.inl rfl⟩
theorem len_one {a:List Wd} (h:a.length=1):∃ z,a=[z]:=by
 match a,h with
 | [z],_=>exact ⟨z,rfl⟩
theorem mName_len {a:List Wd} (h:¬ a.length=1) (k:Wd→Dv→Dv):mName a k=none:=by
 match a,h with
 | [],_=>rfl
 | [z],h=>exact absurd rfl h
 | _ :: _ :: _,_=>rfl
theorem mNum_len {a:List Wd} (h:¬ a.length=1) (lo hi:Int) (k:Int→Dv→Dv):mNum a lo hi k=none:=by
 match a,h with
 | [],_=>rfl
 | [z],h=>exact absurd rfl h
 | _ :: _ :: _,_=>rfl
theorem mSta_len {a:List Wd} (h:¬ a.length=1):mSta a=none:=by
 match a,h with
 | [],_=>rfl
 | [z],h=>exact absurd rfl h
 | _ :: _ :: _,_=>rfl
theorem mReq_len {a:List Wd} (h:¬ a.length=1):mReq a=none:=by
 match a,h with
 | [],_=>rfl
 | [z],h=>exact absurd rfl h
 | _ :: _ :: _,_=>rfl
theorem mEsc_len {a:List Wd} (h:¬ a.length=2):mEsc a=none:=by
 match a,h with
 | [],_=>rfl
 | [_],_=>rfl
 | [_,_],h=>exact absurd rfl h
 | _ :: _ :: _ :: _,_=>rfl
theorem fld_len {a:List Wd} (h:¬ a.length=7):fldO a=none:=by
 match a,h with
 | [],_=>rfl
 | [_],_=>rfl
 | [_,_],_=>rfl
 | [_,_,_],_=>rfl
 | [_,_,_,_],_=>rfl
 | [_,_,_,_,_],_=>rfl
 | [_,_,_,_,_,_],_=>rfl
 | [_,_,_,_,_,_,_],h=>exact absurd rfl h
 | _ :: _ :: _ :: _ :: _ :: _ :: _ :: _ :: _,_=>rfl
section
variable {N B M L0:Nat} (hB:B < N) (hM:M < N) (hBM:B ≠ M) (hL:L0≤B) (hLM:L0≤M) {x:World} {d:Dv} {fv qv:Value} {seen:List Wd} (St:DsSt N B M x d fv qv seen) {a:List Wd} {vw:Value} (hw:WdsAt L0 x vw a) (hz:∀ z ∈ a,(z.length:Int)≤5000) (hl:(a.length:Int)≤5000)
include hB hM hBM St hw hz hl
theorem nm_run {k:Nat} {v:Value} (hv:NmF x N B M k v) (old:Value) (ho:(rdA d fv qv M)[k]?=some old) (K:Wd→Dv→Dv) (hK:∀ z,(rdA d fv qv M).setIfInBounds k (.string (txt z))=rdA (K z d) fv qv M∧(K z d).fs=d.fs∧(K z d).rq=d.rq) :
 ∃ b,v=.func (.func 125) #[] #[.pointer (some ⟨b,0,none⟩)]∧Calls Tryz.prog 125 #[vw,.pointer (some ⟨b,0,none⟩)] x (Mean N B M x d fv qv seen (mName a K)):=by
 obtain ⟨b,h1,h2,_⟩:=hv;refine ⟨b,h1,?_⟩
 by_cases h:a.length=1
 · obtain ⟨z,rfl⟩:=len_one h;obtain ⟨g,o,cap,rfl,hi,_⟩:=hw.cons;have hc:x.cell? ⟨g,o,none⟩=some (.string (txt z)):=hi 0 (by simp);have hz5:=hz z (by simp);have hm:mName [z] K=if nameB z=true then some (K z) else none:=rfl;rw [hm]
   by_cases hn:nameB z=true
   · rw [if_pos hn];have cc:=rd_cell St.rd k;refine (name_yes z hz5 hn g o cap b B k old x hc h2 (cc.1.trans ho) cc.2).mono ?_;rintro e y ⟨rfl,x1,hb,rfl⟩;exact Mean.one hB hM hBM St hb (K z) k _ (hK z).1 (hK z).2.1 (hK z).2.2
   · rw [if_neg hn];refine (name_no z hz5 (by simpa using hn) g o cap b x hc).mono ?_;rintro e y ⟨rfl,hb⟩;exact Mean.no hb
 · rw [mName_len h];obtain ⟨p,cap,rfl⟩:=hw.form;refine (name_len p a.length cap h (by omega) b x).mono ?_;rintro e y ⟨rfl,rfl⟩;exact Mean.no (Below.refl _ _)
theorem nu_run {k:Nat} {lo hi:Int} {v:Value} (hv:NuF x N B M k lo hi v) (old:Value) (ho:(rdA d fv qv M)[k]?=some old) (K:Int→Dv→Dv) (hK:∀ z,(rdA d fv qv M).setIfInBounds k (.int .i64 z)=rdA (K z d) fv qv M∧(K z d).fs=d.fs∧(K z d).rq=d.rq) :
 ∃ b1 b2 b3,v=.func (.func 127) #[] #[.pointer (some ⟨b1,0,none⟩),.pointer (some ⟨b2,0,none⟩),.pointer (some ⟨b3,0,none⟩)]∧Calls Tryz.prog 127 #[vw,.pointer (some ⟨b1,0,none⟩),.pointer (some ⟨b2,0,none⟩),.pointer (some ⟨b3,0,none⟩)] x (Mean N B M x d fv qv seen (mNum a lo hi K)):=by
 obtain ⟨b1,b2,b3,h0,h1,h2,h3,_⟩:=hv;refine ⟨b1,b2,b3,h0,?_⟩
 by_cases h:a.length=1
 · obtain ⟨z,rfl⟩:=len_one h;obtain ⟨g,o,cap,rfl,hi',_⟩:=hw.cons;have hc:x.cell? ⟨g,o,none⟩=some (.string (txt z)):=hi' 0 (by simp);have hz5:=hz z (by simp);have hm:mNum [z] lo hi K=if numB z lo hi=true then some (K (readV z)) else none:=rfl;rw [hm];have cc:=rd_cell St.rd k;refine (num_one z hz5 lo hi g o cap b1 b2 b3 B k old x hc h1 h2 h3 (cc.1.trans ho) cc.2).mono ?_;rintro e y ⟨rfl,x1,hb,rfl⟩
   by_cases hn:numB z lo hi=true
   · have e1:numV z lo hi=readV z:=by unfold numV; rw [if_pos hn]
     rw [if_pos hn,e1,hn];exact Mean.one hB hM hBM St hb (K (readV z)) k _ (hK _).1 (hK _).2.1 (hK _).2.2
   · rw [if_neg hn,show numB z lo hi=false by simpa using hn];exact ⟨rfl,(Fr.of_below hb).trans (Fr.set B M _ x1 k _),fun u hu=>by cases hu⟩
 · rw [mNum_len h];obtain ⟨p,cap,rfl⟩:=hw.form;refine (num_len p a.length cap h (by omega) b1 b2 b3 x).mono ?_;rintro e y ⟨rfl,rfl⟩;exact Mean.no (Below.refl _ _)
theorem sta_run:Calls Tryz.prog 103 #[.pointer (some ⟨B,0,none⟩),vw] x (Mean N B M x d fv qv seen (mSta a)):=by
 by_cases h:a.length=1
 · obtain ⟨z,rfl⟩:=len_one h;obtain ⟨g,o,cap,rfl,hi',_⟩:=hw.cons;have hc:x.cell? ⟨g,o,none⟩=some (.string (txt z)):=hi' 0 (by simp);have hz5:=hz z (by simp);have cc:=rd_cell St.rd 1;refine (sta_one z hz5 g o cap B (.int .i64 d.st) x hc (cc.1.trans rfl) cc.2).mono ?_;rintro e y ⟨rfl,x1,hb,rfl⟩;have hm:mSta [z]=Option.map (fun (b:Nat) (d:Dv)=>{ d with st:=(b:Int) }) (octO z):=rfl;rw [hm]
   cases ho:octO z with
   | none=>exact ⟨rfl,(Fr.of_below hb).trans (Fr.set B M _ x1 1 _),fun u hu=>by cases hu⟩
   | some b=>exact Mean.one hB hM hBM St hb (fun d=>{ d with st:=(b:Int) }) 1 _ rfl rfl rfl
 · rw [mSta_len h];obtain ⟨p,cap,rfl⟩:=hw.form;refine (sta_len p a.length cap h (by omega) B x).mono ?_;rintro e y ⟨rfl,rfl⟩;exact Mean.no (Below.refl _ _)
theorem esc_run:Calls Tryz.prog 104 #[.pointer (some ⟨B,0,none⟩),vw] x (Mean N B M x d fv qv seen (mEsc a)):=by
 by_cases h:a.length=2
 · obtain ⟨z,t,rfl⟩:∃ z t,a=[z,t]:=by
    match a,h with
    | [z,t],_=>exact ⟨z,t,rfl⟩
   obtain ⟨g,o,cap,rfl,hi',_⟩:=hw.cons;have hc:x.cell? ⟨g,o,none⟩=some (.string (txt z)):=hi' 0 (by simp);have hc2:x.cell? ⟨g,o + 1,none⟩=some (.string (txt t)):=hi' 1 (by simp);have c2:=rd_cell St.rd 2;have c3:=rd_cell St.rd 3;refine (esc_two z t (hz z (by simp)) (hz t (by simp)) g o cap B (.int .i64 d.es) (.int .i64 d.mx) x hc hc2 (c2.1.trans rfl) c2.2 (c3.1.trans rfl) c3.2).mono ?_;rintro e y ⟨rfl,x1,hb,rfl⟩;have hm:mEsc [z,t]=(octO z).bind fun (b:Nat)=>Option.map (fun (c:Nat) (d:Dv)=>{ d with es:=(b:Int),mx:=(c:Int) }) (octO t):=rfl
   have hfr:=((Fr.of_below (B:=B) (M:=M) (r:=fv.ownBlock) hb).trans (Fr.set B M _ x1 2 (.int .i64 (((octO z).getD 0:Nat):Int)))).trans (Fr.set B M _ _ 3 (.int .i64 (((octO t).getD 0:Nat):Int)));rw [hm]
   cases ho:octO z with
   | none=>rw [ho] at hfr; exact ⟨rfl,hfr,fun u hu=>by cases hu⟩
   | some b=>
    cases ho2:octO t with
    | none=>rw [ho,ho2] at hfr; exact ⟨rfl,hfr,fun u hu=>by cases hu⟩
    | some c=>
     rw [ho,ho2] at hfr;refine ⟨rfl,hfr,fun u hu=>?_⟩;have hu':(fun (d:Dv)=>{ d with es:=(b:Int),mx:=(c:Int) })=u:=Option.some.inj hu;subst hu';exact ⟨fv,qv,((St.below hB hM hb).set (d':={ d with es:=(b:Int) }) hB hM hBM 2 _ rfl rfl rfl).set hB hM hBM 3 _ rfl rfl rfl,.inl rfl⟩
 · rw [mEsc_len h];obtain ⟨p,cap,rfl⟩:=hw.form;refine (esc_len p a.length cap h (by omega) B x).mono ?_;rintro e y ⟨rfl,rfl⟩;exact Mean.no (Below.refl _ _)
theorem req_run:Calls Tryz.prog 107 #[.pointer (some ⟨B,0,none⟩),vw] x (Mean N B M x d fv qv seen (mReq a)):=by
 by_cases h:a.length=1
 · obtain ⟨z,rfl⟩:=len_one h;obtain ⟨g,o,cap,rfl,hi',_⟩:=hw.cons;have hc:x.cell? ⟨g,o,none⟩=some (.string (txt z)):=hi' 0 (by simp);have cc:=rd_cell St.rd 7;refine (req_one z (hz z (by simp)) g o cap B qv x hc (cc.1.trans rfl) cc.2).mono ?_;rintro e y ⟨rfl,x1,v,hb,hv,hfv,rfl⟩;have hfr:=(Fr.of_below (B:=B) (M:=M) (r:=fv.ownBlock) hb).trans (Fr.set B M _ x1 7 v);have hm:mReq [z]=(hexR z).bind fun b=>if b.length≤16 then some fun d=>{ d with rq:=b } else none:=rfl
   rw [hm];unfold reqB
   cases hx:hexR z with
   | none=>exact ⟨rfl,hfr,fun u hu=>by cases hu⟩
   | some bs=>
    rw [hx] at hv
    by_cases h16:bs.length≤16
    · have e1:((some bs).bind fun b=>if b.length≤16 then some (fun (d:Dv)=>{ d with rq:=b }) else none)=some fun (d:Dv)=>{ d with rq:=bs }:=if_pos h16
      rw [e1];refine ⟨by simp [h16],hfr,fun u hu=>?_⟩;have hu':=Option.some.inj hu;subst hu';exact ⟨fv,v,(St.below hB hM hb).setReq hB hM hBM hb St.sz St.ro hv hfv,.inl rfl⟩
    · have e1:((some bs).bind fun b=>if b.length≤16 then some (fun (d:Dv)=>{ d with rq:=b }) else none)=none:=if_neg h16;rw [e1];exact ⟨by simp [h16],hfr,fun u hu=>by cases hu⟩
 · rw [mReq_len h];obtain ⟨p,cap,rfl⟩:=hw.form;refine (req_len p a.length cap h (by omega) B x).mono ?_;rintro e y ⟨rfl,rfl⟩;exact Mean.no (Below.refl _ _)
include hL
theorem fie_run (hm:d.fs.length≤8):Calls Tryz.prog 106 #[.pointer (some ⟨B,0,none⟩),vw] x (Mean N B M x d fv qv seen ((fldO a).map fun x d=>{ d with fs:=d.fs ++ [x] })):=by
 by_cases h:a.length=7
 · obtain ⟨n,p,k,wd,s,f,u,rfl⟩:∃ n p k wd s f u,a=[n,p,k,wd,s,f,u]:=by
    match a,h with
    | [n,p,k,wd,s,f,u],_=>exact ⟨n,p,k,wd,s,f,u,rfl⟩
   obtain ⟨g,o,cap,rfl,hi',hg,_⟩:=hw.cons;have sv:Seven x g o n p k wd s f u:=⟨hi' 0 (by simp),hi' 1 (by simp),hi' 2 (by simp),hi' 3 (by simp),hi' 4 (by simp),hi' 5 (by simp),hi' 6 (by simp)⟩;have z0:=naA n (hz n (by simp));have z2:=naA k (hz k (by simp));have z6:=naA u (hz u (by simp));have hm7:fldO [n,p,k,wd,s,f,u]=if (nameB n=true∧nameB k=true∧nameB u=true)∧numB p 0 31=true∧numB wd 1 8=true∧frB s=true∧frB f=true then some ⟨n,readV p,k,readV wd,frN s,frD s,frN f,frD f,u⟩ else none:=rfl
   by_cases hN:nameB n=true∧nameB k=true∧nameB u=true
   · rw [hN.1] at z0;rw [hN.2.1] at z2;rw [hN.2.2] at z6;have cc:=rd_cell St.rd 6;refine (fie_rest n p k wd s f u _ _ _ _ _ _ _ _ _ _ z0 z2 z6 (nuA p (hz p (by simp)) 0 31) (nuA wd (hz wd (by simp)) 1 8) (frA s (hz s (by simp))) (frA f (hz f (by simp))) g o cap B x sv fv N d.fs.length (fdCs d.fs) (by omega) (cc.1.trans rfl) cc.2 St.ro St.sz (by omega) (by omega) (own_ge St.ro hB) _ rfl).mono ?_;rintro e y ⟨rfl,h1,h2⟩
     by_cases hR:numB p 0 31=true∧numB wd 1 8=true∧frB s=true∧frB f=true
     · have e1:=fr_yes hR.2.2.1;have e2:=fr_yes hR.2.2.2;have eR:(numB p 0 31 && (numB wd 1 8 && (decide (rdE (txt s)=0) && decide (rdE (txt f)=0))))=true:=by rw [hR.1,hR.2.1,e1.1,e2.1]; rfl
       have n1:numV p 0 31=readV p:=by unfold numV; rw [if_pos hR.1]
       have n2:numV wd 1 8=readV wd:=by unfold numV; rw [if_pos hR.2.1]
       obtain ⟨x1,g',cap',q1,q2,q3,rfl⟩:=h2 eR;rw [hm7,if_pos ⟨hN,hR⟩];rw [n1,n2,e1.2.1,e1.2.2,e2.2.1,e2.2.2] at q1;refine ⟨by rw [eR]; rfl,(Fr.of_grown q2).trans (Fr.set B M _ x1 6 _),fun u' hu=>?_⟩;have hu':=Option.some.inj hu;subst hu';exact ⟨_,qv,St.addField hB hM hBM q1 q2 q3,q3.imp (fun e=>by rw [e]; rfl) (fun e=>⟨g',rfl,e⟩)⟩
     · have eR:(numB p 0 31 && (numB wd 1 8 && (decide (rdE (txt s)=0) && decide (rdE (txt f)=0))))=false:=by
        cases hc:(numB p 0 31 && (numB wd 1 8 && (decide (rdE (txt s)=0) && decide (rdE (txt f)=0)))) with
        | false=>rfl
        | true=>
         exfalso
         simp only [Bool.and_eq_true] at hc;exact hR ⟨hc.1,hc.2.1,hc.2.2.1,hc.2.2.2⟩
       rw [hm7,if_neg (fun c=>hR c.2),eR];exact ⟨rfl,.of_below (h1 eR),fun u' hu=>by cases hu⟩
   · rw [hm7,if_neg (fun c=>hN c.1)];refine (fie_names n p k wd s f u _ _ _ z0 z2 z6 ?_ g o cap B x sv).mono ?_
     · cases hc:(nameB n && (nameB k && nameB u)) with
       | false=>rfl
       | true=>
        exfalso
        simp only [Bool.and_eq_true] at hc;exact hN ⟨hc.1,hc.2.1,hc.2.2⟩
     · rintro e y ⟨rfl,hb⟩;exact Mean.no hb
 · rw [fld_len h];obtain ⟨p,cap,rfl⟩:=hw.form;refine (fie_len p a.length cap h (by omega) B x).mono ?_;rintro e y ⟨rfl,rfl⟩;exact Mean.no (Below.refl _ _)
end
theorem pname_any (B k:Nat) (w:World):Calls Tryz.prog 102 #[.pointer (some ⟨B,k,none⟩)] w fun e w'=>e=.returned (.func (.func 125) #[] #[.pointer (some ⟨w.heap.size,0,none⟩)])∧w'=w.alloc (.cells #[.pointer (some ⟨B,k,none⟩)] 177):=by
 have hmf:∀ (fn:Fn) (first cap:Array Value) (w:World),(Instr.makeFunc fn first cap).run Tryz.prog w=.ok (.func fn first cap) w:=fun _ _ _ _=>rfl
 go_enter Tryz.func102,Tryz.ntmps102
 go_wp2;go_ret;exact ⟨rfl,rfl⟩
theorem pnumber_any (B k:Nat) (lo hi:Int) (w:World):Calls Tryz.prog 105 #[.pointer (some ⟨B,k,none⟩),.int .i64 lo,.int .i64 hi] w fun e w'=>e=.returned (.func (.func 127) #[] #[.pointer (some ⟨w.heap.size + 1,0,none⟩),.pointer (some ⟨w.heap.size + 2,0,none⟩),.pointer (some ⟨w.heap.size,0,none⟩)])∧w'=((w.alloc (.cells #[.pointer (some ⟨B,k,none⟩)] 179)).alloc (.cells #[.int .i64 lo] 3)).alloc (.cells #[.int .i64 hi] 3):=by
 have hmf:∀ (fn:Fn) (first cap:Array Value) (w:World),(Instr.makeFunc fn first cap).run Tryz.prog w=.ok (.func fn first cap) w:=fun _ _ _ _=>rfl
 go_enter Tryz.func105,Tryz.ntmps105
 go_wp2;go_ret;refine ⟨?_,rfl⟩;simp
def insK:Nat→Option Wd
 | 5=>some kDev
 | 8=>some kSta
 | 11=>some kEsc
 | 16=>some kSiz
 | 21=>some kSum
 | 24=>some kFie
 | 27=>some kReq
 | 32=>some kPol
 | 37=>some kTim
 | 42=>some kRet
 | 47=>some kAge
 | _=>none
def NmG (H B:Nat) (x:World) (k:Nat) (v:Value):Prop:=∃ b,v=.func (.func 125) #[] #[.pointer (some ⟨b,0,none⟩)]∧x.cell? ⟨b,0,none⟩=some (.pointer (some ⟨B,k,none⟩))∧H≤b
def NuG (H B:Nat) (x:World) (k:Nat) (lo hi:Int) (v:Value):Prop:=∃ b1 b2 b3,v=.func (.func 127) #[] #[.pointer (some ⟨b1,0,none⟩),.pointer (some ⟨b2,0,none⟩),.pointer (some ⟨b3,0,none⟩)]∧x.cell? ⟨b1,0,none⟩=some (.int .i64 lo)∧x.cell? ⟨b2,0,none⟩=some (.int .i64 hi)∧x.cell? ⟨b3,0,none⟩=some (.pointer (some ⟨B,k,none⟩))∧H≤b1∧H≤b2∧H≤b3
def MnG (H B:Nat) (x:World) (f:Wd) (v:Value):Prop:=
 (f=kDev∧NmG H B x 0 v) ∨ (f=kSum∧NmG H B x 5 v) ∨ (f=kSiz∧NuG H B x 4 1 32 v) ∨ (f=kPol∧NuG H B x 8 1 1000 v) ∨ (f=kTim∧NuG H B x 9 1 1000 v) ∨ (f=kRet∧NuG H B x 10 0 10 v) ∨ (f=kAge∧NuG H B x 11 1 1000 v)
 ∨ (f=kSta∧v=.func (.func 103) #[.pointer (some ⟨B,0,none⟩)] #[]) ∨ (f=kEsc∧v=.func (.func 104) #[.pointer (some ⟨B,0,none⟩)] #[]) ∨ (f=kReq∧v=.func (.func 107) #[.pointer (some ⟨B,0,none⟩)] #[]) ∨ (f=kFie∧v=.func (.func 106) #[.pointer (some ⟨B,0,none⟩)] #[])
def KeepC (x y:World):Prop:=x.heap.size≤y.heap.size∧∀ a v,x.cell? a=some v→y.cell? a=some v
theorem KeepC.of_below {x y:World} (h:Below x.heap.size x y):KeepC x y:=⟨h.size,fun a v hc=>(h.cell (block_lt_of_cell hc)).trans hc⟩
theorem NmG.keep {H B:Nat} {x y:World} {k:Nat} {v:Value} (h:NmG H B x k v) (hk:KeepC x y):NmG H B y k v:=by
 obtain ⟨b,h1,h2,h3⟩:=h;exact ⟨b,h1,hk.2 _ _ h2,h3⟩
theorem NuG.keep {H B:Nat} {x y:World} {k:Nat} {lo hi:Int} {v:Value} (h:NuG H B x k lo hi v) (hk:KeepC x y):NuG H B y k lo hi v:=by
 obtain ⟨b1,b2,b3,h0,h1,h2,h3,h4⟩:=h;exact ⟨b1,b2,b3,h0,hk.2 _ _ h1,hk.2 _ _ h2,hk.2 _ _ h3,h4⟩
theorem MnG.keep {H B:Nat} {x y:World} {f:Wd} {v:Value} (h:MnG H B x f v) (hk:KeepC x y):MnG H B y f v:=by
 rcases h with ⟨e,h⟩ | ⟨e,h⟩ | ⟨e,h⟩ | ⟨e,h⟩ | ⟨e,h⟩ | ⟨e,h⟩ | ⟨e,h⟩ | ⟨e,h⟩ | ⟨e,h⟩ | ⟨e,h⟩ | ⟨e,h⟩
 · exact .inl ⟨e,h.keep hk⟩
 · exact .inr (.inl ⟨e,h.keep hk⟩)
 · exact .inr (.inr (.inl ⟨e,h.keep hk⟩))
 · exact .inr (.inr (.inr (.inl ⟨e,h.keep hk⟩)))
 · exact .inr (.inr (.inr (.inr (.inl ⟨e,h.keep hk⟩))))
 · exact .inr (.inr (.inr (.inr (.inr (.inl ⟨e,h.keep hk⟩)))))
 · exact .inr (.inr (.inr (.inr (.inr (.inr (.inl ⟨e,h.keep hk⟩))))))
 · exact .inr (.inr (.inr (.inr (.inr (.inr (.inr (.inl ⟨e,h⟩)))))))
 · exact .inr (.inr (.inr (.inr (.inr (.inr (.inr (.inr (.inl ⟨e,h⟩))))))))
 · exact .inr (.inr (.inr (.inr (.inr (.inr (.inr (.inr (.inr (.inl ⟨e,h⟩)))))))))
 · exact .inr (.inr (.inr (.inr (.inr (.inr (.inr (.inr (.inr (.inr ⟨e,h⟩)))))))))
structure MkMap (H B:Nat) (x:Array Bool) (z:World) (G:Nat) (ms:Array MapEntry) (c:Nat):Prop where
 at_:z.heap[G]?=some (.map ms c)
 lo:H≤G
 val:∀ (i:Nat) (e:MapEntry),ms[i]?=some e→∃ (j:Nat) (f:Wd),insK j=some f∧x.getD j false=true∧e.key=.string (txt f)∧MnG H B z f e.val
 has:∀ (j:Nat) (f:Wd),insK j=some f→x.getD j false=true→∃ (i:Nat) (e:MapEntry),ms[i]?=some e∧e.key=.string (txt f)
 born:(ms.toList.map (·.born)).Nodup
 lt:∀ e ∈ ms.toList,e.born < c
def MapV (H:Nat) (z:World) (v:Value):Prop:=∃ g,v=.map (some g)∧H≤g∧∃ es c,z.heap[g]?=some (.map es c)
def mkV (B:Nat):Nat→Value
 | 1=>.pointer (some ⟨B,0,none⟩)
 | 2=>.pointer (some ⟨B,0,none⟩)
 | 3=>.pointer (some ⟨B,0,none⟩)
 | 6=>.pointer (some ⟨B,0,none⟩)
 | 7=>.func (.func 103) #[.pointer (some ⟨B,0,none⟩)] #[]
 | 9=>.pointer (some ⟨B,0,none⟩)
 | 10=>.func (.func 104) #[.pointer (some ⟨B,0,none⟩)] #[]
 | 12=>.pointer (some ⟨B,0,none⟩)
 | 13=>.pointer (some ⟨B,0,none⟩)
 | 14=>.pointer (some ⟨B,4,none⟩)
 | 17=>.pointer (some ⟨B,0,none⟩)
 | 18=>.pointer (some ⟨B,0,none⟩)
 | 19=>.pointer (some ⟨B,5,none⟩)
 | 22=>.pointer (some ⟨B,0,none⟩)
 | 23=>.func (.func 106) #[.pointer (some ⟨B,0,none⟩)] #[]
 | 25=>.pointer (some ⟨B,0,none⟩)
 | 26=>.func (.func 107) #[.pointer (some ⟨B,0,none⟩)] #[]
 | 28=>.pointer (some ⟨B,0,none⟩)
 | 29=>.pointer (some ⟨B,0,none⟩)
 | 30=>.pointer (some ⟨B,8,none⟩)
 | 33=>.pointer (some ⟨B,0,none⟩)
 | 34=>.pointer (some ⟨B,0,none⟩)
 | 35=>.pointer (some ⟨B,9,none⟩)
 | 38=>.pointer (some ⟨B,0,none⟩)
 | 39=>.pointer (some ⟨B,0,none⟩)
 | 40=>.pointer (some ⟨B,10,none⟩)
 | 43=>.pointer (some ⟨B,0,none⟩)
 | 44=>.pointer (some ⟨B,0,none⟩)
 | 45=>.pointer (some ⟨B,11,none⟩)
 | _=>undef
def MkP (H B:Nat) (i:Nat) (v:Value) (z:World):Prop:=
 match i with
 | 0=>MapV H z v
 | 48=>MapV H z v
 | 49=>MapV H z v
 | 4=>NmG H B z 0 v
 | 20=>NmG H B z 5 v
 | 15=>NuG H B z 4 1 32 v
 | 31=>NuG H B z 8 1 1000 v
 | 36=>NuG H B z 9 1 1000 v
 | 41=>NuG H B z 10 0 10 v
 | 46=>NuG H B z 11 1 1000 v
 | i=>v=mkV B i
def KeepM (x y:World):Prop:=KeepC x y∧∀ (g:Nat) (es:Array MapEntry) (c:Nat),x.heap[g]?=some (Obj.map es c)→∃ (es':Array MapEntry) (c':Nat),y.heap[g]?=some (Obj.map es' c')
theorem KeepM.of_below {x y:World} (h:Below x.heap.size x y):KeepM x y:=⟨.of_below h,fun g es c hg=>⟨es,c,(h.block g (Array.getElem?_eq_some_iff.1 hg).1).trans hg⟩⟩
theorem MapV.keep {H:Nat} {x y:World} {v:Value} (h:MapV H x v) (hk:KeepM x y):MapV H y v:=by
 obtain ⟨g,h1,h2,es,c,h3⟩:=h;exact ⟨g,h1,h2,hk.2 g es c h3⟩
theorem MkP.keep {H B:Nat} {x:Array Bool} {z y:World} (hk:KeepM z y):RegK (MkP H B) x z y:=by
 intro j v _ hp;unfold MkP at hp ⊢
 split at hp
 · exact hp.keep hk
 · exact hp.keep hk
 · exact hp.keep hk
 · exact hp.keep hk.1
 · exact hp.keep hk.1
 · exact hp.keep hk.1
 · exact hp.keep hk.1
 · exact hp.keep hk.1
 · exact hp.keep hk.1
 · exact hp.keep hk.1
 · exact hp
structure MkW (w0:World) (B:Nat) (x:Array Bool) (z:World):Prop where
 b:Below w0.heap.size w0 z
 no:x.getD 0 false=false→(∀ j f,insK j=some f→x.getD j false=false)∧∀ (g:Nat) (es:Array MapEntry) (c:Nat),w0.heap.size≤g→z.heap[g]? ≠ some (Obj.map es c)
 mp:x.getD 0 false=true→∃ G ms c,MkMap w0.heap.size B x z G ms c∧∀ (g:Nat) (es:Array MapEntry) (c:Nat),w0.heap.size≤g→z.heap[g]?=some (Obj.map es c)→g=G
theorem MkMap.other {H B:Nat} {x:Array Bool} {z:World} {G:Nat} {ms:Array MapEntry} {c:Nat} (h:MkMap H B x z G ms c) {i:Nat} (hi:insK i=none):MkMap H B (x.setIfInBounds i true) z G ms c:=by
 have hj:∀ j f,insK j=some f→(x.setIfInBounds i true).getD j false=x.getD j false:=fun j f hjf=>getD_set_ne false (fun e=>by rw [e,hjf] at hi; cases hi)
 refine ⟨h.at_,h.lo,fun k e he=>?_,fun j f hjf hx=>h.has j f hjf (by rwa [hj j f hjf] at hx),h.born,h.lt⟩;obtain ⟨j,f,h1,h2,h3,h4⟩:=h.val k e he;exact ⟨j,f,h1,by rw [hj j f h1]; exact h2,h3,h4⟩
theorem MkW.other {w0:World} {B:Nat} {x:Array Bool} {z:World} (h:MkW w0 B x z) {i:Nat} (h0:i ≠ 0) (hi:insK i=none):MkW w0 B (x.setIfInBounds i true) z:=by
 have e0:(x.setIfInBounds i true).getD 0 false=x.getD 0 false:=getD_set_ne false h0;refine ⟨h.b,fun hx=>?_,fun hx=>?_⟩
 · rw [e0] at hx;refine ⟨fun j f hjf=>?_,(h.no hx).2⟩;rw [getD_set_ne false (fun e=>by rw [e,hjf] at hi; cases hi)];exact (h.no hx).1 j f hjf
 · rw [e0] at hx;obtain ⟨G,ms,c,h1,h2⟩:=h.mp hx;exact ⟨G,ms,c,h1.other hi,h2⟩
theorem MkW.cells {w0:World} {B:Nat} {x:Array Bool} {z:World} (h:MkW w0 B x z) (C:Array Value) (t:TypeId):MkW w0 B x (z.alloc (.cells C t)):=by
 have hb:Below z.heap.size z (z.alloc (.cells C t)):=(Below.refl _ _).alloc (Nat.le_refl _) _;have hm:∀ (g:Nat) (es:Array MapEntry) (c:Nat),(z.alloc (.cells C t)).heap[g]?=some (Obj.map es c)→z.heap[g]?=some (Obj.map es c):=fun g es c hg=>by
  rcases Nat.lt_trichotomy g z.heap.size with hlt | heq | hgt
  · rwa [hb.block g hlt] at hg
  · rw [heq,World.alloc_heap_new] at hg; cases hg
  · have:=(Array.getElem?_eq_some_iff.1 hg).1;rw [World.size_alloc] at this;omega
 refine ⟨h.b.alloc h.b.size _,fun hx=>⟨(h.no hx).1,fun g es c hg hc=>(h.no hx).2 g es c hg (hm g es c hc)⟩,fun hx=>?_⟩;obtain ⟨G,ms,c,h1,h2⟩:=h.mp hx;refine ⟨G,ms,c,⟨(hb.block G (Array.getElem?_eq_some_iff.1 h1.at_).1).trans h1.at_,h1.lo,fun i e he=>?_,h1.has,h1.born,h1.lt⟩,fun g es c hg hc=>h2 g es c hg (hm g es c hc)⟩;obtain ⟨j,f,q1,q2,q3,q4⟩:=h1.val i e he;exact ⟨j,f,q1,q2,q3,q4.keep (.of_below hb)⟩
theorem MkW.made {w0:World} {B:Nat} {x:Array Bool} {z:World} (h:MkW w0 B x z) (hx0:x.getD 0 false=false) (hsz:0 < x.size):MkW w0 B (x.setIfInBounds 0 true) (z.alloc (.map #[] 0)):=by
 obtain ⟨n1,n2⟩:=h.no hx0;have hb:Below z.heap.size z (z.alloc (.map #[] 0)):=(Below.refl _ _).alloc (Nat.le_refl _) _;have e0:(x.setIfInBounds 0 true).getD 0 false=true:=getD_set_at hsz;have i0:∀ j f,insK j=some f→j ≠ 0:=fun j f hj e=>by subst e; cases hj
 refine ⟨h.b.alloc h.b.size _,fun hx=>(by rw [e0] at hx; cases hx),fun _=>⟨z.heap.size,#[],0,⟨World.alloc_heap_new z _,h.b.size,fun i e he=>by simp at he,fun j f hj hx=>?_,by simp,fun e he=>by simp at he⟩,fun g es c hg hc=>?_⟩⟩
 · rw [getD_set_ne false (Ne.symm (i0 j f hj)),n1 j f hj] at hx; cases hx
 · rcases Nat.lt_trichotomy g z.heap.size with hlt | heq | hgt
   · rw [hb.block g hlt] at hc; exact absurd hc (n2 g es c hg)
   · exact heq
   · have:=(Array.getElem?_eq_some_iff.1 hc).1;rw [World.size_alloc] at this;omega
theorem insK_inj {i j:Nat} {f:Wd} (hi:insK i=some f) (hj:insK j=some f):i=j:=by
 unfold insK at hi hj
 split at hi <;> split at hj <;> first | rfl | (exfalso; cases hi; revert hj; decide) | cases hi | cases hj
theorem MkW.put {w0:World} {B:Nat} {x:Array Bool} {z:World} (h:MkW w0 B x z) {i:Nat} {f:Wd} (hi:insK i=some f) (hxi:x.getD i false=false) (hsz:i < x.size) (hx0:x.getD 0 false=true) {v0:Value} (hv0:MapV w0.heap.size z v0) {v:Value} (hv:MnG w0.heap.size B z f v) :
 ∃ g Z,v0=.map (some g)∧(Instr.mapUpdate 139 (.map (some g)) (.string (txt f)) v).run Tryz.prog z=.ok () Z∧KeepM z Z∧MkW w0 B (x.setIfInBounds i true) Z:=by
 obtain ⟨G,ms,c,h1,h2⟩:=h.mp hx0;obtain ⟨g,rfl,hg,es,c',he⟩:=hv0;obtain rfl:=h2 g es c' hg he;have ne:∀ (k:Nat) (e:MapEntry),ms[k]?=some e→e.key ≠ .string (txt f):=by
  intro k e hk hc;obtain ⟨j,f',q1,q2,q3,_⟩:=h1.val k e hk;rw [q3] at hc;injection hc with hc
  have:=txt_inj hc;subst this;have:=insK_inj q1 hi;subst this;rw [hxi] at q2; cases q2
 have fn:Instr.findNow .string (.string (txt f)) ms.toList 0=some none:=by
  rcases find_arr f ms (fun k e hk=>by obtain ⟨j,f',_,_,q3,_⟩:=h1.val k e hk; exact ⟨f',q3⟩) with ⟨q,_⟩ | ⟨k,e,q1,q2,_⟩
  · exact q
  · exact absurd q2 (ne k e q1)
 have hgl:=(Array.getElem?_eq_some_iff.1 h1.at_).1;have i0:i ≠ 0:=fun e=>by subst e; cases hi
 have ho:∀ k,k ≠ g→({ z with heap:=z.heap.setIfInBounds g (.map (ms.push { key:=.string (txt f),val:=v,born:=c }) (c + 1)) }:World).heap[k]?=z.heap[k]?:=fun k hk=>by simp [Array.getElem?_setIfInBounds_ne (Ne.symm hk)]
 have hat:({ z with heap:=z.heap.setIfInBounds g (.map (ms.push { key:=.string (txt f),val:=v,born:=c }) (c + 1)) }:World).heap[g]?=some (.map (ms.push { key:=.string (txt f),val:=v,born:=c }) (c + 1)):=by simp [hgl]
 have kc:KeepC z { z with heap:=z.heap.setIfInBounds g (.map (ms.push { key:=.string (txt f),val:=v,born:=c }) (c + 1)) }:=by
  refine ⟨by simp,fun a u ha=>?_⟩
  by_cases hag:a.block=g
  · exfalso
    unfold World.cell? at ha;rw [hag,h1.at_] at ha
    cases ha
  · rw [World.cell?_of_block (ho a.block hag)]; exact ha
 refine ⟨g,_,rfl,ins_none _ 9 175 Tryz.underlying139 Tryz.underlying9 ms c (txt f) v fn z g h1.at_,⟨kc,fun k es c hk=>?_⟩,?_⟩
 · by_cases hkg:k=g
   · subst hkg; exact ⟨_,_,hat⟩
   · exact ⟨es,c,(ho k hkg).trans hk⟩
 · refine ⟨⟨h.b.os,h.b.tape,h.b.output,by simpa using h.b.size,fun k hk=>(ho k (by omega)).trans (h.b.block k hk)⟩,fun hx=>?_,fun _=>⟨g,_,_,⟨hat,hg,fun k e hk=>?_,fun j f' hj hx=>?_,?_,?_⟩,fun k es c' hk hc=>?_⟩⟩
   · rw [getD_set_true hx0] at hx; cases hx
   · rw [Array.getElem?_push] at hk
     split at hk
     · cases hk
       exact ⟨i,f,hi,getD_set_at hsz,rfl,hv.keep kc⟩
     · obtain ⟨j,f',q1,q2,q3,q4⟩:=h1.val k e hk;exact ⟨j,f',q1,getD_set_true q2,q3,q4.keep kc⟩
   · by_cases hji:j=i
     · subst hji;rw [hi] at hj; cases hj;exact ⟨ms.size,_,by rw [Array.getElem?_push,if_pos rfl],rfl⟩
     · rw [getD_set_ne false (Ne.symm hji)] at hx;obtain ⟨k,e,q1,q2⟩:=h1.has j f' hj hx;have:=(Array.getElem?_eq_some_iff.1 q1).1;exact ⟨k,e,by rw [Array.getElem?_push,if_neg (by omega)]; exact q1,q2⟩
   · rw [Array.toList_push,List.map_append,List.nodup_append];refine ⟨h1.born,by simp,fun a ha b hb e=>?_⟩;obtain ⟨e',he',rfl⟩:=List.mem_map.1 ha;have hb':b=c:=by simpa using hb
     have:=h1.lt e' he';omega
   · intro e he';rw [Array.toList_push,List.mem_append] at he';rcases he' with he' | he'
     · have:=h1.lt e he'; omega
     · have:e={ key:=.string (txt f),val:=v,born:=c }:=by simpa using he'
       rw [this]; exact Nat.lt_succ_self _
   · by_cases hkg:k=g
     · exact hkg
     · rw [ho k hkg] at hc;exact h2 k es c' hk hc
theorem rep_getD (n j:Nat):(Array.replicate n false).getD j false=false:=by
 rw [Array.getD_eq_getD_getElem?,Array.getElem?_replicate]
 split <;> rfl
theorem nm_new {H:Nat} (B k:Nat) (z:World) (hH:H≤z.heap.size):NmG H B (z.alloc (.cells #[.pointer (some ⟨B,k,none⟩)] 177)) k (.func (.func 125) #[] #[.pointer (some ⟨z.heap.size,0,none⟩)]):=⟨z.heap.size,rfl,by simp,hH⟩
theorem new_cell (W:World) (v:Value) (t:TypeId):(W.alloc (.cells #[v] t)).cell? ⟨W.heap.size,0,none⟩=some v:=by simp
theorem nu_below (B k:Nat) (lo hi:Int) (z:World):Below z.heap.size z (((z.alloc (.cells #[.pointer (some ⟨B,k,none⟩)] 179)).alloc (.cells #[.int .i64 lo] 3)).alloc (.cells #[.int .i64 hi] 3)):=
 (((Below.refl _ _).alloc (Nat.le_refl _) _).alloc (by rw [World.size_alloc]; omega) _).alloc (by rw [World.size_alloc,World.size_alloc]; omega) _
theorem nu_new {H:Nat} (B k:Nat) (lo hi:Int) (z:World) (hH:H≤z.heap.size):NuG H B (((z.alloc (.cells #[.pointer (some ⟨B,k,none⟩)] 179)).alloc (.cells #[.int .i64 lo] 3)).alloc (.cells #[.int .i64 hi] 3)) k lo hi (.func (.func 127) #[] #[.pointer (some ⟨z.heap.size + 1,0,none⟩),.pointer (some ⟨z.heap.size + 2,0,none⟩),.pointer (some ⟨z.heap.size,0,none⟩)]):=by
 refine ⟨z.heap.size + 1,z.heap.size + 2,z.heap.size,rfl,?_,?_,?_,by omega,by omega,hH⟩
 · have e:z.heap.size + 1=(z.alloc (.cells #[.pointer (some ⟨B,k,none⟩)] 179)).heap.size:=by rw [World.size_alloc]
   rw [World.cell?_alloc_lt _ _ _ (by simp),e];exact new_cell _ _ _
 · have e:z.heap.size + 2=((z.alloc (.cells #[.pointer (some ⟨B,k,none⟩)] 179)).alloc (.cells #[.int .i64 lo] 3)).heap.size:=by rw [World.size_alloc,World.size_alloc]
   rw [e];exact new_cell _ _ _
 · rw [World.cell?_alloc_lt _ _ _ (by simp; omega),World.cell?_alloc_lt _ _ _ (by simp)];simp
theorem meanings_any (B:Nat) (w:World):Calls Tryz.prog 75 #[.pointer (some ⟨B,0,none⟩)] w fun e z=>∃ G ms c x,e=.returned (.map (some G))∧MkMap w.heap.size B x z G ms c∧(∀ j f,insK j=some f→x.getD j false=true)∧Below w.heap.size w z:=by
 have hmf:∀ (fn:Fn) (first cap:Array Value) (w:World),(Instr.makeFunc fn first cap).run Tryz.prog w=.ok (.func fn first cap) w:=fun _ _ _ _=>rfl
 have hmm:=@run_makeMap Tryz.prog
 go_enter Tryz.func75,Tryz.ntmps75
 go_upto_region 2 with fail
 refine region_props (MkP w.heap.size B) (MkW w B) (by kernel_rfl) (by kernel_rfl) ?_ ?_ ?_
 · intro x a z i op ho hI haf hx hxi hW;have hi:i < 50:=(List.getElem?_eq_some_iff.1 ho).1;have hxs:x.size=50:=hx;have xi:=getD_false hxi
   match i,hi with
   | 0,_=>
    obtain rfl:=Option.some.inj ho;go_simp;exact ⟨_,rfl,⟨_,rfl,hW.b.size,_,_,World.alloc_heap_new z _⟩,MkP.keep (.of_below ((Below.refl _ _).alloc (Nat.le_refl _) _)),hW.made xi (by omega)⟩
   | 1,_=>
    obtain rfl:=Option.some.inj ho;have e1:a.tmps.getD 3 undef=.pointer (some ⟨B,0,none⟩):=(hI.was (by kernel_rfl)).trans rfl;go_simp;exact ⟨_,rfl,rfl,RegK.refl _ _ _,(hW.other (by decide) rfl)⟩
   | 2,_=>
    obtain rfl:=Option.some.inj ho;have e1:a.tmps.getD 8 undef=.pointer (some ⟨B,0,none⟩):=hI.val 1 _ 8 rfl rfl (dep_at haf (by kernel_rfl));go_simp;exact ⟨_,rfl,rfl,RegK.refl _ _ _,(hW.other (by decide) rfl)⟩
   | 3,_=>
    obtain rfl:=Option.some.inj ho;have e1:a.tmps.getD 9 undef=.pointer (some ⟨B,0,none⟩):=hI.val 2 _ 9 rfl rfl (dep_at haf (by kernel_rfl));go_simp;exact ⟨_,rfl,rfl,RegK.refl _ _ _,(hW.other (by decide) rfl)⟩
   | 4,_=>
    obtain rfl:=Option.some.inj ho;have e1:a.tmps.getD 10 undef=.pointer (some ⟨B,0,none⟩):=hI.val 3 _ 10 rfl rfl (dep_at haf (by kernel_rfl));go_simp;refine (pname_any B 0 z).mono ?_;rintro e z' ⟨rfl,rfl⟩;have hb:Below z.heap.size z (z.alloc (.cells #[.pointer (some ⟨B,0,none⟩)] 177)):=(Below.refl _ _).alloc (Nat.le_refl _) _;exact ⟨_,rfl,nm_new B 0 z hW.b.size,MkP.keep (.of_below hb),(hW.cells _ _).other (by decide) rfl⟩
   | 5,_=>
    obtain rfl:=Option.some.inj ho;have e2:=hI.val 4 _ 11 rfl rfl (dep_at haf (by kernel_rfl));obtain ⟨g,Z,e1,up,km,W'⟩:=hW.put (i:=5) (f:=kDev) rfl xi (by omega) (dep_at haf (by kernel_rfl)) (hI.val 0 _ 7 rfl rfl (dep_at haf (by kernel_rfl))) (v:=a.tmps.getD 11 undef) (.inl ⟨rfl,e2⟩);replace up:(Instr.mapUpdate 139 (.map (some g)) (.string ⟨#[100,101,118,105,99,101]⟩) (a.tmps.getD 11 undef)).run Tryz.prog z=.ok () Z:=up;generalize hv:a.tmps.getD 11 undef=v at *;go_simp
    first
     | exact ⟨MkP.keep km,W'⟩
     | exact MkP.keep km
   | 6,_=>
    obtain rfl:=Option.some.inj ho;have e1:a.tmps.getD 0 undef=.pointer (some ⟨B,0,none⟩):=(hI.was (by kernel_rfl)).trans rfl;go_simp;exact ⟨_,rfl,rfl,RegK.refl _ _ _,(hW.other (by decide) rfl)⟩
   | 7,_=>
    obtain rfl:=Option.some.inj ho;have e1:a.tmps.getD 12 undef=.pointer (some ⟨B,0,none⟩):=hI.val 6 _ 12 rfl rfl (dep_at haf (by kernel_rfl));go_simp;exact ⟨_,rfl,rfl,RegK.refl _ _ _,(hW.other (by decide) rfl)⟩
   | 8,_=>
    obtain rfl:=Option.some.inj ho;have e2:a.tmps.getD 13 undef=.func (.func 103) #[.pointer (some ⟨B,0,none⟩)] #[]:=hI.val 7 _ 13 rfl rfl (dep_at haf (by kernel_rfl));obtain ⟨g,Z,e1,up,km,W'⟩:=hW.put (i:=8) (f:=kSta) rfl xi (by omega) (dep_at haf (by kernel_rfl)) (hI.val 0 _ 7 rfl rfl (dep_at haf (by kernel_rfl))) (v:=a.tmps.getD 13 undef) (.inr (.inr (.inr (.inr (.inr (.inr (.inr (.inl ⟨rfl,e2⟩))))))));replace up:(Instr.mapUpdate 139 (.map (some g)) (.string ⟨#[115,116,97,114,116]⟩) (a.tmps.getD 13 undef)).run Tryz.prog z=.ok () Z:=up;rw [e2] at up;go_simp
    first
     | exact ⟨MkP.keep km,W'⟩
     | exact MkP.keep km
   | 9,_=>
    obtain rfl:=Option.some.inj ho;have e1:a.tmps.getD 0 undef=.pointer (some ⟨B,0,none⟩):=(hI.was (by kernel_rfl)).trans rfl;go_simp;exact ⟨_,rfl,rfl,RegK.refl _ _ _,(hW.other (by decide) rfl)⟩
   | 10,_=>
    obtain rfl:=Option.some.inj ho;have e1:a.tmps.getD 14 undef=.pointer (some ⟨B,0,none⟩):=hI.val 9 _ 14 rfl rfl (dep_at haf (by kernel_rfl));go_simp;exact ⟨_,rfl,rfl,RegK.refl _ _ _,(hW.other (by decide) rfl)⟩
   | 11,_=>
    obtain rfl:=Option.some.inj ho;have e2:a.tmps.getD 15 undef=.func (.func 104) #[.pointer (some ⟨B,0,none⟩)] #[]:=hI.val 10 _ 15 rfl rfl (dep_at haf (by kernel_rfl));obtain ⟨g,Z,e1,up,km,W'⟩:=hW.put (i:=11) (f:=kEsc) rfl xi (by omega) (dep_at haf (by kernel_rfl)) (hI.val 0 _ 7 rfl rfl (dep_at haf (by kernel_rfl))) (v:=a.tmps.getD 15 undef) (.inr (.inr (.inr (.inr (.inr (.inr (.inr (.inr (.inl ⟨rfl,e2⟩)))))))));replace up:(Instr.mapUpdate 139 (.map (some g)) (.string ⟨#[101,115,99,97,112,101]⟩) (a.tmps.getD 15 undef)).run Tryz.prog z=.ok () Z:=up;rw [e2] at up;go_simp
    first
     | exact ⟨MkP.keep km,W'⟩
     | exact MkP.keep km
   | 12,_=>
    obtain rfl:=Option.some.inj ho;have e1:a.tmps.getD 3 undef=.pointer (some ⟨B,0,none⟩):=(hI.was (by kernel_rfl)).trans rfl;go_simp;exact ⟨_,rfl,rfl,RegK.refl _ _ _,(hW.other (by decide) rfl)⟩
   | 13,_=>
    obtain rfl:=Option.some.inj ho;have e1:a.tmps.getD 16 undef=.pointer (some ⟨B,0,none⟩):=hI.val 12 _ 16 rfl rfl (dep_at haf (by kernel_rfl));go_simp;exact ⟨_,rfl,rfl,RegK.refl _ _ _,(hW.other (by decide) rfl)⟩
   | 14,_=>
    obtain rfl:=Option.some.inj ho;have e1:a.tmps.getD 17 undef=.pointer (some ⟨B,0,none⟩):=hI.val 13 _ 17 rfl rfl (dep_at haf (by kernel_rfl));go_simp;exact ⟨_,rfl,rfl,RegK.refl _ _ _,(hW.other (by decide) rfl)⟩
   | 15,_=>
    obtain rfl:=Option.some.inj ho;have e1:a.tmps.getD 18 undef=.pointer (some ⟨B,4,none⟩):=hI.val 14 _ 18 rfl rfl (dep_at haf (by kernel_rfl));go_simp;refine (pnumber_any B 4 1 32 z).mono ?_;rintro e z' ⟨rfl,rfl⟩;exact ⟨_,rfl,nu_new B 4 1 32 z hW.b.size,MkP.keep (.of_below (nu_below B 4 1 32 z)),(((hW.cells _ _).cells _ _).cells _ _).other (by decide) rfl⟩
   | 16,_=>
    obtain rfl:=Option.some.inj ho;have e2:=hI.val 15 _ 19 rfl rfl (dep_at haf (by kernel_rfl));obtain ⟨g,Z,e1,up,km,W'⟩:=hW.put (i:=16) (f:=kSiz) rfl xi (by omega) (dep_at haf (by kernel_rfl)) (hI.val 0 _ 7 rfl rfl (dep_at haf (by kernel_rfl))) (v:=a.tmps.getD 19 undef) (.inr (.inr (.inl ⟨rfl,e2⟩)));replace up:(Instr.mapUpdate 139 (.map (some g)) (.string ⟨#[115,105,122,101]⟩) (a.tmps.getD 19 undef)).run Tryz.prog z=.ok () Z:=up;generalize hv:a.tmps.getD 19 undef=v at *;go_simp
    first
     | exact ⟨MkP.keep km,W'⟩
     | exact MkP.keep km
   | 17,_=>
    obtain rfl:=Option.some.inj ho;have e1:a.tmps.getD 3 undef=.pointer (some ⟨B,0,none⟩):=(hI.was (by kernel_rfl)).trans rfl;go_simp;exact ⟨_,rfl,rfl,RegK.refl _ _ _,(hW.other (by decide) rfl)⟩
   | 18,_=>
    obtain rfl:=Option.some.inj ho;have e1:a.tmps.getD 20 undef=.pointer (some ⟨B,0,none⟩):=hI.val 17 _ 20 rfl rfl (dep_at haf (by kernel_rfl));go_simp;exact ⟨_,rfl,rfl,RegK.refl _ _ _,(hW.other (by decide) rfl)⟩
   | 19,_=>
    obtain rfl:=Option.some.inj ho;have e1:a.tmps.getD 21 undef=.pointer (some ⟨B,0,none⟩):=hI.val 18 _ 21 rfl rfl (dep_at haf (by kernel_rfl));go_simp;exact ⟨_,rfl,rfl,RegK.refl _ _ _,(hW.other (by decide) rfl)⟩
   | 20,_=>
    obtain rfl:=Option.some.inj ho;have e1:a.tmps.getD 22 undef=.pointer (some ⟨B,5,none⟩):=hI.val 19 _ 22 rfl rfl (dep_at haf (by kernel_rfl));go_simp;refine (pname_any B 5 z).mono ?_;rintro e z' ⟨rfl,rfl⟩;have hb:Below z.heap.size z (z.alloc (.cells #[.pointer (some ⟨B,5,none⟩)] 177)):=(Below.refl _ _).alloc (Nat.le_refl _) _;exact ⟨_,rfl,nm_new B 5 z hW.b.size,MkP.keep (.of_below hb),(hW.cells _ _).other (by decide) rfl⟩
   | 21,_=>
    obtain rfl:=Option.some.inj ho;have e2:=hI.val 20 _ 23 rfl rfl (dep_at haf (by kernel_rfl));obtain ⟨g,Z,e1,up,km,W'⟩:=hW.put (i:=21) (f:=kSum) rfl xi (by omega) (dep_at haf (by kernel_rfl)) (hI.val 0 _ 7 rfl rfl (dep_at haf (by kernel_rfl))) (v:=a.tmps.getD 23 undef) (.inr (.inl ⟨rfl,e2⟩));replace up:(Instr.mapUpdate 139 (.map (some g)) (.string ⟨#[115,117,109]⟩) (a.tmps.getD 23 undef)).run Tryz.prog z=.ok () Z:=up;generalize hv:a.tmps.getD 23 undef=v at *;go_simp
    first
     | exact ⟨MkP.keep km,W'⟩
     | exact MkP.keep km
   | 22,_=>
    obtain rfl:=Option.some.inj ho;have e1:a.tmps.getD 0 undef=.pointer (some ⟨B,0,none⟩):=(hI.was (by kernel_rfl)).trans rfl;go_simp;exact ⟨_,rfl,rfl,RegK.refl _ _ _,(hW.other (by decide) rfl)⟩
   | 23,_=>
    obtain rfl:=Option.some.inj ho;have e1:a.tmps.getD 24 undef=.pointer (some ⟨B,0,none⟩):=hI.val 22 _ 24 rfl rfl (dep_at haf (by kernel_rfl));go_simp;exact ⟨_,rfl,rfl,RegK.refl _ _ _,(hW.other (by decide) rfl)⟩
   | 24,_=>
    obtain rfl:=Option.some.inj ho;have e2:a.tmps.getD 25 undef=.func (.func 106) #[.pointer (some ⟨B,0,none⟩)] #[]:=hI.val 23 _ 25 rfl rfl (dep_at haf (by kernel_rfl));obtain ⟨g,Z,e1,up,km,W'⟩:=hW.put (i:=24) (f:=kFie) rfl xi (by omega) (dep_at haf (by kernel_rfl)) (hI.val 0 _ 7 rfl rfl (dep_at haf (by kernel_rfl))) (v:=a.tmps.getD 25 undef) (.inr (.inr (.inr (.inr (.inr (.inr (.inr (.inr (.inr (.inr (⟨rfl,e2⟩)))))))))));replace up:(Instr.mapUpdate 139 (.map (some g)) (.string ⟨#[102,105,101,108,100]⟩) (a.tmps.getD 25 undef)).run Tryz.prog z=.ok () Z:=up;rw [e2] at up;go_simp
    first
     | exact ⟨MkP.keep km,W'⟩
     | exact MkP.keep km
   | 25,_=>
    obtain rfl:=Option.some.inj ho;have e1:a.tmps.getD 0 undef=.pointer (some ⟨B,0,none⟩):=(hI.was (by kernel_rfl)).trans rfl;go_simp;exact ⟨_,rfl,rfl,RegK.refl _ _ _,(hW.other (by decide) rfl)⟩
   | 26,_=>
    obtain rfl:=Option.some.inj ho;have e1:a.tmps.getD 26 undef=.pointer (some ⟨B,0,none⟩):=hI.val 25 _ 26 rfl rfl (dep_at haf (by kernel_rfl));go_simp;exact ⟨_,rfl,rfl,RegK.refl _ _ _,(hW.other (by decide) rfl)⟩
   | 27,_=>
    obtain rfl:=Option.some.inj ho;have e2:a.tmps.getD 27 undef=.func (.func 107) #[.pointer (some ⟨B,0,none⟩)] #[]:=hI.val 26 _ 27 rfl rfl (dep_at haf (by kernel_rfl));obtain ⟨g,Z,e1,up,km,W'⟩:=hW.put (i:=27) (f:=kReq) rfl xi (by omega) (dep_at haf (by kernel_rfl)) (hI.val 0 _ 7 rfl rfl (dep_at haf (by kernel_rfl))) (v:=a.tmps.getD 27 undef) (.inr (.inr (.inr (.inr (.inr (.inr (.inr (.inr (.inr (.inl ⟨rfl,e2⟩))))))))));replace up:(Instr.mapUpdate 139 (.map (some g)) (.string ⟨#[114,101,113,117,101,115,116]⟩) (a.tmps.getD 27 undef)).run Tryz.prog z=.ok () Z:=up;rw [e2] at up;go_simp
    first
     | exact ⟨MkP.keep km,W'⟩
     | exact MkP.keep km
   | 28,_=>
    obtain rfl:=Option.some.inj ho;have e1:a.tmps.getD 3 undef=.pointer (some ⟨B,0,none⟩):=(hI.was (by kernel_rfl)).trans rfl;go_simp;exact ⟨_,rfl,rfl,RegK.refl _ _ _,(hW.other (by decide) rfl)⟩
   | 29,_=>
    obtain rfl:=Option.some.inj ho;have e1:a.tmps.getD 28 undef=.pointer (some ⟨B,0,none⟩):=hI.val 28 _ 28 rfl rfl (dep_at haf (by kernel_rfl));go_simp;exact ⟨_,rfl,rfl,RegK.refl _ _ _,(hW.other (by decide) rfl)⟩
   | 30,_=>
    obtain rfl:=Option.some.inj ho;have e1:a.tmps.getD 29 undef=.pointer (some ⟨B,0,none⟩):=hI.val 29 _ 29 rfl rfl (dep_at haf (by kernel_rfl));go_simp;exact ⟨_,rfl,rfl,RegK.refl _ _ _,(hW.other (by decide) rfl)⟩
   | 31,_=>
    obtain rfl:=Option.some.inj ho;have e1:a.tmps.getD 30 undef=.pointer (some ⟨B,8,none⟩):=hI.val 30 _ 30 rfl rfl (dep_at haf (by kernel_rfl));go_simp;refine (pnumber_any B 8 1 1000 z).mono ?_;rintro e z' ⟨rfl,rfl⟩;exact ⟨_,rfl,nu_new B 8 1 1000 z hW.b.size,MkP.keep (.of_below (nu_below B 8 1 1000 z)),(((hW.cells _ _).cells _ _).cells _ _).other (by decide) rfl⟩
   | 32,_=>
    obtain rfl:=Option.some.inj ho;have e2:=hI.val 31 _ 31 rfl rfl (dep_at haf (by kernel_rfl));obtain ⟨g,Z,e1,up,km,W'⟩:=hW.put (i:=32) (f:=kPol) rfl xi (by omega) (dep_at haf (by kernel_rfl)) (hI.val 0 _ 7 rfl rfl (dep_at haf (by kernel_rfl))) (v:=a.tmps.getD 31 undef) (.inr (.inr (.inr (.inl ⟨rfl,e2⟩))));replace up:(Instr.mapUpdate 139 (.map (some g)) (.string ⟨#[112,111,108,108]⟩) (a.tmps.getD 31 undef)).run Tryz.prog z=.ok () Z:=up;generalize hv:a.tmps.getD 31 undef=v at *;go_simp
    first
     | exact ⟨MkP.keep km,W'⟩
     | exact MkP.keep km
   | 33,_=>
    obtain rfl:=Option.some.inj ho;have e1:a.tmps.getD 3 undef=.pointer (some ⟨B,0,none⟩):=(hI.was (by kernel_rfl)).trans rfl;go_simp;exact ⟨_,rfl,rfl,RegK.refl _ _ _,(hW.other (by decide) rfl)⟩
   | 34,_=>
    obtain rfl:=Option.some.inj ho;have e1:a.tmps.getD 32 undef=.pointer (some ⟨B,0,none⟩):=hI.val 33 _ 32 rfl rfl (dep_at haf (by kernel_rfl));go_simp;exact ⟨_,rfl,rfl,RegK.refl _ _ _,(hW.other (by decide) rfl)⟩
   | 35,_=>
    obtain rfl:=Option.some.inj ho;have e1:a.tmps.getD 33 undef=.pointer (some ⟨B,0,none⟩):=hI.val 34 _ 33 rfl rfl (dep_at haf (by kernel_rfl));go_simp;exact ⟨_,rfl,rfl,RegK.refl _ _ _,(hW.other (by decide) rfl)⟩
   | 36,_=>
    obtain rfl:=Option.some.inj ho;have e1:a.tmps.getD 34 undef=.pointer (some ⟨B,9,none⟩):=hI.val 35 _ 34 rfl rfl (dep_at haf (by kernel_rfl));go_simp;refine (pnumber_any B 9 1 1000 z).mono ?_;rintro e z' ⟨rfl,rfl⟩;exact ⟨_,rfl,nu_new B 9 1 1000 z hW.b.size,MkP.keep (.of_below (nu_below B 9 1 1000 z)),(((hW.cells _ _).cells _ _).cells _ _).other (by decide) rfl⟩
   | 37,_=>
    obtain rfl:=Option.some.inj ho;have e2:=hI.val 36 _ 35 rfl rfl (dep_at haf (by kernel_rfl));obtain ⟨g,Z,e1,up,km,W'⟩:=hW.put (i:=37) (f:=kTim) rfl xi (by omega) (dep_at haf (by kernel_rfl)) (hI.val 0 _ 7 rfl rfl (dep_at haf (by kernel_rfl))) (v:=a.tmps.getD 35 undef) (.inr (.inr (.inr (.inr (.inl ⟨rfl,e2⟩)))));replace up:(Instr.mapUpdate 139 (.map (some g)) (.string ⟨#[116,105,109,101,111,117,116]⟩) (a.tmps.getD 35 undef)).run Tryz.prog z=.ok () Z:=up;generalize hv:a.tmps.getD 35 undef=v at *;go_simp
    first
     | exact ⟨MkP.keep km,W'⟩
     | exact MkP.keep km
   | 38,_=>
    obtain rfl:=Option.some.inj ho;have e1:a.tmps.getD 3 undef=.pointer (some ⟨B,0,none⟩):=(hI.was (by kernel_rfl)).trans rfl;go_simp;exact ⟨_,rfl,rfl,RegK.refl _ _ _,(hW.other (by decide) rfl)⟩
   | 39,_=>
    obtain rfl:=Option.some.inj ho;have e1:a.tmps.getD 36 undef=.pointer (some ⟨B,0,none⟩):=hI.val 38 _ 36 rfl rfl (dep_at haf (by kernel_rfl));go_simp;exact ⟨_,rfl,rfl,RegK.refl _ _ _,(hW.other (by decide) rfl)⟩
   | 40,_=>
    obtain rfl:=Option.some.inj ho;have e1:a.tmps.getD 37 undef=.pointer (some ⟨B,0,none⟩):=hI.val 39 _ 37 rfl rfl (dep_at haf (by kernel_rfl));go_simp;exact ⟨_,rfl,rfl,RegK.refl _ _ _,(hW.other (by decide) rfl)⟩
   | 41,_=>
    obtain rfl:=Option.some.inj ho;have e1:a.tmps.getD 38 undef=.pointer (some ⟨B,10,none⟩):=hI.val 40 _ 38 rfl rfl (dep_at haf (by kernel_rfl));go_simp;refine (pnumber_any B 10 0 10 z).mono ?_;rintro e z' ⟨rfl,rfl⟩;exact ⟨_,rfl,nu_new B 10 0 10 z hW.b.size,MkP.keep (.of_below (nu_below B 10 0 10 z)),(((hW.cells _ _).cells _ _).cells _ _).other (by decide) rfl⟩
   | 42,_=>
    obtain rfl:=Option.some.inj ho;have e2:=hI.val 41 _ 39 rfl rfl (dep_at haf (by kernel_rfl));obtain ⟨g,Z,e1,up,km,W'⟩:=hW.put (i:=42) (f:=kRet) rfl xi (by omega) (dep_at haf (by kernel_rfl)) (hI.val 0 _ 7 rfl rfl (dep_at haf (by kernel_rfl))) (v:=a.tmps.getD 39 undef) (.inr (.inr (.inr (.inr (.inr (.inl ⟨rfl,e2⟩))))));replace up:(Instr.mapUpdate 139 (.map (some g)) (.string ⟨#[114,101,116,114,105,101,115]⟩) (a.tmps.getD 39 undef)).run Tryz.prog z=.ok () Z:=up;generalize hv:a.tmps.getD 39 undef=v at *;go_simp
    first
     | exact ⟨MkP.keep km,W'⟩
     | exact MkP.keep km
   | 43,_=>
    obtain rfl:=Option.some.inj ho;have e1:a.tmps.getD 3 undef=.pointer (some ⟨B,0,none⟩):=(hI.was (by kernel_rfl)).trans rfl;go_simp;exact ⟨_,rfl,rfl,RegK.refl _ _ _,(hW.other (by decide) rfl)⟩
   | 44,_=>
    obtain rfl:=Option.some.inj ho;have e1:a.tmps.getD 40 undef=.pointer (some ⟨B,0,none⟩):=hI.val 43 _ 40 rfl rfl (dep_at haf (by kernel_rfl));go_simp;exact ⟨_,rfl,rfl,RegK.refl _ _ _,(hW.other (by decide) rfl)⟩
   | 45,_=>
    obtain rfl:=Option.some.inj ho;have e1:a.tmps.getD 41 undef=.pointer (some ⟨B,0,none⟩):=hI.val 44 _ 41 rfl rfl (dep_at haf (by kernel_rfl));go_simp;exact ⟨_,rfl,rfl,RegK.refl _ _ _,(hW.other (by decide) rfl)⟩
   | 46,_=>
    obtain rfl:=Option.some.inj ho;have e1:a.tmps.getD 42 undef=.pointer (some ⟨B,11,none⟩):=hI.val 45 _ 42 rfl rfl (dep_at haf (by kernel_rfl));go_simp;refine (pnumber_any B 11 1 1000 z).mono ?_;rintro e z' ⟨rfl,rfl⟩;exact ⟨_,rfl,nu_new B 11 1 1000 z hW.b.size,MkP.keep (.of_below (nu_below B 11 1 1000 z)),(((hW.cells _ _).cells _ _).cells _ _).other (by decide) rfl⟩
   | 47,_=>
    obtain rfl:=Option.some.inj ho;have e2:=hI.val 46 _ 43 rfl rfl (dep_at haf (by kernel_rfl));obtain ⟨g,Z,e1,up,km,W'⟩:=hW.put (i:=47) (f:=kAge) rfl xi (by omega) (dep_at haf (by kernel_rfl)) (hI.val 0 _ 7 rfl rfl (dep_at haf (by kernel_rfl))) (v:=a.tmps.getD 43 undef) (.inr (.inr (.inr (.inr (.inr (.inr (.inl ⟨rfl,e2⟩)))))));replace up:(Instr.mapUpdate 139 (.map (some g)) (.string ⟨#[97,103,101]⟩) (a.tmps.getD 43 undef)).run Tryz.prog z=.ok () Z:=up;generalize hv:a.tmps.getD 43 undef=v at *;go_simp
    first
     | exact ⟨MkP.keep km,W'⟩
     | exact MkP.keep km
   | 48,_=>
    obtain rfl:=Option.some.inj ho;have e1:=hI.val 0 _ 7 rfl rfl (dep_at haf (by kernel_rfl));obtain ⟨g,e2,r⟩:=e1;go_simp;exact ⟨_,rfl,⟨g,rfl,r⟩,RegK.refl _ _ _,(hW.other (by decide) rfl)⟩
   | 49,_=>
    obtain rfl:=Option.some.inj ho;have e1:=hI.val 48 _ 44 rfl rfl (dep_at haf (by kernel_rfl));obtain ⟨g,e2,r⟩:=e1;go_simp;exact ⟨_,rfl,⟨g,rfl,r⟩,RegK.refl _ _ _,(hW.other (by decide) rfl)⟩
 · intro x a z hx hall hI hW;obtain ⟨G,ms,c,h1,h2⟩:=hW.mp (hall 0 (by decide));obtain ⟨g,e1,hg,es,c',he⟩:=hI.val 49 _ 2 rfl rfl (hall 49 (by decide));obtain rfl:=h2 g es c' hg he;have hA:Hid (∀ j f,insK j=some f→x.getD j false=true):=fun j f hj=>hall j (by unfold insK at hj; split at hj <;> first | decide | cases hj)
   have hb:Hid (Below w.heap.size w z):=hW.b;replace h1:Hid (MkMap w.heap.size B x z g ms c):=h1;have df:=hI.dfr;clear hI hW hall h2 he;obtain ⟨T,ds⟩:=a;simp only at df e1;subst df;go_wp2;refine bodyPost_ret (results_tmp rfl _ _ _) rfl ?_;exact ⟨g,ms,c,x,by rw [e1],h1.out,hA.out,hb.out⟩
 · refine ⟨(Below.refl _ _).drew,fun _=>⟨fun j f hj=>rep_getD _ _,fun g es c hg hc=>?_⟩,fun h=>(by rw [rep_getD] at h; cases h)⟩;have:=(Array.getElem?_eq_some_iff.1 hc).1;exact Nat.lt_irrefl _ (Nat.lt_of_lt_of_le this hg)
end Go.Proofs.YthabffjgdhfbmaaGreatDoor
