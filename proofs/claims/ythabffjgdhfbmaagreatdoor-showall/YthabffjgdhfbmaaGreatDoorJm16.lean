/-
  Texts that belong together, one behind the other: ShRead, DsFsK, ShDv, SnCa, UnIter, UnFind, SnM, BitRefAR, BitPBR. Conditions: as each says.
-/
import Derived.ChangeOld
import Derived.Laws.BitsAllLaws
import Derived.Laws.OwnMore
import Derived.Laws.Shifts
import Derived.LoopIn
import Derived.LoopN
import Derived.LoopNIn
import Derived.OpenShut
import Derived.OwnWalkIn
import Derived.ProofKit
import Derived.RangeFuncBound
import Derived.RangeFuncCalls
import Derived.RangeFuncLeaves
import Derived.RangeFuncNested
import Derived.Shelf.Abstract
import Derived.Shelf.RegionOpen
import Derived.ShutString
import Derived.TacticsInMore
import Derived.WalkKit
import Derived.Test.YthabffjgdhfbmaaGreatDoorJm1
import Derived.Test.YthabffjgdhfbmaaGreatDoorJm2
import Derived.Test.YthabffjgdhfbmaaGreatDoorJm3
import Derived.Test.YthabffjgdhfbmaaGreatDoorJm8
import Derived.Test.YthabffjgdhfbmaaGreatDoorJm9
import Derived.Test.YthabffjgdhfbmaaGreatDoorJm10
import Derived.Test.YthabffjgdhfbmaaGreatDoorJm13
import Derived.Test.YthabffjgdhfbmaaGreatDoorJm14
import Derived.Test.YthabffjgdhfbmaaGreatDoorJm15
set_option maxRecDepth 100000
set_option maxHeartbeats 32000000
set_option linter.unusedVariables false
namespace Go.Proofs.YthabffjgdhfbmaaGreatDoor
open Go.RowKit
abbrev wdsOf (rs:List Lr):List (List Wd):=rs.map fun r=>r.2
theorem wds_cons {rs:List Lr} {w:List Wd} {W:List (List Wd)} (h:wdsOf rs=w :: W):∃ n r,rs=(n,w) :: r∧wdsOf r=W:=by
 cases rs with
 | nil=>cases h
 | cons a r=>
  have h1:a.2=w:=(List.cons.inj h).1;exact ⟨a.1,r,by rw [← h1],(List.cons.inj h).2⟩
theorem go_at {d:Dv} {s:List Wd} {f:Wd} {a:List Wd} {W:List (List Wd)} {rs:List Lr} {u:Dv→Dv} (h:wdsOf rs=(f :: a) :: W) (h1:knownB f=true) (h2:¬ (f ≠ kFie∧f ∈ s)) (h3:¬ (f=kFie∧d.fs.length=8)) (hu:updM f a=some u) :
 ∃ r,wdsOf r=W∧goM d s rs=goM (u d) (s ++ [f]) r:=by
 obtain ⟨n,r,e,hr⟩:=wds_cons h;refine ⟨r,hr,?_⟩;rw [e];exact go_ok (r:=(n,f :: a)) (ok_step h1 h2 h3 hu)
theorem u_dev {x:Wd} (h:nameB x=true):updM kDev [x]=some fun d=>{ d with nm:=x }:=by
 unfold updM mName;rw [if_pos rfl];exact if_pos h
theorem u_sum {x:Wd} (h:nameB x=true):updM kSum [x]=some fun d=>{ d with sm:=x }:=by
 unfold updM mName;rw [if_neg (by decide),if_neg (by decide),if_neg (by decide),if_neg (by decide),if_pos rfl];exact if_pos h
theorem u_sta {n:Int} (h:0≤n∧n≤255):updM kSta [hexW [n.toNat]]=some fun d=>{ d with st:=n }:=by
 unfold updM mSta;rw [if_neg (by decide),if_pos rfl];show Option.map _ (octO (hexW [n.toNat]))=_;rw [octO_hexW (by omega)];show (some fun d:Dv=>{ d with st:=((n.toNat:Nat):Int) })=_;rw [show ((n.toNat:Nat):Int)=n by omega]
theorem u_esc {n m:Int} (h:0≤n∧n≤255) (k:0≤m∧m≤255):updM kEsc [hexW [n.toNat],hexW [m.toNat]]=some fun d=>{ d with es:=n,mx:=m }:=by
 unfold updM mEsc;rw [if_neg (by decide),if_neg (by decide),if_pos rfl];show (octO (hexW [n.toNat])).bind _=_;rw [octO_hexW (by omega)];show Option.map _ (octO (hexW [m.toNat]))=_;rw [octO_hexW (by omega)];show (some fun d:Dv=>{ d with es:=((n.toNat:Nat):Int),mx:=((m.toNat:Nat):Int) })=_;rw [show ((n.toNat:Nat):Int)=n by omega,show ((m.toNat:Nat):Int)=m by omega]
theorem u_siz {n:Int} (h:1≤n∧n≤32):updM kSiz [textL n]=some fun d=>{ d with sz:=n }:=by
 obtain ⟨k1,k2⟩:=num_textL (n:=n) ⟨by omega,by omega⟩ h.1 h.2;unfold updM mNum;rw [if_neg (by decide),if_neg (by decide),if_neg (by decide),if_pos rfl];show (if numB (textL n) 1 32=true then some _ else none)=_;rw [if_pos k1,k2]
theorem u_req {bs:List Nat} (h:AllBytes bs) (h1:1≤bs.length∧bs.length≤16):updM kReq [hexW bs]=some fun d=>{ d with rq:=bs }:=by
 unfold updM mReq;rw [if_neg (by decide),if_neg (by decide),if_neg (by decide),if_neg (by decide),if_neg (by decide),if_pos rfl];show (hexR (hexW bs)).bind _=_;rw [hexR_hexW h (by intro e; rw [e] at h1; simp at h1)];exact if_pos h1.2
theorem u_pol {n:Int} (h:1≤n∧n≤1000):updM kPol [textL n]=some fun d=>{ d with po:=n }:=by
 obtain ⟨k1,k2⟩:=num_textL (n:=n) ⟨by omega,by omega⟩ h.1 h.2;unfold updM mNum;rw [if_neg (by decide),if_neg (by decide),if_neg (by decide),if_neg (by decide),if_neg (by decide),if_neg (by decide),if_pos rfl];show (if numB (textL n) 1 1000=true then some _ else none)=_;rw [if_pos k1,k2]
theorem u_tim {n:Int} (h:1≤n∧n≤1000):updM kTim [textL n]=some fun d=>{ d with ti:=n }:=by
 obtain ⟨k1,k2⟩:=num_textL (n:=n) ⟨by omega,by omega⟩ h.1 h.2;unfold updM mNum;rw [if_neg (by decide),if_neg (by decide),if_neg (by decide),if_neg (by decide),if_neg (by decide),if_neg (by decide),if_neg (by decide),if_pos rfl];show (if numB (textL n) 1 1000=true then some _ else none)=_;rw [if_pos k1,k2]
theorem u_ret {n:Int} (h:0≤n∧n≤10):updM kRet [textL n]=some fun d=>{ d with re:=n }:=by
 obtain ⟨k1,k2⟩:=num_textL (n:=n) ⟨by omega,by omega⟩ h.1 h.2;unfold updM mNum;rw [if_neg (by decide),if_neg (by decide),if_neg (by decide),if_neg (by decide),if_neg (by decide),if_neg (by decide),if_neg (by decide),if_neg (by decide),if_pos rfl];show (if numB (textL n) 0 10=true then some _ else none)=_;rw [if_pos k1,k2]
theorem u_age {n:Int} (h:1≤n∧n≤1000):updM kAge [textL n]=some fun d=>{ d with ag:=n }:=by
 obtain ⟨k1,k2⟩:=num_textL (n:=n) ⟨by omega,by omega⟩ h.1 h.2;unfold updM mNum;rw [if_neg (by decide),if_neg (by decide),if_neg (by decide),if_neg (by decide),if_neg (by decide),if_neg (by decide),if_neg (by decide),if_neg (by decide),if_neg (by decide),if_pos rfl];show (if numB (textL n) 1 1000=true then some _ else none)=_;rw [if_pos k1,k2]
theorem fld_field {f:Fd} (h:FdOk f):fldO [f.nm,textL f.pl,f.kd,textL f.wd,ratW f.sn f.sd,ratW f.on f.od,f.un]=some f:=by
 obtain ⟨a1,a2⟩:=num_textL (n:=f.pl) ⟨by have:=h.pl; omega,by have:=h.pl; omega⟩ h.pl.1 h.pl.2;obtain ⟨b1,b2⟩:=num_textL (n:=f.wd) ⟨by have:=h.wd; omega,by have:=h.wd; omega⟩ h.wd.1 h.wd.2;obtain ⟨c1,c2,c3⟩:=fr_ratW h.s.1 h.s.2.1 h.s.2.2;obtain ⟨e1,e2,e3⟩:=fr_ratW h.o.1 h.o.2.1 h.o.2.2;unfold fldO;show (if _ then some _ else none)=_;rw [if_pos ⟨⟨h.nm,h.kd,h.un⟩,a1,b1,c1,e1⟩,a2,b2,c2,c3,e2,e3]
theorem u_fie {f:Fd} (h:FdOk f):updM kFie [f.nm,textL f.pl,f.kd,textL f.wd,ratW f.sn f.sd,ratW f.on f.od,f.un]=some fun d=>{ d with fs:=d.fs ++ [f] }:=by
 unfold updM;rw [if_neg (by decide),if_neg (by decide),if_neg (by decide),if_neg (by decide),if_neg (by decide),if_neg (by decide),if_neg (by decide),if_neg (by decide),if_neg (by decide),if_neg (by decide),if_pos rfl,fld_field h];rfl
abbrev fieS (fs:List Fd):List Wd:=fs.map fun _=>kFie
theorem go_fields (fs:List Fd):∀ {d:Dv} {s:List Wd} {W:List (List Wd)} {rs:List Lr} (h:wdsOf rs=fs.map fieldW ++ W) (hf:∀ f ∈ fs,FdOk f) (hn:d.fs.length + fs.length≤8),
 ∃ r,wdsOf r=W∧goM d s rs=goM { d with fs:=d.fs ++ fs } (s ++ fieS fs) r:=by
 induction fs with
 | nil=>
  intro d s W rs h hf hn;refine ⟨rs,h,?_⟩;rw [List.append_nil];show _=goM _ (s ++ []) rs;rw [List.append_nil]
 | cons f fs ih=>
  intro d s W rs h hf hn;rw [List.length_cons] at hn;obtain ⟨r1,e1,g1⟩:=go_at (d:=d) (s:=s) (f:=kFie) (a:=(fieldW f).tail) (W:=fs.map fieldW ++ W) h (by decide) (fun c=>c.1 rfl) (fun c=>by omega) (u_fie (hf f (by simp)));obtain ⟨r2,e2,g2⟩:=ih (d:={ d with fs:=d.fs ++ [f] }) (s:=s ++ [kFie]) e1 (fun x hx=>hf x (by simp [hx])) (by simp only [List.length_append,List.length_cons,List.length_nil]; omega);refine ⟨r2,e2,?_⟩;rw [g1,g2];show goM { d with fs:=(d.fs ++ [f]) ++ fs } ((s ++ [kFie]) ++ fieS fs) r2=_;rw [List.append_assoc,List.append_assoc];rfl
theorem fie_no {fs:List Fd} {k:Wd} (h:¬ k=kFie):k ∉ fieS fs:=by
 intro c;obtain ⟨_,_,e⟩:=List.mem_map.1 c;exact h e.symm
def seenW (d:Dv):List Wd:=([kDev,kSta,kEsc,kSiz,kSum] ++ fieS d.fs) ++ [kReq,kPol,kTim,kRet,kAge]
theorem lack_no (d:Dv):lackB (seenW d)=false:=by
 refine decide_eq_false fun ⟨k,hk,hn⟩=>hn ?_
 unfold seenW;simp only [tenK,List.mem_cons,List.not_mem_nil,or_false] at hk;rw [List.mem_append,List.mem_append];rcases hk with e | e | e | e | e | e | e | e | e | e <;> subst e
 · exact .inl (.inl (by simp))
 · exact .inl (.inl (by simp))
 · exact .inl (.inl (by simp))
 · exact .inl (.inl (by simp))
 · exact .inl (.inl (by simp))
 · exact .inr (by simp)
 · exact .inr (by simp)
 · exact .inr (by simp)
 · exact .inr (by simp)
 · exact .inr (by simp)
theorem not_in {k:Wd} {fs:List Fd} {t:List Wd} (h:k ∉ [kDev,kSta,kEsc,kSiz,kSum]) (h1:¬ k=kFie) (h2:k ∉ t):¬ (k ≠ kFie∧k ∈ ([kDev,kSta,kEsc,kSiz,kSum] ++ fieS fs) ++ t):=by
 rintro ⟨_,c⟩;rw [List.mem_append,List.mem_append] at c;rcases c with (c | c) | c
 · exact h c
 · exact fie_no h1 c
 · exact h2 c
theorem read_lines {d:Dv} (h:DvOk d) {rs:List Lr} (e:wdsOf rs=linesW d):readM rs=(d,0,0):=by
 unfold readM;obtain ⟨r1,e1,g1⟩:=go_at (d:=dv0) (s:=[]) (f:=kDev) (a:=[d.nm]) e (by decide) (by decide) (fun c=>by cases c.1) (u_dev h.nm);obtain ⟨r2,e2,g2⟩:=go_at (s:=[] ++ [kDev]) (f:=kSta) (a:=[hexW [d.st.toNat]]) e1 (by decide) (by decide) (fun c=>by cases c.1) (u_sta h.st);obtain ⟨r3,e3,g3⟩:=go_at (s:=([] ++ [kDev]) ++ [kSta]) (f:=kEsc) (a:=[hexW [d.es.toNat],hexW [d.mx.toNat]]) e2 (by decide) (by decide) (fun c=>by cases c.1) (u_esc h.es h.mx);obtain ⟨r4,e4,g4⟩:=go_at (s:=(([] ++ [kDev]) ++ [kSta]) ++ [kEsc]) (f:=kSiz) (a:=[textL d.sz]) e3 (by decide) (by decide) (fun c=>by cases c.1) (u_siz h.sz);obtain ⟨r5,e5,g5⟩:=go_at (s:=((([] ++ [kDev]) ++ [kSta]) ++ [kEsc]) ++ [kSiz]) (f:=kSum) (a:=[d.sm]) e4 (by decide) (by decide) (fun c=>by cases c.1) (u_sum h.sm);rw [g1,g2,g3,g4,g5];have e5':wdsOf r5=d.fs.map fieldW ++ tailW d:=e5;obtain ⟨r6,e6,g6⟩:=go_fields d.fs (d:=⟨d.nm,d.st,d.es,d.mx,d.sz,d.sm,[],[],0,0,0,0⟩) (s:=[kDev,kSta,kEsc,kSiz,kSum]) e5' h.fs (by have:=h.fn; simp only [List.length_nil]; omega);refine Eq.trans g6 ?_;obtain ⟨r7,e7,g7⟩:=go_at (d:=⟨d.nm,d.st,d.es,d.mx,d.sz,d.sm,d.fs,[],0,0,0,0⟩) (s:=[kDev,kSta,kEsc,kSiz,kSum] ++ fieS d.fs) (f:=kReq) (a:=[hexW d.rq]) e6 (by decide) (by have k:=not_in (k:=kReq) (fs:=d.fs) (t:=[]) (by decide) (by decide) (by decide); rwa [List.append_nil] at k) (fun c=>by cases c.1) (u_req h.rb h.rq);obtain ⟨r8,e8,g8⟩:=go_at (d:=⟨d.nm,d.st,d.es,d.mx,d.sz,d.sm,d.fs,d.rq,0,0,0,0⟩) (s:=([kDev,kSta,kEsc,kSiz,kSum] ++ fieS d.fs) ++ [kReq]) (f:=kPol) (a:=[textL d.po]) e7 (by decide) (not_in (by decide) (by decide) (by decide)) (fun c=>by cases c.1) (u_pol h.po);obtain ⟨r9,e9,g9⟩:=go_at (d:=⟨d.nm,d.st,d.es,d.mx,d.sz,d.sm,d.fs,d.rq,d.po,0,0,0⟩) (s:=(([kDev,kSta,kEsc,kSiz,kSum] ++ fieS d.fs) ++ [kReq]) ++ [kPol]) (f:=kTim) (a:=[textL d.ti]) e8 (by decide) (by rw [List.append_assoc]; exact not_in (by decide) (by decide) (by decide)) (fun c=>by cases c.1) (u_tim h.ti);obtain ⟨ra,ea,ga⟩:=go_at (d:=⟨d.nm,d.st,d.es,d.mx,d.sz,d.sm,d.fs,d.rq,d.po,d.ti,0,0⟩) (s:=((([kDev,kSta,kEsc,kSiz,kSum] ++ fieS d.fs) ++ [kReq]) ++ [kPol]) ++ [kTim]) (f:=kRet) (a:=[textL d.re]) e9 (by decide) (by rw [List.append_assoc,List.append_assoc]; exact not_in (by decide) (by decide) (by decide)) (fun c=>by cases c.1) (u_ret h.re);obtain ⟨rb,eb,gb⟩:=go_at (d:=⟨d.nm,d.st,d.es,d.mx,d.sz,d.sm,d.fs,d.rq,d.po,d.ti,d.re,0⟩) (s:=(((([kDev,kSta,kEsc,kSiz,kSum] ++ fieS d.fs) ++ [kReq]) ++ [kPol]) ++ [kTim]) ++ [kRet]) (f:=kAge) (a:=[textL d.ag]) ea (by decide) (by rw [List.append_assoc,List.append_assoc,List.append_assoc]; exact not_in (by decide) (by decide) (by decide)) (fun c=>by cases c.1) (u_age h.ag);refine Eq.trans g7 (Eq.trans g8 (Eq.trans g9 (Eq.trans ga (Eq.trans gb ?_))));have e0:rb=[]:=List.map_eq_nil_iff.1 eb;rw [e0];have es:((((([kDev,kSta,kEsc,kSiz,kSum] ++ fieS d.fs) ++ [kReq]) ++ [kPol]) ++ [kTim]) ++ [kRet]) ++ [kAge]=seenW d:=by
  unfold seenW;simp only [List.append_assoc];rfl
 rw [es,goM,lack_no d];rfl
theorem wds_nr (L:List (List Wd)):∀ l,wdsOf (lrOf (nrL l L))=L:=by
 induction L with
 | nil=>intro l; rfl
 | cons a r ih=>intro l; show a :: wdsOf (lrOf (nrL (l + 1) r))=_; rw [ih]
theorem go_fs (rs:List Lr):∀ {d:Dv} {s:List Wd},SeenOk d s→(goM d s rs).1.fs.length≤8:=by
 induction rs with
 | nil=>
  intro d s h;unfold goM
  split
  · exact Nat.zero_le _
  · exact h.le
 | cons r rs ih=>
  intro d s h;unfold goM
  cases hs:stepM d s r.2 with
  | error n=>exact Nat.zero_le _
  | ok d'=>exact ih (h.step hs)
theorem read_fs (rs:List Lr):(readM rs).1.fs.length≤8:=go_fs _ SeenOk.first
structure FdJ (f:Fd):Prop where
 nm:f.nm.length≤12
 kd:f.kd.length≤12
 un:f.un.length≤12
 pl:I64 f.pl
 wd:I64 f.wd
 sn:I64 f.sn
 sd:I64 f.sd
 on:I64 f.on
 od:I64 f.od
structure DvJ (d:Dv):Prop where
 nm:d.nm.length≤12
 sm:d.sm.length≤12
 sz:I64 d.sz
 fs:∀ f ∈ d.fs,FdJ f
 rq:AllBytes d.rq
 rl:d.rq.length≤16
theorem dv0_j:DvJ dv0:=⟨by decide,by decide,⟨by decide,by decide⟩,fun f h=>(by cases h),fun c h=>(by cases h),by decide⟩
theorem fldO_j {a:List Wd} {f:Fd} (h:fldO a=some f):FdJ f:=by
 unfold fldO at h
 split at h
 · split at h
   · rename_i hc
     have e:=Option.some.inj h;subst e;exact ⟨name_le12 hc.1.1,name_le12 hc.1.2.1,name_le12 hc.1.2.2,readV_bd _,readV_bd _,readV_bd _,readV_bd _,readV_bd _,readV_bd _⟩
   · cases h
 · cases h
theorem mName_i {a:List Wd} {k:Wd→Dv→Dv} {u:Dv→Dv} (h:mName a k=some u):∃ x,nameB x=true∧u=k x:=by
 unfold mName at h
 split at h
 · split at h
   · exact ⟨_,by assumption,(Option.some.inj h).symm⟩
   · cases h
 · cases h
theorem mNum_i {a:List Wd} {lo hi:Int} {k:Int→Dv→Dv} {u:Dv→Dv} (h:mNum a lo hi k=some u):∃ x:Int,I64 x∧u=k x:=by
 unfold mNum at h
 split at h
 · split at h
   · exact ⟨_,readV_bd _,(Option.some.inj h).symm⟩
   · cases h
 · cases h
theorem upd_j {f:Wd} {a:List Wd} {u:Dv→Dv} {d:Dv} (h:updM f a=some u) (hd:DvJ d):DvJ (u d):=by
 have num:∀ {lo hi:Int} {k:Int→Dv→Dv},mNum a lo hi k=some u→(∀ x:Int,I64 x→DvJ (k x d))→DvJ (u d):=fun h1 h2=>by
  obtain ⟨x,hx,rfl⟩:=mNum_i h1;exact h2 x hx
 unfold updM at h
 by_cases c0:f=kDev
 · rw [if_pos c0] at h;obtain ⟨x,hx,rfl⟩:=mName_i h;exact ⟨name_le12 hx,hd.sm,hd.sz,hd.fs,hd.rq,hd.rl⟩
 rw [if_neg c0] at h
 by_cases c1:f=kSta
 · rw [if_pos c1] at h;unfold mSta at h
   split at h
   · obtain ⟨b,_,rfl⟩:=Option.map_eq_some_iff.1 h;exact ⟨hd.nm,hd.sm,hd.sz,hd.fs,hd.rq,hd.rl⟩
   · cases h
 rw [if_neg c1] at h
 by_cases c2:f=kEsc
 · rw [if_pos c2] at h;unfold mEsc at h
   split at h
   · obtain ⟨b,_,h⟩:=Option.bind_eq_some_iff.1 h;obtain ⟨c,_,rfl⟩:=Option.map_eq_some_iff.1 h;exact ⟨hd.nm,hd.sm,hd.sz,hd.fs,hd.rq,hd.rl⟩
   · cases h
 rw [if_neg c2] at h
 by_cases c3:f=kSiz
 · rw [if_pos c3] at h;exact num h fun x hx=>⟨hd.nm,hd.sm,hx,hd.fs,hd.rq,hd.rl⟩
 rw [if_neg c3] at h
 by_cases c4:f=kSum
 · rw [if_pos c4] at h;obtain ⟨x,hx,rfl⟩:=mName_i h;exact ⟨hd.nm,name_le12 hx,hd.sz,hd.fs,hd.rq,hd.rl⟩
 rw [if_neg c4] at h
 by_cases c5:f=kReq
 · rw [if_pos c5] at h;unfold mReq at h
   split at h
   · obtain ⟨b,hb,h⟩:=Option.bind_eq_some_iff.1 h
     split at h
     · obtain rfl:=Option.some.inj h;unfold hexR at hb
       split at hb
       · cases hb
       · exact ⟨hd.nm,hd.sm,hd.sz,hd.fs,(hex_bytes _ hb).1,by assumption⟩
     · cases h
   · cases h
 rw [if_neg c5] at h
 by_cases c6:f=kPol
 · rw [if_pos c6] at h;exact num h fun x hx=>⟨hd.nm,hd.sm,hd.sz,hd.fs,hd.rq,hd.rl⟩
 rw [if_neg c6] at h
 by_cases c7:f=kTim
 · rw [if_pos c7] at h;exact num h fun x hx=>⟨hd.nm,hd.sm,hd.sz,hd.fs,hd.rq,hd.rl⟩
 rw [if_neg c7] at h
 by_cases c8:f=kRet
 · rw [if_pos c8] at h;exact num h fun x hx=>⟨hd.nm,hd.sm,hd.sz,hd.fs,hd.rq,hd.rl⟩
 rw [if_neg c8] at h
 by_cases c9:f=kAge
 · rw [if_pos c9] at h;exact num h fun x hx=>⟨hd.nm,hd.sm,hd.sz,hd.fs,hd.rq,hd.rl⟩
 rw [if_neg c9] at h
 by_cases c10:f=kFie
 · rw [if_pos c10] at h;obtain ⟨x,hx,rfl⟩:=Option.map_eq_some_iff.1 h;refine ⟨hd.nm,hd.sm,hd.sz,fun f hf=>?_,hd.rq,hd.rl⟩;rcases List.mem_append.1 hf with hf | hf
   · exact hd.fs f hf
   · rw [List.mem_singleton.1 hf]; exact fldO_j hx
 · rw [if_neg c10] at h; cases h
theorem go_j (rs:List Lr):∀ {d:Dv} {s:List Wd},DvJ d→DvJ (goM d s rs).1:=by
 induction rs with
 | nil=>
  intro d s h;unfold goM
  split
  · exact dv0_j
  · exact h
 | cons r rs ih=>
  intro d s h;unfold goM
  cases hs:stepM d s r.2 with
  | error e=>exact dv0_j
  | ok d'=>
   obtain ⟨f,a,u,_,_,_,_,hu,rfl⟩:=step_ok hs;exact ih (upd_j hu h)
theorem read_j (rs:List Lr):DvJ (readM rs).1:=go_j rs dv0_j
theorem ck_nat (d:Dv):(((ckE d).toNat:Nat):Int)=ckE d:=by
 have h:0≤ckE d:=by
  rw [ckE_form];have k:=flds_cases d.sz d.fs []
  split
  · split
    · split
      · split
        · omega
        · decide
      · decide
    · decide
  · decide
 omega
def cN (d:Dv):Nat:=(ckE d).toNat
theorem cN_0 {d:Dv}:cN d=0 ↔ ckE d=0:=by
 have k:=ck_nat d;unfold cN;omega
def shT (d:Dv):List UInt8:=if ckE d=0 then textD d else []
def chkM (T:Dv × Int × Nat):Dv × Int × Nat:=if T.2.2=0 then (if cN T.1=0 then (T.1,0,0) else (dv0,T.2.1,cN T.1)) else (dv0,T.2.1,T.2.2)
theorem chk_sound {d:Dv} (h:ckE d=0):chkM (d,0,0)=(d,0,0):=by
 unfold chkM;rw [if_pos rfl,if_pos (cN_0.2 h)]
def Ques (w:World) (v:Value) (n:Int):Prop:=
 (∃ p q,v=.func (.func 78) #[] #[.pointer (some ⟨p,0,none⟩),.pointer (some ⟨q,0,none⟩)]∧∀ x,Below w.heap.size w x→Calls Tryz.prog 78 #[.pointer (some ⟨p,0,none⟩),.pointer (some ⟨q,0,none⟩)] x (QA x n))
 ∨ (∃ p,v=.func (.func 53) #[] #[.pointer (some ⟨p,0,none⟩)]∧∀ x,Below w.heap.size w x→Calls Tryz.prog 53 #[.pointer (some ⟨p,0,none⟩)] x (QA x n))
 ∨ (∃ p q,v=.func (.func 82) #[] #[.pointer (some ⟨p,0,none⟩),.pointer (some ⟨q,0,none⟩)]∧∀ x,Below w.heap.size w x→Calls Tryz.prog 82 #[.pointer (some ⟨p,0,none⟩),.pointer (some ⟨q,0,none⟩)] x (QA x n))
def QsOk (w:World):List Value→List Int→Prop
 | [],[]=>True
 | v :: vs,n :: ns=>Ques w v n∧(n=0→QsOk w vs ns)
 | _,_=>False
def AskI (w:World) (vs:List Value) (T:Int):Prop:=∃ ns,QsOk w vs ns∧firstE ns=T
theorem AskI.fin {w:World} {T:Int} (h:AskI w [] T):0=T:=by
 obtain ⟨ns,h1,h2⟩:=h
 match ns,h1 with
 | [],_=>exact h2
theorem AskI.cons {w:World} {v:Value} {vs:List Value} {T:Int} (h:AskI w (v :: vs) T):∃ n,Ques w v n∧(n=0→AskI w vs T)∧(¬ n=0→n=T):=by
 obtain ⟨ns,h1,h2⟩:=h
 match ns,h1 with
 | n :: ns,⟨h1,h3⟩=>
  refine ⟨n,h1,fun h0=>⟨ns,h3 h0,?_⟩,fun h0=>?_⟩
  · rw [h0,first_0] at h2; exact h2
  · rw [first_no h0] at h2; exact h2
def QsIn (x:World) (g o:Nat) (vs:List Value):Prop:=∀ j (h:j < vs.length),x.cell? ⟨g,o + j,none⟩=some vs[j]
theorem QsIn.new (w:World) (vs:List Value) (T:TypeId):QsIn (w.alloc (.cells vs.toArray T)) w.heap.size 0 vs:=fun j h=>by
 rw [Nat.zero_add];exact cells_new w vs T j _ (List.getElem?_eq_getElem h)
theorem ret_int {x y:Int} (h:x=y):Ending.returned (.int .i64 x)=.returned (.int .i64 y):=by rw [h]
theorem ask_any (vs:List Value) (T:Int) (g o cap:Nat) (w:World) (hc:QsIn w g o vs) (hg:g < w.heap.size) (ha:AskI w vs T) (hl:(vs.length:Int)≤100) :
 Calls Tryz.prog 43 #[.slice (some ⟨g,o,none⟩) vs.length cap] w (QA w T):=by
 have I0:Hid (AskI w (vs.drop 0) T):=ha;have B0:Hid (Below w.heap.size w w):=Below.refl _ _;obtain ⟨len,hlen⟩:∃ len,vs.length=len:=⟨_,rfl⟩;rw [hlen] at hl ⊢;replace hlen:Hid (vs.length=len):=hlen;replace hc:Hid (QsIn w g o vs):=hc;replace hg:Hid (g < w.heap.size):=hg;clear ha
 go_enter Tryz.func43,Tryz.ntmps43
 go_wp2
 go_loopw [8] (fun vi wr=>∃ k:Nat,(k:Int)≤(len:Int)∧vi=.int .i64 (k:Int)∧Hid (AskI w (vs.drop k) T)∧Hid (Below w.heap.size w wr)) (fun vi _=>len - (intOf vi).toNat)
 case atStart=>exact ⟨0,by omega,rfl,I0,B0⟩
 case round=>
  obtain ⟨k,hk,rfl,lf,B⟩:=hrel;clear I0 B0
  by_cases hlt:(k:Int) < (len:Int)
  · have hkl:k < vs.length:=by have:=hlen.out; omega
    have c:=(B.out.cell (p:=⟨g,o + k,none⟩) hg.out).trans (hc.out k hkl);have lq:=lf.out;rw [List.drop_eq_getElem_cons hkl] at lq;generalize vs[k]=v at *;obtain ⟨n,hq,q0,q1⟩:=lq.cons;replace q0:Hid (n=0→AskI w (vs.drop (k + 1)) T):=q0;replace q1:Hid (¬ n=0→n=T):=q1;clear lq lf hkl hc hg
    by_cases h0:n=0
    · subst h0;have nx:Hid (AskI w (vs.drop (k + 1)) T):=q0.out rfl;clear q0 q1;rcases hq with ⟨p,q,rfl,hq⟩ | ⟨p,rfl,hq⟩ | ⟨p,q,rfl,hq⟩
      · have hr:Hid (Calls Tryz.prog 78 #[.pointer (some ⟨p,0,none⟩),.pointer (some ⟨q,0,none⟩)] wr (QA wr 0)):=hq wr B.out;clear hq
        go_wp2_with fail
        refine hr.out.mono ?_;clear hr c;rintro e y ⟨rfl,hb⟩;have B1:Hid (Below w.heap.size w y):=B.out.trans (hb.mono B.out.size);clear hb B;go_wp2;exact ⟨⟨k + 1,by omega,by simp,nx,B1⟩,by simp [intOf]; omega⟩
      · have hr:Hid (Calls Tryz.prog 53 #[.pointer (some ⟨p,0,none⟩)] wr (QA wr 0)):=hq wr B.out;clear hq
        go_wp2_with fail
        refine hr.out.mono ?_;clear hr c;rintro e y ⟨rfl,hb⟩;have B1:Hid (Below w.heap.size w y):=B.out.trans (hb.mono B.out.size);clear hb B;go_wp2;exact ⟨⟨k + 1,by omega,by simp,nx,B1⟩,by simp [intOf]; omega⟩
      · have hr:Hid (Calls Tryz.prog 82 #[.pointer (some ⟨p,0,none⟩),.pointer (some ⟨q,0,none⟩)] wr (QA wr 0)):=hq wr B.out;clear hq
        go_wp2_with fail
        refine hr.out.mono ?_;clear hr c;rintro e y ⟨rfl,hb⟩;have B1:Hid (Below w.heap.size w y):=B.out.trans (hb.mono B.out.size);clear hb B;go_wp2;exact ⟨⟨k + 1,by omega,by simp,nx,B1⟩,by simp [intOf]; omega⟩
    · have fin:Hid (n=T):=q1.out h0;have hne:(n != 0)=true:=by simpa using h0
      clear q0 q1;rcases hq with ⟨p,q,rfl,hq⟩ | ⟨p,rfl,hq⟩ | ⟨p,q,rfl,hq⟩
      · have hr:Hid (Calls Tryz.prog 78 #[.pointer (some ⟨p,0,none⟩),.pointer (some ⟨q,0,none⟩)] wr (QA wr n)):=hq wr B.out;clear hq
        go_wp2_with fail
        refine hr.out.mono ?_;clear hr c;rintro e y ⟨rfl,hb⟩;have B1:Hid (Below w.heap.size w y):=B.out.trans (hb.mono B.out.size);clear hb B;go_wp2;go_ret;exact ⟨ret_int fin.out,B1.out⟩
      · have hr:Hid (Calls Tryz.prog 53 #[.pointer (some ⟨p,0,none⟩)] wr (QA wr n)):=hq wr B.out;clear hq
        go_wp2_with fail
        refine hr.out.mono ?_;clear hr c;rintro e y ⟨rfl,hb⟩;have B1:Hid (Below w.heap.size w y):=B.out.trans (hb.mono B.out.size);clear hb B;go_wp2;go_ret;exact ⟨ret_int fin.out,B1.out⟩
      · have hr:Hid (Calls Tryz.prog 82 #[.pointer (some ⟨p,0,none⟩),.pointer (some ⟨q,0,none⟩)] wr (QA wr n)):=hq wr B.out;clear hq
        go_wp2_with fail
        refine hr.out.mono ?_;clear hr c;rintro e y ⟨rfl,hb⟩;have B1:Hid (Below w.heap.size w y):=B.out.trans (hb.mono B.out.size);clear hb B;go_wp2;go_ret;exact ⟨ret_int fin.out,B1.out⟩
  · obtain rfl:k=len:=by omega
    have fin:Hid (0=T):=by
     have lq:=lf.out;rw [List.drop_of_length_le (by have:=hlen.out; omega)] at lq;exact lq.fin
    clear lf hc hg;go_wp2;go_ret;exact ⟨ret_int fin.out,B.out⟩
end Go.Proofs.YthabffjgdhfbmaaGreatDoor
namespace Go.Proofs.YthabffjgdhfbmaaGreatDoor
open Go.RowKit Go.Shelf
attribute [local go_sem] Oper.semAt_some
theorem upon_eq {F:Fence} {n:Nat} {P:Program} {o:Oper} {a:Act} {K:Act→World→Prop} {Q:Exit→Act→World→Prop} {R R':Result Next} (h:R=R') (k:Oper.uponIn F n P o a K Q R'):Oper.uponIn F n P o a K Q R:=h ▸ k
theorem units_in (F:Fence) (n:Nat) (hf:F.fn 149) (hro:F.round=none) (hn:1≤n) (l:Nat) (J Jx:List U→World→Prop) (W:World)
 (hJ:AbidesFrom W.heap.size J)
 (hY:∀ pre x W1,J pre W1→pre.length < 25→YieldAt F (n - 1) Tryz.prog l #[encU x] W1 fun e W'=>
  (e=.returned (.bool true)∧J (pre ++ [x]) W'∧True) ∨ (e=.returned (.bool false)∧Jx (pre ++ [x]) W'))
 (h0:J [] W) :
 CallsIn F n Tryz.prog 149 #[.func (.yield l) #[] #[]] W fun e W'=>(∃ v,e=.returned v)∧((∃ xs,xs=tab∧J xs W') ∨ (∃ pre,pre <+: tab∧Jx pre W')):=by
 refine callsIn_of_wp Tryz.func149 rfl hf ?_ hro;simp only [Tryz.ntmps149,List.size_toArray,List.length_cons,List.length_nil,Nat.reduceAdd,Nat.reduceSub,Array.replicate_succ,Array.replicate_zero,List.push_toArray,List.append_toArray,List.nil_append,List.cons_append]
 gi_wp2
 first
  | (refine upon_eq (R' := .ok (.value (.agg bigA)) (W.alloc (.cells #[.int .i64 0, .int .i64 1] 67))) (by kernel_rfl) ?_
     gi_wp2)
  | (generalize hX : Array.setIfInBounds _ _ _ = X
     have hX2:X=bigA:=hX.symm.trans (by kernel_rfl);clear hX;subst hX2)
 gi_loopw [107] (fun p wr=>∃ k:Nat,k≤tab.length∧p=.int .i64 (k:Int)∧J (tab.take k) wr) (fun p _=>tab.length - (intOf p).toNat)
 case atStart=>exact ⟨0,Nat.zero_le _,rfl,hJ _ _ _ none h0 (World.grownBy_alloc W _ none) (fun r e=>by cases e)⟩
 case round=>
  obtain ⟨k,hk,rfl,hJs⟩:=hrel
  by_cases hlt:k < tab.length
  · have hk25:(k:Int) < 25:=by rw [tab_len] at hlt; omega
    have hix:∀ w:World,(Instr.index 239 (.agg bigA) (.int .i64 (k:Int))).run Tryz.prog w=.ok (encU tab[k]) w:=fun w=>index_big w k hlt
    have htake:tab.take (k + 1)=tab.take k ++ [tab[k]]:=by rw [List.take_append_getElem]
    generalize tab[k]=x at hix htake;obtain ⟨fn,tmps,assign,body,hy,hR⟩:=hY _ x (wr.alloc (.cells #[.string x.nm,.int .i64 x.m,.int .i64 x.l,.int .i64 x.t,.int .i64 x.k,.int .i64 x.fn,.int .i64 x.fd,.int .i64 x.on,.int .i64 x.od,.int .i64 x.code] 205)) (hJ _ _ _ none hJs (World.grownBy_alloc wr _ none) (fun r e=>by cases e)) (by rw [List.length_take]; rw [tab_len] at *; omega)
    gi_wp2
    refine hR.mono ?_;rintro e W3 (⟨rfl,hJ3,_⟩ | ⟨rfl,hJx3⟩)
    · gi_wp2
      go_roundw
      case rel=>exact ⟨k + 1,by omega,by simp,by rw [htake]; exact hJ3⟩
      case measure=>simp [intOf]; omega
    · gi_wp2
      refine bodyPost_ret (results_none rfl _ _ _) rfl ?_;exact ⟨⟨_,rfl⟩,.inr ⟨_,by rw [← htake]; exact List.take_prefix _ _,hJx3⟩⟩
  · obtain rfl:k=tab.length:=by omega
    rw [List.take_length] at hJs;have hk25:¬ ((tab.length:Nat):Int) < 25:=by rw [tab_len]; decide
    gi_wp2
    go_end0
    exact ⟨⟨_,rfl⟩,.inl hJs⟩
theorem units_stops (F:Fence) (n:Nat) (hf:F.fn 149) (hro:F.round=none) (hn:1≤n) (w:World) :
 SeqStopsK F n Tryz.prog 149 #[] (fun x:U=>#[encU x]) (fun _ _=>True) (fun xs=>xs=tab) (fun pre=>pre <+: tab) 25 w:=fun l J Jx W _ hJ _ hY h0=>
 units_in F n hf hro hn l J Jx W hJ hY h0
end Go.Proofs.YthabffjgdhfbmaaGreatDoor
namespace Go.Proofs.YthabffjgdhfbmaaGreatDoor
open Go.RowKit Go.Shelf
attribute [local go_sem] Oper.semAt_some
def HasU (W:World) (b:Nat) (t:TypeId) (u:U):Prop:=W.heap[b]?=some (.cells #[.string u.nm,.int .i64 u.m,.int .i64 u.l,.int .i64 u.t,.int .i64 u.k,.int .i64 u.fn,.int .i64 u.fd,.int .i64 u.on,.int .i64 u.od,.int .i64 u.code] t (0,0))
theorem hasU_new (W:World) (t:TypeId) (u:U):HasU (W.alloc (.cells #[.string u.nm,.int .i64 u.m,.int .i64 u.l,.int .i64 u.t,.int .i64 u.k,.int .i64 u.fn,.int .i64 u.fd,.int .i64 u.on,.int .i64 u.od,.int .i64 u.code] t)) W.heap.size t u:=World.alloc_heap_new W _
theorem HasU.lt {W:World} {b:Nat} {t:TypeId} {u:U} (h:HasU W b t u):b < W.heap.size:=(Array.getElem?_eq_some_iff.1 h).1
theorem HasU.kept {W W':World} {row:Option Nat} {b:Nat} {t:TypeId} {u:U} (h:HasU W b t u) (hg:W.grownBy W' row) (hne:some b ≠ row):HasU W' b t u:=(hg.block b h.lt hne).trans h
theorem HasU.alloc {W:World} {b:Nat} {t:TypeId} {u:U} (h:HasU W b t u) (o:Obj):HasU (W.alloc o) b t u:=h.kept (World.grownBy_alloc W o none) (by simp)
theorem hasU_own {β:Type} (b:Nat) (t:TypeId) (f:β→U):Own (fun s W=>HasU W b t (f s)):=fun s X Y row hs hg hrow=>
 HasU.kept hs hg (fun e=>by obtain ⟨o,ho,hc⟩:=hrow b e.symm; rw [show X.heap[b]?=_ from hs] at ho; cases ho; simp [Obj.isCells] at hc)
theorem HasU.cells {W:World} {b:Nat} {t:TypeId} {u:U} (h:HasU W b t u):W.cell? ⟨b,0,none⟩=some (.string u.nm)∧W.cell? ⟨b,1,none⟩=some (.int .i64 u.m)∧W.cell? ⟨b,2,none⟩=some (.int .i64 u.l)∧W.cell? ⟨b,3,none⟩=some (.int .i64 u.t)∧W.cell? ⟨b,4,none⟩=some (.int .i64 u.k)∧W.cell? ⟨b,5,none⟩=some (.int .i64 u.fn)∧W.cell? ⟨b,6,none⟩=some (.int .i64 u.fd)∧W.cell? ⟨b,7,none⟩=some (.int .i64 u.on)∧W.cell? ⟨b,8,none⟩=some (.int .i64 u.od)∧W.cell? ⟨b,9,none⟩=some (.int .i64 u.code):=by
 simp [World.cell?,show W.heap[b]?=_ from h]
theorem HasU.frozen {W:World} {b:Nat} {t:TypeId} {u:U} (h:HasU W b t u):W.frozen? ⟨b,0,none⟩=false∧W.frozen? ⟨b,1,none⟩=false∧W.frozen? ⟨b,2,none⟩=false∧W.frozen? ⟨b,3,none⟩=false∧W.frozen? ⟨b,4,none⟩=false∧W.frozen? ⟨b,5,none⟩=false∧W.frozen? ⟨b,6,none⟩=false∧W.frozen? ⟨b,7,none⟩=false∧W.frozen? ⟨b,8,none⟩=false∧W.frozen? ⟨b,9,none⟩=false:=by
 simp [World.frozen?,show W.heap[b]?=_ from h]
def putU (W:World) (b:Nat) (u:U):World:=(((((((((W.setCell ⟨b,0,none⟩ (.string u.nm)).setCell ⟨b,1,none⟩ (.int .i64 u.m)).setCell ⟨b,2,none⟩ (.int .i64 u.l)).setCell ⟨b,3,none⟩ (.int .i64 u.t)).setCell ⟨b,4,none⟩ (.int .i64 u.k)).setCell ⟨b,5,none⟩ (.int .i64 u.fn)).setCell ⟨b,6,none⟩ (.int .i64 u.fd)).setCell ⟨b,7,none⟩ (.int .i64 u.on)).setCell ⟨b,8,none⟩ (.int .i64 u.od)).setCell ⟨b,9,none⟩ (.int .i64 u.code)
theorem row_set {W:World} {b i:Nat} {t:TypeId} {cs:Array Value} (v:Value) (h:W.heap[b]?=some (.cells cs t (0,0))):(W.setCell ⟨b,i,none⟩ v).heap[b]?=some (.cells (cs.setIfInBounds i v) t (0,0)):=by
 rw [setCell_eq_setRow W b i cs t (0,0) v h]; exact setRow_heap W b cs _ t (0,0) h
theorem HasU.put {W:World} {b:Nat} {t:TypeId} {v:U} (h:HasU W b t v) (u:U):HasU (putU W b u) b t u:=by
 unfold HasU at h;have h0:=row_set (i:=0) (.string u.nm) h;simp only [List.setIfInBounds_toArray,List.set_cons_zero] at h0;have h1:=row_set (i:=1) (.int .i64 u.m) h0;simp only [List.setIfInBounds_toArray,List.set_cons_zero,List.set_cons_succ] at h1;have h2:=row_set (i:=2) (.int .i64 u.l) h1;simp only [List.setIfInBounds_toArray,List.set_cons_zero,List.set_cons_succ] at h2;have h3:=row_set (i:=3) (.int .i64 u.t) h2;simp only [List.setIfInBounds_toArray,List.set_cons_zero,List.set_cons_succ] at h3;have h4:=row_set (i:=4) (.int .i64 u.k) h3;simp only [List.setIfInBounds_toArray,List.set_cons_zero,List.set_cons_succ] at h4;have h5:=row_set (i:=5) (.int .i64 u.fn) h4;simp only [List.setIfInBounds_toArray,List.set_cons_zero,List.set_cons_succ] at h5;have h6:=row_set (i:=6) (.int .i64 u.fd) h5;simp only [List.setIfInBounds_toArray,List.set_cons_zero,List.set_cons_succ] at h6;have h7:=row_set (i:=7) (.int .i64 u.on) h6;simp only [List.setIfInBounds_toArray,List.set_cons_zero,List.set_cons_succ] at h7;have h8:=row_set (i:=8) (.int .i64 u.od) h7;simp only [List.setIfInBounds_toArray,List.set_cons_zero,List.set_cons_succ] at h8;have h9:=row_set (i:=9) (.int .i64 u.code) h8;simp only [List.setIfInBounds_toArray,List.set_cons_zero,List.set_cons_succ] at h9;exact h9
theorem blk_past (w:World) (a:Addr) (u:Value) (k:Nat) (h:k ≠ a.block):(w.setCell a u).heap[k]?=w.heap[k]?:=by
 simp [World.setCell,Array.getElem?_modify,Ne.symm h]
theorem putU_past (W:World) (b:Nat) (u:U) (k:Nat) (h:k ≠ b):(putU W b u).heap[k]?=W.heap[k]?:=by
 unfold putU;rw [blk_past _ _ _ k h,blk_past _ _ _ k h,blk_past _ _ _ k h,blk_past _ _ _ k h,blk_past _ _ _ k h,blk_past _ _ _ k h,blk_past _ _ _ k h,blk_past _ _ _ k h,blk_past _ _ _ k h,blk_past _ _ _ k h]
theorem putU_keeps (W:World) (b:Nat) (u:U):KeepsOthers W (putU W b u):=
 ((((((((((KeepsOthers.setCell W _ _)).trans (KeepsOthers.setCell _ _ _)).trans (KeepsOthers.setCell _ _ _)).trans (KeepsOthers.setCell _ _ _)).trans (KeepsOthers.setCell _ _ _)).trans (KeepsOthers.setCell _ _ _)).trans (KeepsOthers.setCell _ _ _)).trans (KeepsOthers.setCell _ _ _)).trans (KeepsOthers.setCell _ _ _)).trans (KeepsOthers.setCell _ _ _)
theorem putU_below {w W:World} {B b:Nat} (u:U) (h:Below B w W) (hb:B≤b):Below B w (putU W b u):=
 ((((((((((h.setCell (p:=⟨b,0,none⟩) hb _)).setCell (p:=⟨b,1,none⟩) hb _).setCell (p:=⟨b,2,none⟩) hb _).setCell (p:=⟨b,3,none⟩) hb _).setCell (p:=⟨b,4,none⟩) hb _).setCell (p:=⟨b,5,none⟩) hb _).setCell (p:=⟨b,6,none⟩) hb _).setCell (p:=⟨b,7,none⟩) hb _).setCell (p:=⟨b,8,none⟩) hb _).setCell (p:=⟨b,9,none⟩) hb _
theorem boxed_put {W:World} {b c:Nat} {t:TypeId} {v:Value} (u:U) (h:Boxed W c t v) (hne:c ≠ b):Boxed (putU W b u) c t v:=(putU_past W b u c hne).trans h
theorem find_in (F:Fence) (n:Nat) (h9:F.fn 138) (h19:F.fn 149) (hro:F.round=none) (hn:3≤n) (s:ByteArray) (w:World) :
 CallsIn F n Tryz.prog 138 #[.string s] w fun e w'=>e=.returned (.tuple #[encU (atU s),.bool (isU s)])∧Below w.heap.size w w':=by
 have h1:1≤n:=by omega
 refine callsIn_of_wp_marks Tryz.func138 rfl h9 ?_ hro;simp only [Tryz.ntmps138,List.size_toArray,List.length_cons,List.length_nil,Nat.reduceAdd,Nat.reduceSub,Array.replicate_succ,Array.replicate_zero,List.push_toArray,List.append_toArray,List.nil_append,List.cons_append]
 gi_wp2
 have bS:=((Boxed.new w 9 (.string s)).alloc (.cells #[.string ⟨#[]⟩,.int .i64 0,.int .i64 0,.int .i64 0,.int .i64 0,.int .i64 0,.int .i64 0,.int .i64 0,.int .i64 0,.int .i64 0] 205)).alloc (.cells #[.bool false] 4);have bU:=(hasU_new (w.alloc (.cells #[.string s] 9)) 205 noU).alloc (.cells #[.bool false] 4);have bB:=Boxed.new ((w.alloc (.cells #[.string s] 9)).alloc (.cells #[.string ⟨#[]⟩,.int .i64 0,.int .i64 0,.int .i64 0,.int .i64 0,.int .i64 0,.int .i64 0,.int .i64 0,.int .i64 0,.int .i64 0] 205)) 4 (.bool false);simp only [World.size_alloc,noU] at bS bU bB;have hB0:Below w.heap.size w (((w.alloc (.cells #[.string s] 9)).alloc (.cells #[.string ⟨#[]⟩,.int .i64 0,.int .i64 0,.int .i64 0,.int .i64 0,.int .i64 0,.int .i64 0,.int .i64 0,.int .i64 0,.int .i64 0] 205)).alloc (.cells #[.bool false] 4)):=by go_grown
 have hsz:(((w.alloc (.cells #[.string s] 9)).alloc (.cells #[.string ⟨#[]⟩,.int .i64 0,.int .i64 0,.int .i64 0,.int .i64 0,.int .i64 0,.int .i64 0,.int .i64 0,.int .i64 0,.int .i64 0] 205)).alloc (.cells #[.bool false] 4)).heap.size=w.heap.size + 3:=by simp
 obtain ⟨W0,hW0⟩:∃ W0,(((w.alloc (.cells #[.string s] 9)).alloc (.cells #[.string ⟨#[]⟩,.int .i64 0,.int .i64 0,.int .i64 0,.int .i64 0,.int .i64 0,.int .i64 0,.int .i64 0,.int .i64 0,.int .i64 0] 205)).alloc (.cells #[.bool false] 4))=W0:=⟨_,rfl⟩;rw [hW0] at bS bU bB hB0 hsz ⊢;clear hW0;refine wpIn_rangeFunc_ownH hro h1 (gf:=149) (lb:=#[]) rfl h19 (enters_of Tryz.func149 (by kernel_rfl) rfl)
  (units_stops F (n - 1) h19 hro (by omega) W0) (fun _ _=>trivial) (fun _ _ _ _ _ _ _ _=>trivial) (Below.refl _ _) (fun _=>rfl)
  (fun pre W=>((∀ x ∈ pre,x.nm ≠ s)∧(Boxed W w.heap.size 9 (.string s)∧HasU W (w.heap.size + 1) 205 noU)∧Boxed W (w.heap.size + 1 + 1) 4 (.bool false))∧Below w.heap.size w W)
  (fun c pre W=>((c=.ret∧∃ u pre0,pre=pre0 ++ [u]∧(∀ x ∈ pre0,x.nm ≠ s)∧u.nm=s∧HasU W (w.heap.size + 1) 205 u)∧Boxed W (w.heap.size + 1 + 1) 4 (.bool true))∧Below w.heap.size w W)
  (OwnFrom.and (OwnFrom.and (ownFrom_pure _ _) (OwnFrom.and (OwnFrom.and (Own.from (boxed_own _ _ _) _) (Own.from (hasU_own _ _ _) _)) (Own.from (boxed_own _ _ _) _))) (ownFrom_below (Nat.le_refl _) (by omega)))
  (fun c=>OwnFrom.and (OwnFrom.and (fun pre X Y row hs hg hr=>by
   obtain ⟨hc,u,pre0,e1,e2,e3,e4⟩:=hs;exact ⟨hc,u,pre0,e1,e2,e3,hasU_own _ _ (fun _=>u) () X Y row e4 hg (fun r e=>(hr r e).2)⟩) (Own.from (boxed_own _ _ _) _)) (ownFrom_below (Nat.le_refl _) (by omega)))
  ⟨⟨by simp,⟨bS,bU⟩,bB⟩,hB0⟩
  (fun x a' W=>∃ Bx,w.heap.size + 1 + 1 < Bx∧HasU W Bx 205 x∧a'={ tmps:=#[.string s,.pointer (some ⟨w.heap.size,0,none⟩),.pointer (some ⟨w.heap.size + 1,0,none⟩),.pointer (some ⟨w.heap.size + 1 + 1,0,none⟩),.pointer (some ⟨Bx,0,none⟩),encU x,undef,undef,undef,undef,undef,undef],defers:=[] })
  (fun x a' _ X Y row hs hg hr=>by obtain ⟨Bx,h1,h2,h3⟩:=hs; exact ⟨Bx,h1,hasU_own Bx _ (fun (_:Unit)=>x) () X Y row h2 hg (fun r e=>(hr r e).2),h3⟩)
  ?assign ?body ?done ?stop
 case assign=>
  rintro l pre x W K ⟨⟨hp,⟨bS1,bU1⟩,bB1⟩,hB1⟩ hK
  gi_wp2
  exact hK _ _ ((KeepsOthers.alloc _ _).from _) trivial ⟨⟨hp,⟨bS1.alloc _,bU1.alloc _⟩,bB1.alloc _⟩,hB1.alloc hB1.size _⟩ ⟨W.heap.size,bB1.lt,hasU_new W _ x,rfl⟩
 case body=>
  rintro l pre x a' W hl ⟨r,hr⟩ ⟨⟨hp,⟨bS1,bU1⟩,bB1⟩,hB1⟩ ⟨Bx,hBx,bX,rfl⟩ hlt;have cS:=bS1.cell;have cB:=bB1.cell;have fB:=bB1.frozen;obtain ⟨x0,x1,x2,x3,x4,x5,x6,x7,x8,x9⟩:=bX.cells
  by_cases hs:x.nm=s
  · subst hs;obtain ⟨z0,z1,z2,z3,z4,z5,z6,z7,z8,z9⟩:=bU1.cells;obtain ⟨g0,g1,g2,g3,g4,g5,g6,g7,g8,g9⟩:=bU1.frozen
    gi_wp2
    exact ⟨((putU_keeps W _ x).trans (KeepsOthers.setCell _ _ _)).from _,⟨⟨rfl,x,pre,rfl,hp,rfl,(blk_past _ _ _ _ (by simp)).trans (bU1.put x)⟩,(boxed_put x bB1 (by omega)).set _⟩,(putU_below x hB1 (by omega)).setCell (p:=⟨w.heap.size + 1 + 1,0,none⟩) (by simp; omega) _⟩
  · have hq:=nm_no hs
    gi_wp2
    exact ⟨KeepsFrom.refl _ _,trivial,⟨fun y hy=>(List.mem_append.1 hy).elim (hp y) (fun e=>by simp at e; subst e; exact hs),⟨bS1,bU1⟩,bB1⟩,hB1⟩
 case done=>
  rintro D ys W hD rfl ⟨⟨hp,⟨bS1,bU1⟩,bB1⟩,hB1⟩ hK;have hz:Hid (isU s=false∧atU s=noU):=isU_not hp;have cB:=bB1.cell;have fB:=bB1.frozen;obtain ⟨z0,z1,z2,z3,z4,z5,z6,z7,z8,z9⟩:=bU1.cells;obtain ⟨g0,g1,g2,g3,g4,g5,g6,g7,g8,g9⟩:=bU1.frozen;simp only [noU] at z0 z1 z2 z3 z4 z5 z6 z7 z8 z9
  gi_wp2
  have hK':=((putU_keeps W (w.heap.size + 1) noU).trans (KeepsOthers.setCell _ ⟨w.heap.size + 1 + 1,0,none⟩ (.bool false))).same D _ hK rfl;have U3:HasU (((putU W (w.heap.size + 1) noU).setCell ⟨w.heap.size + 1 + 1,0,none⟩ (.bool false)).putObj D (.deferred none)) (w.heap.size + 1) 205 noU:=HasU.kept ((blk_past _ _ _ _ (by simp)).trans (bU1.put noU)) (grownBy_putObj' _ D _) (fun e=>by injection e with e; omega);have B3:Boxed (((putU W (w.heap.size + 1) noU).setCell ⟨w.heap.size + 1 + 1,0,none⟩ (.bool false)).putObj D (.deferred none)) (w.heap.size + 1 + 1) 4 (.bool false):=((boxed_put noU bB1 (by omega)).set _).kept (grownBy_putObj' _ D _) (fun e=>by injection e with e; omega);have L:Below w.heap.size w (((putU W (w.heap.size + 1) noU).setCell ⟨w.heap.size + 1 + 1,0,none⟩ (.bool false)).putObj D (.deferred none)):=((putU_below noU hB1 (by omega)).setCell (p:=⟨w.heap.size + 1 + 1,0,none⟩) (by simp; omega) _).trans (belowK_b (w:=w) (Nat.le_refl _) _ D _ _ (by omega) hK' rfl rfl);refine ⟨by simp,.inl ⟨_,_,rfl,run_takeDeferred hK',?_⟩⟩;refine ⟨.tuple #[encU noU,.bool false],?_,by rw [hz.out.1,hz.out.2],L⟩;have c3:=B3.cell;obtain ⟨y0,y1,y2,y3,y4,y5,y6,y7,y8,y9⟩:=U3.cells;unfold putU at c3 y0 y1 y2 y3 y4 y5 y6 y7 y8 y9;simp only [noU] at c3 y0 y1 y2 y3 y4 y5 y6 y7 y8 y9;simp [results,Tryz.f138,go_sem,c3,y0,y1,y2,y3,y4,y5,y6,y7,y8,y9,encU,noU]
 case stop=>
  rintro D c pre W hD hpre ⟨⟨⟨rfl,u,pre0,e1,e2,e3,bU1⟩,bB1⟩,hB1⟩ hK;obtain ⟨rest,hrest⟩:=hpre;have hz:Hid (isU s=true∧atU s=u):=atU_first (pre:=pre0) (rest:=rest) (by rw [← hrest,e1]; simp) e2 e3
  gi_wp2
  have U3:HasU (W.putObj D (.deferred none)) (w.heap.size + 1) 205 u:=bU1.kept (grownBy_putObj' _ D _) (fun e=>by injection e with e; omega);have B3:Boxed (W.putObj D (.deferred none)) (w.heap.size + 1 + 1) 4 (.bool true):=bB1.kept (grownBy_putObj' _ D _) (fun e=>by injection e with e; omega);refine ⟨by simp,.inl ⟨_,_,rfl,run_takeDeferred hK,?_⟩⟩;refine ⟨.tuple #[encU u,.bool true],?_,by rw [hz.out.1,hz.out.2],hB1.trans (belowK_b (w:=w) (Nat.le_refl _) W D _ _ (by omega) hK rfl rfl)⟩;have c3:=B3.cell;obtain ⟨y0,y1,y2,y3,y4,y5,y6,y7,y8,y9⟩:=U3.cells;simp [results,Tryz.f138,go_sem,c3,y0,y1,y2,y3,y4,y5,y6,y7,y8,y9,encU]
theorem find_any (s:ByteArray) (w:World) :
 Calls Tryz.prog 138 #[.string s] w fun e w'=>e=.returned (.tuple #[encU (atU s),.bool (isU s)])∧Below w.heap.size w w':=
 (callsIn_wide (n:=3)).1 (find_in _ 3 trivial trivial rfl (Nat.le_refl _) s w)
end Go.Proofs.YthabffjgdhfbmaaGreatDoor
namespace Go.Proofs.YthabffjgdhfbmaaGreatDoor
open Go.RowKit
theorem measured_any (s:ByteArray) (w:World):Calls Tryz.prog 117 #[.string s] w fun e w'=>e=.returned (.bool (isU s))∧Below w.heap.size w w':=by
 have fd:Hid (∀ w,Calls Tryz.prog 138 #[.string s] w fun e w'=>e=.returned (.tuple #[encU (atU s),.bool (isU s)])∧Below w.heap.size w w'):=find_any s;generalize atU s=u at *;generalize isU s=T at *
 go_enter Tryz.func117,Tryz.ntmps117
 go_wp2_with fail
 refine (fd.out _).mono ?_;rintro e w1 ⟨rfl,hb⟩;have B:Hid (Below w.heap.size w w1):=hb;clear hb fd;go_wp2;go_ret;exact ⟨rfl,B.out.alloc B.out.size _⟩
theorem not_kBe {s:ByteArray} (h:¬ s=kBe):(s.toList == [98,101])=false:=by have:=txt_no h; rwa [show kBe.toList=[98,101] by rw [ByteArray.toList_eq]] at this
theorem not_kLe {s:ByteArray} (h:¬ s=kLe):(s.toList == [108,101])=false:=by have:=txt_no h; rwa [show kLe.toList=[108,101] by rw [ByteArray.toList_eq]] at this
theorem not_kSbe {s:ByteArray} (h:¬ s=kSbe):(s.toList == [115,98,101])=false:=by have:=txt_no h; rwa [show kSbe.toList=[115,98,101] by rw [ByteArray.toList_eq]] at this
theorem not_kSle {s:ByteArray} (h:¬ s=kSle):(s.toList == [115,108,101])=false:=by have:=txt_no h; rwa [show kSle.toList=[115,108,101] by rw [ByteArray.toList_eq]] at this
theorem not_kBcd {s:ByteArray} (h:¬ s=kBcd):(s.toList == [98,99,100])=false:=by have:=txt_no h; rwa [show kBcd.toList=[98,99,100] by rw [ByteArray.toList_eq]] at this
theorem not_kDec {s:ByteArray} (h:¬ s=kDec):(s.toList == [100,101,99])=false:=by have:=txt_no h; rwa [show kDec.toList=[100,101,99] by rw [ByteArray.toList_eq]] at this
theorem bright_be (n:Int) (w:World) (hn:-9223372036854775808≤n∧n≤9223372036854775807):Calls Tryz.prog 61 #[.string kBe,.int .i64 n] w fun e w'=>e=.returned (.bool (rgtB 0 n))∧w'=w:=by
 by_cases h1:1≤n
 · by_cases h2:n≤4
   · have e:rgtB 0 n=true:=by unfold rgtB; simp [h1,h2]
     rw [e]
     go_enter Tryz.func61,Tryz.ntmps61
     go_wp2;go_ret;exact ⟨rfl,rfl⟩
   · have e:rgtB 0 n=false:=by unfold rgtB; simp [h2]
     rw [e]
     go_enter Tryz.func61,Tryz.ntmps61
     go_wp2;go_ret;exact ⟨rfl,rfl⟩
 · have e:rgtB 0 n=false:=by unfold rgtB; simp [h1]
   rw [e]
   go_enter Tryz.func61,Tryz.ntmps61
   go_wp2;go_ret;exact ⟨rfl,rfl⟩
theorem bright_le (n:Int) (w:World) (hn:-9223372036854775808≤n∧n≤9223372036854775807):Calls Tryz.prog 61 #[.string kLe,.int .i64 n] w fun e w'=>e=.returned (.bool (rgtB 1 n))∧w'=w:=by
 by_cases h1:1≤n
 · by_cases h2:n≤4
   · have e:rgtB 1 n=true:=by unfold rgtB; simp [h1,h2]
     rw [e]
     go_enter Tryz.func61,Tryz.ntmps61
     go_wp2;go_ret;exact ⟨rfl,rfl⟩
   · have e:rgtB 1 n=false:=by unfold rgtB; simp [h2]
     rw [e]
     go_enter Tryz.func61,Tryz.ntmps61
     go_wp2;go_ret;exact ⟨rfl,rfl⟩
 · have e:rgtB 1 n=false:=by unfold rgtB; simp [h1]
   rw [e]
   go_enter Tryz.func61,Tryz.ntmps61
   go_wp2;go_ret;exact ⟨rfl,rfl⟩
theorem bright_sbe (n:Int) (w:World) (hn:-9223372036854775808≤n∧n≤9223372036854775807):Calls Tryz.prog 61 #[.string kSbe,.int .i64 n] w fun e w'=>e=.returned (.bool (rgtB 2 n))∧w'=w:=by
 by_cases h1:1≤n
 · by_cases h2:n≤4
   · have e:rgtB 2 n=true:=by unfold rgtB; simp [h1,h2]
     rw [e]
     go_enter Tryz.func61,Tryz.ntmps61
     go_wp2;go_ret;exact ⟨rfl,rfl⟩
   · have e:rgtB 2 n=false:=by unfold rgtB; simp [h2]
     rw [e]
     go_enter Tryz.func61,Tryz.ntmps61
     go_wp2;go_ret;exact ⟨rfl,rfl⟩
 · have e:rgtB 2 n=false:=by unfold rgtB; simp [h1]
   rw [e]
   go_enter Tryz.func61,Tryz.ntmps61
   go_wp2;go_ret;exact ⟨rfl,rfl⟩
theorem bright_sle (n:Int) (w:World) (hn:-9223372036854775808≤n∧n≤9223372036854775807):Calls Tryz.prog 61 #[.string kSle,.int .i64 n] w fun e w'=>e=.returned (.bool (rgtB 3 n))∧w'=w:=by
 by_cases h1:1≤n
 · by_cases h2:n≤4
   · have e:rgtB 3 n=true:=by unfold rgtB; simp [h1,h2]
     rw [e]
     go_enter Tryz.func61,Tryz.ntmps61
     go_wp2;go_ret;exact ⟨rfl,rfl⟩
   · have e:rgtB 3 n=false:=by unfold rgtB; simp [h2]
     rw [e]
     go_enter Tryz.func61,Tryz.ntmps61
     go_wp2;go_ret;exact ⟨rfl,rfl⟩
 · have e:rgtB 3 n=false:=by unfold rgtB; simp [h1]
   rw [e]
   go_enter Tryz.func61,Tryz.ntmps61
   go_wp2;go_ret;exact ⟨rfl,rfl⟩
theorem bright_bcd (n:Int) (w:World) (hn:-9223372036854775808≤n∧n≤9223372036854775807):Calls Tryz.prog 61 #[.string kBcd,.int .i64 n] w fun e w'=>e=.returned (.bool (rgtB 4 n))∧w'=w:=by
 by_cases h1:1≤n
 · by_cases h2:n≤4
   · have e:rgtB 4 n=true:=by unfold rgtB; simp [h1,h2]
     rw [e]
     go_enter Tryz.func61,Tryz.ntmps61
     go_wp2;go_ret;exact ⟨rfl,rfl⟩
   · have e:rgtB 4 n=false:=by unfold rgtB; simp [h2]
     rw [e]
     go_enter Tryz.func61,Tryz.ntmps61
     go_wp2;go_ret;exact ⟨rfl,rfl⟩
 · have e:rgtB 4 n=false:=by unfold rgtB; simp [h1]
   rw [e]
   go_enter Tryz.func61,Tryz.ntmps61
   go_wp2;go_ret;exact ⟨rfl,rfl⟩
theorem bright_dec (n:Int) (w:World) (hn:-9223372036854775808≤n∧n≤9223372036854775807):Calls Tryz.prog 61 #[.string kDec,.int .i64 n] w fun e w'=>e=.returned (.bool (rgtB 5 n))∧w'=w:=by
 by_cases h1:1≤n
 · by_cases h2:n≤8
   · have e:rgtB 5 n=true:=by unfold rgtB; simp [h1,h2]
     rw [e]
     go_enter Tryz.func61,Tryz.ntmps61
     go_wp2;go_ret;exact ⟨rfl,rfl⟩
   · have e:rgtB 5 n=false:=by unfold rgtB; simp [h2]
     rw [e]
     go_enter Tryz.func61,Tryz.ntmps61
     go_wp2;go_ret;exact ⟨rfl,rfl⟩
 · have e:rgtB 5 n=false:=by unfold rgtB; simp [h1]
   rw [e]
   go_enter Tryz.func61,Tryz.ntmps61
   go_wp2;go_ret;exact ⟨rfl,rfl⟩
theorem bright_no (s:ByteArray) (n:Int) (w:World) (hs:NoKind s):Calls Tryz.prog 61 #[.string s,.int .i64 n] w fun e w'=>e=.returned (.bool (rgtB 6 n))∧w'=w:=by
 obtain ⟨n0,n1,n2,n3,n4,n5⟩:=hs;have q0:=not_kBe n0;have q1:=not_kLe n1;have q2:=not_kSbe n2;have q3:=not_kSle n3;have q4:=not_kBcd n4;have q5:=not_kDec n5;clear n0 n1 n2 n3 n4 n5;have e:rgtB 6 n=false:=rfl;rw [e]
 go_enter Tryz.func61,Tryz.ntmps61
 go_wp2;go_ret;exact ⟨rfl,rfl⟩
theorem bright_any (s:ByteArray) (n:Int) (w:World) (hn:-9223372036854775808≤n∧n≤9223372036854775807):Calls Tryz.prog 61 #[.string s,.int .i64 n] w fun e w'=>e=.returned (.bool (rgtB (kindI s) n))∧w'=w:=by
 rcases kind_cases s with rfl | rfl | rfl | rfl | rfl | rfl | hs
 · rw [kind_be]; exact bright_be n w hn
 · rw [kind_le]; exact bright_le n w hn
 · rw [kind_sbe]; exact bright_sbe n w hn
 · rw [kind_sle]; exact bright_sle n w hn
 · rw [kind_bcd]; exact bright_bcd n w hn
 · rw [kind_dec]; exact bright_dec n w hn
 · rw [kind_no hs]; exact bright_no s n w hs
theorem pright_be (n:Int) (w:World) (hn:-9223372036854775808≤n∧n≤9223372036854775807):Calls Tryz.prog 111 #[.string kBe,.int .i64 n] w fun e w'=>e=.returned (.bool (rgtB 0 n))∧w'=w:=by
 by_cases h1:1≤n
 · by_cases h2:n≤4
   · have e:rgtB 0 n=true:=by unfold rgtB; simp [h1,h2]
     rw [e]
     go_enter Tryz.func111,Tryz.ntmps111
     go_wp2;go_ret;exact ⟨rfl,rfl⟩
   · have e:rgtB 0 n=false:=by unfold rgtB; simp [h2]
     rw [e]
     go_enter Tryz.func111,Tryz.ntmps111
     go_wp2;go_ret;exact ⟨rfl,rfl⟩
 · have e:rgtB 0 n=false:=by unfold rgtB; simp [h1]
   rw [e]
   go_enter Tryz.func111,Tryz.ntmps111
   go_wp2;go_ret;exact ⟨rfl,rfl⟩
theorem pright_le (n:Int) (w:World) (hn:-9223372036854775808≤n∧n≤9223372036854775807):Calls Tryz.prog 111 #[.string kLe,.int .i64 n] w fun e w'=>e=.returned (.bool (rgtB 1 n))∧w'=w:=by
 by_cases h1:1≤n
 · by_cases h2:n≤4
   · have e:rgtB 1 n=true:=by unfold rgtB; simp [h1,h2]
     rw [e]
     go_enter Tryz.func111,Tryz.ntmps111
     go_wp2;go_ret;exact ⟨rfl,rfl⟩
   · have e:rgtB 1 n=false:=by unfold rgtB; simp [h2]
     rw [e]
     go_enter Tryz.func111,Tryz.ntmps111
     go_wp2;go_ret;exact ⟨rfl,rfl⟩
 · have e:rgtB 1 n=false:=by unfold rgtB; simp [h1]
   rw [e]
   go_enter Tryz.func111,Tryz.ntmps111
   go_wp2;go_ret;exact ⟨rfl,rfl⟩
theorem pright_sbe (n:Int) (w:World) (hn:-9223372036854775808≤n∧n≤9223372036854775807):Calls Tryz.prog 111 #[.string kSbe,.int .i64 n] w fun e w'=>e=.returned (.bool (rgtB 2 n))∧w'=w:=by
 by_cases h1:1≤n
 · by_cases h2:n≤4
   · have e:rgtB 2 n=true:=by unfold rgtB; simp [h1,h2]
     rw [e]
     go_enter Tryz.func111,Tryz.ntmps111
     go_wp2;go_ret;exact ⟨rfl,rfl⟩
   · have e:rgtB 2 n=false:=by unfold rgtB; simp [h2]
     rw [e]
     go_enter Tryz.func111,Tryz.ntmps111
     go_wp2;go_ret;exact ⟨rfl,rfl⟩
 · have e:rgtB 2 n=false:=by unfold rgtB; simp [h1]
   rw [e]
   go_enter Tryz.func111,Tryz.ntmps111
   go_wp2;go_ret;exact ⟨rfl,rfl⟩
theorem pright_sle (n:Int) (w:World) (hn:-9223372036854775808≤n∧n≤9223372036854775807):Calls Tryz.prog 111 #[.string kSle,.int .i64 n] w fun e w'=>e=.returned (.bool (rgtB 3 n))∧w'=w:=by
 by_cases h1:1≤n
 · by_cases h2:n≤4
   · have e:rgtB 3 n=true:=by unfold rgtB; simp [h1,h2]
     rw [e]
     go_enter Tryz.func111,Tryz.ntmps111
     go_wp2;go_ret;exact ⟨rfl,rfl⟩
   · have e:rgtB 3 n=false:=by unfold rgtB; simp [h2]
     rw [e]
     go_enter Tryz.func111,Tryz.ntmps111
     go_wp2;go_ret;exact ⟨rfl,rfl⟩
 · have e:rgtB 3 n=false:=by unfold rgtB; simp [h1]
   rw [e]
   go_enter Tryz.func111,Tryz.ntmps111
   go_wp2;go_ret;exact ⟨rfl,rfl⟩
theorem pright_bcd (n:Int) (w:World) (hn:-9223372036854775808≤n∧n≤9223372036854775807):Calls Tryz.prog 111 #[.string kBcd,.int .i64 n] w fun e w'=>e=.returned (.bool (rgtB 4 n))∧w'=w:=by
 by_cases h1:1≤n
 · by_cases h2:n≤4
   · have e:rgtB 4 n=true:=by unfold rgtB; simp [h1,h2]
     rw [e]
     go_enter Tryz.func111,Tryz.ntmps111
     go_wp2;go_ret;exact ⟨rfl,rfl⟩
   · have e:rgtB 4 n=false:=by unfold rgtB; simp [h2]
     rw [e]
     go_enter Tryz.func111,Tryz.ntmps111
     go_wp2;go_ret;exact ⟨rfl,rfl⟩
 · have e:rgtB 4 n=false:=by unfold rgtB; simp [h1]
   rw [e]
   go_enter Tryz.func111,Tryz.ntmps111
   go_wp2;go_ret;exact ⟨rfl,rfl⟩
theorem pright_dec (n:Int) (w:World) (hn:-9223372036854775808≤n∧n≤9223372036854775807):Calls Tryz.prog 111 #[.string kDec,.int .i64 n] w fun e w'=>e=.returned (.bool (rgtB 5 n))∧w'=w:=by
 by_cases h1:1≤n
 · by_cases h2:n≤8
   · have e:rgtB 5 n=true:=by unfold rgtB; simp [h1,h2]
     rw [e]
     go_enter Tryz.func111,Tryz.ntmps111
     go_wp2;go_ret;exact ⟨rfl,rfl⟩
   · have e:rgtB 5 n=false:=by unfold rgtB; simp [h2]
     rw [e]
     go_enter Tryz.func111,Tryz.ntmps111
     go_wp2;go_ret;exact ⟨rfl,rfl⟩
 · have e:rgtB 5 n=false:=by unfold rgtB; simp [h1]
   rw [e]
   go_enter Tryz.func111,Tryz.ntmps111
   go_wp2;go_ret;exact ⟨rfl,rfl⟩
theorem pright_no (s:ByteArray) (n:Int) (w:World) (hs:NoKind s):Calls Tryz.prog 111 #[.string s,.int .i64 n] w fun e w'=>e=.returned (.bool (rgtB 6 n))∧w'=w:=by
 obtain ⟨n0,n1,n2,n3,n4,n5⟩:=hs;have q0:=not_kBe n0;have q1:=not_kLe n1;have q2:=not_kSbe n2;have q3:=not_kSle n3;have q4:=not_kBcd n4;have q5:=not_kDec n5;clear n0 n1 n2 n3 n4 n5;have e:rgtB 6 n=false:=rfl;rw [e]
 go_enter Tryz.func111,Tryz.ntmps111
 go_wp2;go_ret;exact ⟨rfl,rfl⟩
theorem pright_any (s:ByteArray) (n:Int) (w:World) (hn:-9223372036854775808≤n∧n≤9223372036854775807):Calls Tryz.prog 111 #[.string s,.int .i64 n] w fun e w'=>e=.returned (.bool (rgtB (kindI s) n))∧w'=w:=by
 rcases kind_cases s with rfl | rfl | rfl | rfl | rfl | rfl | hs
 · rw [kind_be]; exact pright_be n w hn
 · rw [kind_le]; exact pright_le n w hn
 · rw [kind_sbe]; exact pright_sbe n w hn
 · rw [kind_sle]; exact pright_sle n w hn
 · rw [kind_bcd]; exact pright_bcd n w hn
 · rw [kind_dec]; exact pright_dec n w hn
 · rw [kind_no hs]; exact pright_no s n w hs
end Go.Proofs.YthabffjgdhfbmaaGreatDoor
