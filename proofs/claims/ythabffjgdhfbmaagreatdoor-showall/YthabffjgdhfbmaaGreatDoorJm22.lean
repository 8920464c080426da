/-
  Texts that belong together, one behind the other: ShRtx, SnL1. Conditions: as each says.
-/
import Derived.BigQuiet
import Derived.ChangeOld
import Derived.Deep.CutRange
import Derived.Deep.QuietTactic
import Derived.Deep.RegionHeld3
import Derived.Laws.BitsAllLaws
import Derived.Laws.OwnMore
import Derived.Laws.Shifts
import Derived.Lib.QuietBelowIn
import Derived.Maps.AppendAt
import Derived.OpenShut
import Derived.ProofKit
import Derived.RangeFuncCalls
import Derived.ShutString
import Derived.Sort.BigQuietIn
import Derived.Test.YthabffjgdhfbmaaGreatDoorProg
import Derived.Test.YthabffjgdhfbmaaGreatDoorJm1
import Derived.Test.YthabffjgdhfbmaaGreatDoorJm2
import Derived.Test.YthabffjgdhfbmaaGreatDoorJm3
import Derived.Test.YthabffjgdhfbmaaGreatDoorJm4
import Derived.Test.YthabffjgdhfbmaaGreatDoorJm5
import Derived.Test.YthabffjgdhfbmaaGreatDoorJm6
import Derived.Test.YthabffjgdhfbmaaGreatDoorJm7
import Derived.Test.YthabffjgdhfbmaaGreatDoorJm8
import Derived.Test.YthabffjgdhfbmaaGreatDoorJm9
import Derived.Test.YthabffjgdhfbmaaGreatDoorJm10
import Derived.Test.YthabffjgdhfbmaaGreatDoorJm11
import Derived.Test.YthabffjgdhfbmaaGreatDoorJm12
import Derived.Test.YthabffjgdhfbmaaGreatDoorJm13
import Derived.Test.YthabffjgdhfbmaaGreatDoorJm14
import Derived.Test.YthabffjgdhfbmaaGreatDoorJm15
import Derived.Test.YthabffjgdhfbmaaGreatDoorJm21
set_option maxRecDepth 100000
set_option maxHeartbeats 32000000
set_option linter.unusedVariables false
namespace Go.Proofs.YthabffjgdhfbmaaGreatDoor
open Go.RowKit
def accP (ps:List (List UInt8)) (k:Nat):List UInt8:=(ps.take k).flatten
theorem accP_next {ps:List (List UInt8)} {k:Nat} {p:List UInt8} (h:ps[k]?=some p):accP ps (k + 1)=accP ps k ++ p:=by
 unfold accP;rw [List.take_add_one,h,List.flatten_append];show _ ++ (p ++ [])=_;rw [List.append_nil]
theorem cat_p {ps:List (List UInt8)} {k:Nat} {p:List UInt8} {s:ByteArray} (h:ps[k]?=some p) (hs:s=txt p):Value.string (txt (accP ps k) ++ s)=.string (txt (accP ps (k + 1))):=by
 rw [accP_next h,hs]
 congr 1
theorem accP_len (ps:List (List UInt8)) (k:Nat):(accP ps k).length≤ps.flatten.length:=by
 unfold accP
 conv=>rhs; rw [← List.take_append_drop k ps,List.flatten_append,List.length_append]
 omega
theorem piece_len {ps:List (List UInt8)} {p:List UInt8} (h:p ∈ ps):p.length≤ps.flatten.length:=by
 obtain ⟨a,b,rfl⟩:=List.append_of_mem h;rw [List.flatten_append,List.flatten_cons,List.length_append,List.length_append];omega
def PcZ (ps:List (List UInt8)):Prop:=∀ k,((txt (accP ps k)).size:Int)≤100000
def PcP (ps:List (List UInt8)):Prop:=∀ p,p ∈ ps→((txt p).size:Int)≤100000
theorem pcZ {ps:List (List UInt8)} (h:ps.flatten.length≤100000):PcZ ps:=fun k=>by rw [txt_size]; have:=accP_len ps k; omega
theorem pcP {ps:List (List UInt8)} (h:ps.flatten.length≤100000):PcP ps:=fun p hp=>by rw [txt_size]; have:=piece_len hp; omega
def hdP (d:Dv):List (List UInt8):=[[100,101,118,105,99,101,32],d.nm,[10,115,116,97,114,116,32],(hexW [d.st.toNat]),[10,101,115,99,97,112,101,32],(hexW [d.es.toNat]),[32],(hexW [d.mx.toNat]),[10,115,105,122,101,32],(textL d.sz),[10,115,117,109,32],d.sm,[10]]
def tlP (acc:List UInt8) (d:Dv):List (List UInt8):=[acc,[114,101,113,117,101,115,116,32],(hexW d.rq),[10,112,111,108,108,32],(textL d.po),[10,116,105,109,101,111,117,116,32],(textL d.ti),[10,114,101,116,114,105,101,115,32],(textL d.re),[10,97,103,101,32],(textL d.ag),[10]]
theorem hdP_all (d:Dv):accP (hdP d) 13=bytesL (headW d):=by
 simp [accP,hdP,bytesL,headW,lineB,joinW,kDev,kSta,kEsc,kSiz,kSum]
theorem tlP_all (acc:List UInt8) (d:Dv):accP (tlP acc d) 12=acc ++ bytesL (tailW d):=by
 simp [accP,tlP,bytesL,tailW,lineB,joinW,kReq,kPol,kTim,kRet,kAge]
theorem hdP_flat (d:Dv):(hdP d).flatten=bytesL (headW d):=hdP_all d
theorem tlP_flat (acc:List UInt8) (d:Dv):(tlP acc d).flatten=acc ++ bytesL (tailW d):=tlP_all acc d
def t1V (D:Nat) (d:Dv) (fv qv:Value) (γ:WrG):Nat→Value
 | 0=>.pointer (some ⟨D,0,none⟩)
 | 1=>.string (txt d.nm)
 | 2=>.string (txt (accP (hdP d) 2))
 | 3=>.string (txt (accP (hdP d) 3))
 | 4=>.pointer (some ⟨D,1,none⟩)
 | 5=>.int .i64 d.st
 | 6=>.int .u8 d.st
 | 7=>.slice (some ⟨γ.b1,0,none⟩) 1 1
 | 8=>.string (txt (hexW [d.st.toNat]))
 | 9=>.string (txt (accP (hdP d) 4))
 | 10=>.string (txt (accP (hdP d) 5))
 | 11=>.pointer (some ⟨D,2,none⟩)
 | 12=>.int .i64 d.es
 | 13=>.int .u8 d.es
 | 14=>.slice (some ⟨γ.b2,0,none⟩) 1 1
 | 15=>.string (txt (hexW [d.es.toNat]))
 | 16=>.string (txt (accP (hdP d) 6))
 | 17=>.string (txt (accP (hdP d) 7))
 | 18=>.pointer (some ⟨D,3,none⟩)
 | 19=>.int .i64 d.mx
 | 20=>.int .u8 d.mx
 | 21=>.slice (some ⟨γ.b3,0,none⟩) 1 1
 | 22=>.string (txt (hexW [d.mx.toNat]))
 | 23=>.string (txt (accP (hdP d) 8))
 | 24=>.string (txt (accP (hdP d) 9))
 | 25=>.pointer (some ⟨D,4,none⟩)
 | 26=>.int .i64 d.sz
 | 27=>.string (txt (textL d.sz))
 | 28=>.string (txt (accP (hdP d) 10))
 | 29=>.string (txt (accP (hdP d) 11))
 | 30=>.pointer (some ⟨D,5,none⟩)
 | 31=>.string (txt d.sm)
 | 32=>.string (txt (accP (hdP d) 12))
 | 33=>.string (txt (accP (hdP d) 13))
 | 34=>.string (txt (accP (hdP d) 13))
 | _=>undef
def T1P (D:Nat) (d:Dv) (fv qv:Value) (γ:WrG) (_x:Array Bool) (i:Nat) (v:Value) (_z:World):Prop:=v=t1V D d fv qv γ i
structure T1W (w0:World) (D:Nat) (d:Dv) (fv qv:Value) (γ:WrG) (x:Array Bool) (z:World):Prop where
 dv:DevB z D d fv qv
 low:Below w0.heap.size w0 z
 s1:x.getD 7 false=true→z.cell? ⟨γ.b1,0,none⟩=some (.int .u8 d.st)∧γ.b1 < z.heap.size
 s2:x.getD 14 false=true→z.cell? ⟨γ.b2,0,none⟩=some (.int .u8 d.es)∧γ.b2 < z.heap.size
 s3:x.getD 21 false=true→z.cell? ⟨γ.b3,0,none⟩=some (.int .u8 d.mx)∧γ.b3 < z.heap.size
theorem T1W.go {w0:World} {D:Nat} {d:Dv} {fv qv:Value} {γ:WrG} {x:Array Bool} {z z':World} (h:T1W w0 D d fv qv γ x z) {i:Nat} (h1:i ≠ 7) (h2:i ≠ 14) (h3:i ≠ 21) (hb:Below z.heap.size z z'):T1W w0 D d fv qv γ (x.setIfInBounds i true) z':=by
 refine ⟨h.dv.below hb,h.low.trans (hb.mono h.low.size),?_,?_,?_⟩
 · rw [getD_set_ne false h1]; exact fun e=>cell_keep (h.s1 e) hb
 · rw [getD_set_ne false h2]; exact fun e=>cell_keep (h.s2 e) hb
 · rw [getD_set_ne false h3]; exact fun e=>cell_keep (h.s3 e) hb
theorem T1W.k1 {w0:World} {D:Nat} {d:Dv} {fv qv:Value} {γ:WrG} {x:Array Bool} {z:World} (h:T1W w0 D d fv qv γ x z):T1W w0 D d fv qv ⟨z.heap.size,γ.b2,γ.b3⟩ (x.setIfInBounds 7 true) (z.alloc (.cells #[.int .u8 d.st] 5)):=by
 have hb:Below z.heap.size z (z.alloc (.cells #[.int .u8 d.st] 5)):=(Below.refl _ _).alloc (Nat.le_refl _) _;refine ⟨h.dv.below hb,h.low.trans (hb.mono h.low.size),?_,?_,?_⟩
 · exact fun _=>⟨cell_1 z _ _,by rw [World.size_alloc]; exact Nat.lt_succ_self _⟩
 · rw [getD_set_ne false (by decide)]; exact fun e=>cell_keep (h.s2 e) hb
 · rw [getD_set_ne false (by decide)]; exact fun e=>cell_keep (h.s3 e) hb
theorem t1V_k1 {D:Nat} {d:Dv} {fv qv:Value} {γ:WrG} {b:Nat} {j:Nat} (h:j ≠ 7):t1V D d fv qv γ j=t1V D d fv qv ⟨b,γ.b2,γ.b3⟩ j:=by
 unfold t1V
 split <;> first | rfl | (exact absurd rfl h)
theorem T1W.k2 {w0:World} {D:Nat} {d:Dv} {fv qv:Value} {γ:WrG} {x:Array Bool} {z:World} (h:T1W w0 D d fv qv γ x z):T1W w0 D d fv qv ⟨γ.b1,z.heap.size,γ.b3⟩ (x.setIfInBounds 14 true) (z.alloc (.cells #[.int .u8 d.es] 5)):=by
 have hb:Below z.heap.size z (z.alloc (.cells #[.int .u8 d.es] 5)):=(Below.refl _ _).alloc (Nat.le_refl _) _;refine ⟨h.dv.below hb,h.low.trans (hb.mono h.low.size),?_,?_,?_⟩
 · rw [getD_set_ne false (by decide)]; exact fun e=>cell_keep (h.s1 e) hb
 · exact fun _=>⟨cell_1 z _ _,by rw [World.size_alloc]; exact Nat.lt_succ_self _⟩
 · rw [getD_set_ne false (by decide)]; exact fun e=>cell_keep (h.s3 e) hb
theorem t1V_k2 {D:Nat} {d:Dv} {fv qv:Value} {γ:WrG} {b:Nat} {j:Nat} (h:j ≠ 14):t1V D d fv qv γ j=t1V D d fv qv ⟨γ.b1,b,γ.b3⟩ j:=by
 unfold t1V
 split <;> first | rfl | (exact absurd rfl h)
theorem T1W.k3 {w0:World} {D:Nat} {d:Dv} {fv qv:Value} {γ:WrG} {x:Array Bool} {z:World} (h:T1W w0 D d fv qv γ x z):T1W w0 D d fv qv ⟨γ.b1,γ.b2,z.heap.size⟩ (x.setIfInBounds 21 true) (z.alloc (.cells #[.int .u8 d.mx] 5)):=by
 have hb:Below z.heap.size z (z.alloc (.cells #[.int .u8 d.mx] 5)):=(Below.refl _ _).alloc (Nat.le_refl _) _;refine ⟨h.dv.below hb,h.low.trans (hb.mono h.low.size),?_,?_,?_⟩
 · rw [getD_set_ne false (by decide)]; exact fun e=>cell_keep (h.s1 e) hb
 · rw [getD_set_ne false (by decide)]; exact fun e=>cell_keep (h.s2 e) hb
 · exact fun _=>⟨cell_1 z _ _,by rw [World.size_alloc]; exact Nat.lt_succ_self _⟩
theorem t1V_k3 {D:Nat} {d:Dv} {fv qv:Value} {γ:WrG} {b:Nat} {j:Nat} (h:j ≠ 21):t1V D d fv qv γ j=t1V D d fv qv ⟨γ.b1,γ.b2,b⟩ j:=by
 unfold t1V
 split <;> first | rfl | (exact absurd rfl h)
def t7V (D:Nat) (acc:List UInt8) (d:Dv) (qv:Value):Nat→Value
 | 0=>.string (txt (accP (tlP acc d) 1))
 | 1=>.string (txt (accP (tlP acc d) 2))
 | 2=>.pointer (some ⟨D,7,none⟩)
 | 3=>qv
 | 4=>.string (txt (hexW d.rq))
 | 5=>.string (txt (accP (tlP acc d) 3))
 | 6=>.string (txt (accP (tlP acc d) 4))
 | 7=>.pointer (some ⟨D,8,none⟩)
 | 8=>.int .i64 d.po
 | 9=>.string (txt (textL d.po))
 | 10=>.string (txt (accP (tlP acc d) 5))
 | 11=>.string (txt (accP (tlP acc d) 6))
 | 12=>.pointer (some ⟨D,9,none⟩)
 | 13=>.int .i64 d.ti
 | 14=>.string (txt (textL d.ti))
 | 15=>.string (txt (accP (tlP acc d) 7))
 | 16=>.string (txt (accP (tlP acc d) 8))
 | 17=>.pointer (some ⟨D,10,none⟩)
 | 18=>.int .i64 d.re
 | 19=>.string (txt (textL d.re))
 | 20=>.string (txt (accP (tlP acc d) 9))
 | 21=>.string (txt (accP (tlP acc d) 10))
 | 22=>.pointer (some ⟨D,11,none⟩)
 | 23=>.int .i64 d.ag
 | 24=>.string (txt (textL d.ag))
 | 25=>.string (txt (accP (tlP acc d) 11))
 | 26=>.string (txt (accP (tlP acc d) 12))
 | 27=>.string (txt (accP (tlP acc d) 12))
 | _=>undef
def T7P (D:Nat) (acc:List UInt8) (d:Dv) (qv:Value) (_γ:Nat) (_x:Array Bool) (i:Nat) (v:Value) (_z:World):Prop:=v=t7V D acc d qv i
structure T7W (w0:World) (D:Nat) (d:Dv) (fv qv:Value) (_γ:Nat) (_x:Array Bool) (z:World):Prop where
 dv:DevB z D d fv qv
 low:Below w0.heap.size w0 z
theorem T7W.go {w0:World} {D:Nat} {d:Dv} {fv qv:Value} {γ:Nat} {x x':Array Bool} {z z':World} (h:T7W w0 D d fv qv γ x z) (hb:Below z.heap.size z z'):T7W w0 D d fv qv γ x' z':=⟨h.dv.below hb,h.low.trans (hb.mono h.low.size)⟩
def Hx10 (n:Int):Prop:=∀ z g,z.cell? ⟨g,0,none⟩=some (.int .u8 n)→g < z.heap.size→Calls Tryz.prog 29 #[.slice (some ⟨g,0,none⟩) 1 1] z fun e y=>e=.returned (.string (txt (hexW [n.toNat])))∧Below z.heap.size z y
theorem hx10 {n:Int} (h:0≤n∧n≤255):Hx10 n:=fun z g hc hg=>by
 refine rhx10_any [n.toNat] (.slice (some ⟨g,0,none⟩) 1 1) z (.inr ⟨g,0,1,rfl,fun j hj=>?_,hg⟩) (fun c hc=>by rw [List.mem_singleton.1 hc]; omega) (by simp);have e:j=0:=by simp at hj; exact hj
 subst e;show z.cell? ⟨g,0,none⟩=some (.int .u8 ((n.toNat:Nat):Int));rw [hc,show ((n.toNat:Nat):Int)=n by omega]
def Fl10 (d:Dv):Prop:=∀ k (h:k < d.fs.length),FdW d.fs[k]∧bytesL ((linesW d).take (5 + (k + 1)))=bytesL ((linesW d).take (5 + k)) ++ lineB (fieldW d.fs[k])
theorem take_next {L:List (List Wd)} {k:Nat} {ws:List Wd} (h:L[k]?=some ws):bytesL (L.take (k + 1))=bytesL (L.take k) ++ lineB ws:=by
 rw [List.take_add_one,h,bytesL_app];show _ ++ (lineB ws ++ [])=_;rw [List.append_nil]
theorem text_tail (d:Dv):textD d=bytesL ((linesW d).take (5 + d.fs.length)) ++ bytesL (tailW d):=by
 unfold textD;have e:linesW d=(linesW d).take (5 + d.fs.length) ++ tailW d:=by
  have e1:linesW d=(headW d ++ d.fs.map fieldW) ++ tailW d:=by unfold linesW; rw [List.append_assoc]
  have e2:(headW d ++ d.fs.map fieldW).length=5 + d.fs.length:=by rw [List.length_append,List.length_map]; rfl
  rw [e1,List.take_append_of_le_length (by omega),List.take_of_length_le (by omega)]
 conv=>lhs; rw [e,bytesL_app]
theorem rtext10_any (d:Dv) (fv qv:Value) (w:World) (hd:DvOk d) (hfv:FldsV w fv d.fs) (hqv:BytesAt w qv d.rq) :
 Calls Tryz.prog 14 #[dvV d fv qv] w fun e y=>e=.returned (.string (txt (textD d)))∧Below w.heap.size w y:=by
 have hx1:Hid (Hx10 d.st):=hx10 hd.st;have hx2:Hid (Hx10 d.es):=hx10 hd.es;have hx3:Hid (Hx10 d.mx):=hx10 hd.mx;have wst:Hid (IntKind.u8.wrap d.st=d.st):=by have:=hd.st; unfold Hid; simp only [IntKind.wrap_u8]; omega
 have wes:Hid (IntKind.u8.wrap d.es=d.es):=by have:=hd.es; unfold Hid; simp only [IntKind.wrap_u8]; omega
 have wmx:Hid (IntKind.u8.wrap d.mx=d.mx):=by have:=hd.mx; unfold Hid; simp only [IntKind.wrap_u8]; omega
 have ndsz:Hid (ShTxC 30 #[.int .i64 d.sz] (textL d.sz)):=fun z=>rnum10_any d.sz z (by have:=hd.sz; exact ⟨by omega,by omega⟩)
 have ndpo:Hid (ShTxC 30 #[.int .i64 d.po] (textL d.po)):=fun z=>rnum10_any d.po z (by have:=hd.po; exact ⟨by omega,by omega⟩)
 have ndti:Hid (ShTxC 30 #[.int .i64 d.ti] (textL d.ti)):=fun z=>rnum10_any d.ti z (by have:=hd.ti; exact ⟨by omega,by omega⟩)
 have ndre:Hid (ShTxC 30 #[.int .i64 d.re] (textL d.re)):=fun z=>rnum10_any d.re z (by have:=hd.re; exact ⟨by omega,by omega⟩)
 have ndag:Hid (ShTxC 30 #[.int .i64 d.ag] (textL d.ag)):=fun z=>rnum10_any d.ag z (by have:=hd.ag; exact ⟨by omega,by omega⟩)
 have tl:=hd.len;have fl:Hid (Fl10 d):=fun k hk=>⟨(hd.fs _ (List.getElem_mem hk)).w,take_next (lines_at hk)⟩
 have r1:=hd.rq.2;have rb:=hd.rb;have tz:Hid (∀ k,(bytesL ((linesW d).take k)).length≤3000):=fun k=>Nat.le_trans (bytes_take _ _) tl
 have tt:Hid (textD d=bytesL ((linesW d).take (5 + d.fs.length)) ++ bytesL (tailW d)):=text_tail d;have th:Hid (bytesL (headW d)=bytesL ((linesW d).take (5 + 0))):=rfl;replace tl:Hid ((textD d).length≤3000):=tl;have B0:Hid (Below w.heap.size w (w.alloc (.cells #[.string (txt d.nm),.int .i64 d.st,.int .i64 d.es,.int .i64 d.mx,.int .i64 d.sz,.string (txt d.sm),fv,qv,.int .i64 d.po,.int .i64 d.ti,.int .i64 d.re,.int .i64 d.ag] 25))):=(Below.refl _ _).alloc (Nat.le_refl _) _;have DD:Hid (DevB (w.alloc (.cells #[.string (txt d.nm),.int .i64 d.st,.int .i64 d.es,.int .i64 d.mx,.int .i64 d.sz,.string (txt d.sm),fv,qv,.int .i64 d.po,.int .i64 d.ti,.int .i64 d.re,.int .i64 d.ag] 25)) w.heap.size d fv qv):=DevB.new hfv _;have QQ:Hid (BytesAt (w.alloc (.cells #[.string (txt d.nm),.int .i64 d.st,.int .i64 d.es,.int .i64 d.mx,.int .i64 d.sz,.string (txt d.sm),fv,qv,.int .i64 d.po,.int .i64 d.ti,.int .i64 d.re,.int .i64 d.ag] 25)) qv d.rq):=hqv.below B0.out;obtain ⟨pv,cap,rfl⟩:=hfv.form;obtain ⟨len,hlen⟩:∃ len,d.fs.length=len:=⟨_,rfl⟩;obtain ⟨pq,nq,cq,rfl⟩:∃ p n c,qv=.slice p n c:=by
  rcases hqv with ⟨h,_⟩ | ⟨g,o,cap,h,_⟩
  · exact ⟨none,0,0,h⟩
  · exact ⟨_,_,_,h⟩
 have hl8:len≤8:=by have:=hd.fn; omega
 rw [hlen] at DD QQ B0 ⊢;replace hlen:Hid (d.fs.length=len):=hlen;clear hfv hqv hd
 go_enter Tryz.func14,Tryz.ntmps14
 go_upto_region 1 with fail
 generalize w.alloc (.cells #[.string (txt d.nm),.int .i64 d.st,.int .i64 d.es,.int .i64 d.mx,.int .i64 d.sz,.string (txt d.sm),.slice pv len cap,.slice pq nq cq,.int .i64 d.po,.int .i64 d.ti,.int .i64 d.re,.int .i64 d.ag] 25)=w1 at *;have hxq:Hid (∀ z,Below w1.heap.size w1 z→Calls Tryz.prog 29 #[.slice pq nq cq] z fun e y=>e=.returned (.string (txt (hexW d.rq)))∧Below z.heap.size z y):=fun z hz=>rhx10_any d.rq _ z (QQ.out.below hz) rb (by omega)
 have hz:Hid (PcZ (hdP d)):=pcZ (by rw [hdP_flat]; have:=tz.out (5 + 0); rw [← th.out] at this; omega);have zp:Hid (PcP (hdP d)):=pcP (by rw [hdP_flat]; have:=tz.out (5 + 0); rw [← th.out] at this; omega);clear QQ rb r1;refine region_props3 (T1P w.heap.size d (.slice pv len cap) (.slice pq nq cq)) (T1W w1 w.heap.size d (.slice pv len cap) (.slice pq nq cq)) ⟨0,0,0⟩ (by kernel_rfl) (by kernel_rfl) ?_ ?_ ⟨DD.out.below (Below.refl _ _).drew,(Below.refl _ _).drew,fun h=>(by cases h),fun h=>(by cases h),fun h=>(by cases h)⟩
 · intro γ x a z i op ho hI haf hx hxi hW;have hi:i < 35:=(List.getElem?_eq_some_iff.1 ho).1;have xi:=getD_false hxi
   match i,hi with
   | 0,_=>
    obtain rfl:=Option.some.inj ho;have e1:a.tmps.getD 1 undef=.pointer (some ⟨w.heap.size,0,none⟩):=(hI.was (by kernel_rfl)).trans rfl;go_simp;exact ⟨_,rfl,γ,rfl,fun j v _ h=>h,hW.go (by decide) (by decide) (by decide) (Below.refl _ _)⟩
   | 1,_=>
    obtain rfl:=Option.some.inj ho;have e1:a.tmps.getD 6 undef=.pointer (some ⟨w.heap.size,0,none⟩):=Eq.trans (hI.val 0 _ 6 rfl rfl (dep_at haf (by kernel_rfl))) rfl;have m0:=(hW.dv).c 0 _ rfl;go_simp;exact ⟨_,rfl,γ,rfl,fun j v _ h=>h,hW.go (by decide) (by decide) (by decide) (Below.refl _ _)⟩
   | 2,_=>
    obtain rfl:=Option.some.inj ho;have e1:a.tmps.getD 7 undef=.string (txt d.nm):=Eq.trans (hI.val 1 _ 7 rfl rfl (dep_at haf (by kernel_rfl))) rfl;have z2:=zp.out (d.nm) (by simp [hdP]);go_simp;rw [if_neg (by omega)];go_simp;exact ⟨_,rfl,γ,(cat_p (k:=1) (ps:=(hdP d)) rfl rfl),fun j v _ h=>h,hW.go (by decide) (by decide) (by decide) (Below.refl _ _)⟩
   | 3,_=>
    obtain rfl:=Option.some.inj ho;have e1:a.tmps.getD 8 undef=.string (txt (accP (hdP d) 2)):=Eq.trans (hI.val 2 _ 8 rfl rfl (dep_at haf (by kernel_rfl))) rfl;have z1:=hz.out 2;go_simp;rw [if_neg (by omega)];go_simp;exact ⟨_,rfl,γ,(cat_p (k:=2) (ps:=(hdP d)) rfl rfl),fun j v _ h=>h,hW.go (by decide) (by decide) (by decide) (Below.refl _ _)⟩
   | 4,_=>
    obtain rfl:=Option.some.inj ho;have e1:a.tmps.getD 1 undef=.pointer (some ⟨w.heap.size,0,none⟩):=(hI.was (by kernel_rfl)).trans rfl;go_simp;exact ⟨_,rfl,γ,rfl,fun j v _ h=>h,hW.go (by decide) (by decide) (by decide) (Below.refl _ _)⟩
   | 5,_=>
    obtain rfl:=Option.some.inj ho;have e1:a.tmps.getD 10 undef=.pointer (some ⟨w.heap.size,1,none⟩):=Eq.trans (hI.val 4 _ 10 rfl rfl (dep_at haf (by kernel_rfl))) rfl;have m0:=(hW.dv).c 1 _ rfl;go_simp;exact ⟨_,rfl,γ,rfl,fun j v _ h=>h,hW.go (by decide) (by decide) (by decide) (Below.refl _ _)⟩
   | 6,_=>
    obtain rfl:=Option.some.inj ho;have e1:a.tmps.getD 11 undef=.int .i64 d.st:=Eq.trans (hI.val 5 _ 11 rfl rfl (dep_at haf (by kernel_rfl))) rfl;have wk:IntKind.u8.wrap d.st=d.st:=wst.out;go_simp;exact ⟨_,rfl,γ,rfl,fun j v _ h=>h,hW.go (by decide) (by decide) (by decide) (Below.refl _ _)⟩
   | 7,_=>
    obtain rfl:=Option.some.inj ho;have e1:a.tmps.getD 12 undef=.int .u8 d.st:=Eq.trans (hI.val 6 _ 12 rfl rfl (dep_at haf (by kernel_rfl))) rfl;go_simp;simp only [← Array.getD_eq_getD_getElem?,e1];go_simp;refine ⟨_,rfl,⟨z.heap.size,γ.b2,γ.b3⟩,rfl,fun j v hj h=>Eq.trans h (t1V_k1 (fun e=>?_)),hW.k1⟩;subst e; exact gd_no xi hj
   | 8,_=>
    obtain rfl:=Option.some.inj ho;have e1:a.tmps.getD 13 undef=.slice (some ⟨γ.b1,0,none⟩) 1 1:=Eq.trans (hI.val 7 _ 13 rfl rfl (dep_at haf (by kernel_rfl))) rfl;have s1:=hW.s1 (dep_at haf (by kernel_rfl));go_simp;refine (hx1.out z γ.b1 s1.1 s1.2).mono ?_;rintro e z' ⟨rfl,hb⟩;exact ⟨_,rfl,γ,rfl,fun j v _ h=>h,hW.go (by decide) (by decide) (by decide) hb⟩
   | 9,_=>
    obtain rfl:=Option.some.inj ho;have e1:a.tmps.getD 9 undef=.string (txt (accP (hdP d) 3)):=Eq.trans (hI.val 3 _ 9 rfl rfl (dep_at haf (by kernel_rfl))) rfl;have e2:a.tmps.getD 14 undef=.string (txt (hexW [d.st.toNat])):=Eq.trans (hI.val 8 _ 14 rfl rfl (dep_at haf (by kernel_rfl))) rfl;have z1:=hz.out 3;have z2:=zp.out ((hexW [d.st.toNat])) (by simp [hdP]);go_simp;rw [if_neg (by omega)];go_simp;exact ⟨_,rfl,γ,(cat_p (k:=3) (ps:=(hdP d)) rfl rfl),fun j v _ h=>h,hW.go (by decide) (by decide) (by decide) (Below.refl _ _)⟩
   | 10,_=>
    obtain rfl:=Option.some.inj ho;have e1:a.tmps.getD 15 undef=.string (txt (accP (hdP d) 4)):=Eq.trans (hI.val 9 _ 15 rfl rfl (dep_at haf (by kernel_rfl))) rfl;have z1:=hz.out 4;go_simp;rw [if_neg (by omega)];go_simp;exact ⟨_,rfl,γ,(cat_p (k:=4) (ps:=(hdP d)) rfl rfl),fun j v _ h=>h,hW.go (by decide) (by decide) (by decide) (Below.refl _ _)⟩
   | 11,_=>
    obtain rfl:=Option.some.inj ho;have e1:a.tmps.getD 1 undef=.pointer (some ⟨w.heap.size,0,none⟩):=(hI.was (by kernel_rfl)).trans rfl;go_simp;exact ⟨_,rfl,γ,rfl,fun j v _ h=>h,hW.go (by decide) (by decide) (by decide) (Below.refl _ _)⟩
   | 12,_=>
    obtain rfl:=Option.some.inj ho;have e1:a.tmps.getD 17 undef=.pointer (some ⟨w.heap.size,2,none⟩):=Eq.trans (hI.val 11 _ 17 rfl rfl (dep_at haf (by kernel_rfl))) rfl;have m0:=(hW.dv).c 2 _ rfl;go_simp;exact ⟨_,rfl,γ,rfl,fun j v _ h=>h,hW.go (by decide) (by decide) (by decide) (Below.refl _ _)⟩
   | 13,_=>
    obtain rfl:=Option.some.inj ho;have e1:a.tmps.getD 18 undef=.int .i64 d.es:=Eq.trans (hI.val 12 _ 18 rfl rfl (dep_at haf (by kernel_rfl))) rfl;have wk:IntKind.u8.wrap d.es=d.es:=wes.out;go_simp;exact ⟨_,rfl,γ,rfl,fun j v _ h=>h,hW.go (by decide) (by decide) (by decide) (Below.refl _ _)⟩
   | 14,_=>
    obtain rfl:=Option.some.inj ho;have e1:a.tmps.getD 19 undef=.int .u8 d.es:=Eq.trans (hI.val 13 _ 19 rfl rfl (dep_at haf (by kernel_rfl))) rfl;go_simp;simp only [← Array.getD_eq_getD_getElem?,e1];go_simp;refine ⟨_,rfl,⟨γ.b1,z.heap.size,γ.b3⟩,rfl,fun j v hj h=>Eq.trans h (t1V_k2 (fun e=>?_)),hW.k2⟩;subst e; exact gd_no xi hj
   | 15,_=>
    obtain rfl:=Option.some.inj ho;have e1:a.tmps.getD 20 undef=.slice (some ⟨γ.b2,0,none⟩) 1 1:=Eq.trans (hI.val 14 _ 20 rfl rfl (dep_at haf (by kernel_rfl))) rfl;have s1:=hW.s2 (dep_at haf (by kernel_rfl));go_simp;refine (hx2.out z γ.b2 s1.1 s1.2).mono ?_;rintro e z' ⟨rfl,hb⟩;exact ⟨_,rfl,γ,rfl,fun j v _ h=>h,hW.go (by decide) (by decide) (by decide) hb⟩
   | 16,_=>
    obtain rfl:=Option.some.inj ho;have e1:a.tmps.getD 16 undef=.string (txt (accP (hdP d) 5)):=Eq.trans (hI.val 10 _ 16 rfl rfl (dep_at haf (by kernel_rfl))) rfl;have e2:a.tmps.getD 21 undef=.string (txt (hexW [d.es.toNat])):=Eq.trans (hI.val 15 _ 21 rfl rfl (dep_at haf (by kernel_rfl))) rfl;have z1:=hz.out 5;have z2:=zp.out ((hexW [d.es.toNat])) (by simp [hdP]);go_simp;rw [if_neg (by omega)];go_simp;exact ⟨_,rfl,γ,(cat_p (k:=5) (ps:=(hdP d)) rfl rfl),fun j v _ h=>h,hW.go (by decide) (by decide) (by decide) (Below.refl _ _)⟩
   | 17,_=>
    obtain rfl:=Option.some.inj ho;have e1:a.tmps.getD 22 undef=.string (txt (accP (hdP d) 6)):=Eq.trans (hI.val 16 _ 22 rfl rfl (dep_at haf (by kernel_rfl))) rfl;have z1:=hz.out 6;go_simp;rw [if_neg (by omega)];go_simp;exact ⟨_,rfl,γ,(cat_p (k:=6) (ps:=(hdP d)) rfl rfl),fun j v _ h=>h,hW.go (by decide) (by decide) (by decide) (Below.refl _ _)⟩
   | 18,_=>
    obtain rfl:=Option.some.inj ho;have e1:a.tmps.getD 1 undef=.pointer (some ⟨w.heap.size,0,none⟩):=(hI.was (by kernel_rfl)).trans rfl;go_simp;exact ⟨_,rfl,γ,rfl,fun j v _ h=>h,hW.go (by decide) (by decide) (by decide) (Below.refl _ _)⟩
   | 19,_=>
    obtain rfl:=Option.some.inj ho;have e1:a.tmps.getD 24 undef=.pointer (some ⟨w.heap.size,3,none⟩):=Eq.trans (hI.val 18 _ 24 rfl rfl (dep_at haf (by kernel_rfl))) rfl;have m0:=(hW.dv).c 3 _ rfl;go_simp;exact ⟨_,rfl,γ,rfl,fun j v _ h=>h,hW.go (by decide) (by decide) (by decide) (Below.refl _ _)⟩
   | 20,_=>
    obtain rfl:=Option.some.inj ho;have e1:a.tmps.getD 25 undef=.int .i64 d.mx:=Eq.trans (hI.val 19 _ 25 rfl rfl (dep_at haf (by kernel_rfl))) rfl;have wk:IntKind.u8.wrap d.mx=d.mx:=wmx.out;go_simp;exact ⟨_,rfl,γ,rfl,fun j v _ h=>h,hW.go (by decide) (by decide) (by decide) (Below.refl _ _)⟩
   | 21,_=>
    obtain rfl:=Option.some.inj ho;have e1:a.tmps.getD 26 undef=.int .u8 d.mx:=Eq.trans (hI.val 20 _ 26 rfl rfl (dep_at haf (by kernel_rfl))) rfl;go_simp;simp only [← Array.getD_eq_getD_getElem?,e1];go_simp;refine ⟨_,rfl,⟨γ.b1,γ.b2,z.heap.size⟩,rfl,fun j v hj h=>Eq.trans h (t1V_k3 (fun e=>?_)),hW.k3⟩;subst e; exact gd_no xi hj
   | 22,_=>
    obtain rfl:=Option.some.inj ho;have e1:a.tmps.getD 27 undef=.slice (some ⟨γ.b3,0,none⟩) 1 1:=Eq.trans (hI.val 21 _ 27 rfl rfl (dep_at haf (by kernel_rfl))) rfl;have s1:=hW.s3 (dep_at haf (by kernel_rfl));go_simp;refine (hx3.out z γ.b3 s1.1 s1.2).mono ?_;rintro e z' ⟨rfl,hb⟩;exact ⟨_,rfl,γ,rfl,fun j v _ h=>h,hW.go (by decide) (by decide) (by decide) hb⟩
   | 23,_=>
    obtain rfl:=Option.some.inj ho;have e1:a.tmps.getD 23 undef=.string (txt (accP (hdP d) 7)):=Eq.trans (hI.val 17 _ 23 rfl rfl (dep_at haf (by kernel_rfl))) rfl;have e2:a.tmps.getD 28 undef=.string (txt (hexW [d.mx.toNat])):=Eq.trans (hI.val 22 _ 28 rfl rfl (dep_at haf (by kernel_rfl))) rfl;have z1:=hz.out 7;have z2:=zp.out ((hexW [d.mx.toNat])) (by simp [hdP]);go_simp;rw [if_neg (by omega)];go_simp;exact ⟨_,rfl,γ,(cat_p (k:=7) (ps:=(hdP d)) rfl rfl),fun j v _ h=>h,hW.go (by decide) (by decide) (by decide) (Below.refl _ _)⟩
   | 24,_=>
    obtain rfl:=Option.some.inj ho;have e1:a.tmps.getD 29 undef=.string (txt (accP (hdP d) 8)):=Eq.trans (hI.val 23 _ 29 rfl rfl (dep_at haf (by kernel_rfl))) rfl;have z1:=hz.out 8;go_simp;rw [if_neg (by omega)];go_simp;exact ⟨_,rfl,γ,(cat_p (k:=8) (ps:=(hdP d)) rfl rfl),fun j v _ h=>h,hW.go (by decide) (by decide) (by decide) (Below.refl _ _)⟩
   | 25,_=>
    obtain rfl:=Option.some.inj ho;have e1:a.tmps.getD 1 undef=.pointer (some ⟨w.heap.size,0,none⟩):=(hI.was (by kernel_rfl)).trans rfl;go_simp;exact ⟨_,rfl,γ,rfl,fun j v _ h=>h,hW.go (by decide) (by decide) (by decide) (Below.refl _ _)⟩
   | 26,_=>
    obtain rfl:=Option.some.inj ho;have e1:a.tmps.getD 31 undef=.pointer (some ⟨w.heap.size,4,none⟩):=Eq.trans (hI.val 25 _ 31 rfl rfl (dep_at haf (by kernel_rfl))) rfl;have m0:=(hW.dv).c 4 _ rfl;go_simp;exact ⟨_,rfl,γ,rfl,fun j v _ h=>h,hW.go (by decide) (by decide) (by decide) (Below.refl _ _)⟩
   | 27,_=>
    obtain rfl:=Option.some.inj ho;have e1:a.tmps.getD 32 undef=.int .i64 d.sz:=Eq.trans (hI.val 26 _ 32 rfl rfl (dep_at haf (by kernel_rfl))) rfl;go_simp;refine (ndsz.out z).mono ?_;rintro e z' ⟨rfl,hb⟩;exact ⟨_,rfl,γ,rfl,fun j v _ h=>h,hW.go (by decide) (by decide) (by decide) hb⟩
   | 28,_=>
    obtain rfl:=Option.some.inj ho;have e1:a.tmps.getD 30 undef=.string (txt (accP (hdP d) 9)):=Eq.trans (hI.val 24 _ 30 rfl rfl (dep_at haf (by kernel_rfl))) rfl;have e2:a.tmps.getD 33 undef=.string (txt (textL d.sz)):=Eq.trans (hI.val 27 _ 33 rfl rfl (dep_at haf (by kernel_rfl))) rfl;have z1:=hz.out 9;have z2:=zp.out ((textL d.sz)) (by simp [hdP]);go_simp;rw [if_neg (by omega)];go_simp;exact ⟨_,rfl,γ,(cat_p (k:=9) (ps:=(hdP d)) rfl rfl),fun j v _ h=>h,hW.go (by decide) (by decide) (by decide) (Below.refl _ _)⟩
   | 29,_=>
    obtain rfl:=Option.some.inj ho;have e1:a.tmps.getD 34 undef=.string (txt (accP (hdP d) 10)):=Eq.trans (hI.val 28 _ 34 rfl rfl (dep_at haf (by kernel_rfl))) rfl;have z1:=hz.out 10;go_simp;rw [if_neg (by omega)];go_simp;exact ⟨_,rfl,γ,(cat_p (k:=10) (ps:=(hdP d)) rfl rfl),fun j v _ h=>h,hW.go (by decide) (by decide) (by decide) (Below.refl _ _)⟩
   | 30,_=>
    obtain rfl:=Option.some.inj ho;have e1:a.tmps.getD 1 undef=.pointer (some ⟨w.heap.size,0,none⟩):=(hI.was (by kernel_rfl)).trans rfl;go_simp;exact ⟨_,rfl,γ,rfl,fun j v _ h=>h,hW.go (by decide) (by decide) (by decide) (Below.refl _ _)⟩
   | 31,_=>
    obtain rfl:=Option.some.inj ho;have e1:a.tmps.getD 36 undef=.pointer (some ⟨w.heap.size,5,none⟩):=Eq.trans (hI.val 30 _ 36 rfl rfl (dep_at haf (by kernel_rfl))) rfl;have m0:=(hW.dv).c 5 _ rfl;go_simp;exact ⟨_,rfl,γ,rfl,fun j v _ h=>h,hW.go (by decide) (by decide) (by decide) (Below.refl _ _)⟩
   | 32,_=>
    obtain rfl:=Option.some.inj ho;have e1:a.tmps.getD 35 undef=.string (txt (accP (hdP d) 11)):=Eq.trans (hI.val 29 _ 35 rfl rfl (dep_at haf (by kernel_rfl))) rfl;have e2:a.tmps.getD 37 undef=.string (txt d.sm):=Eq.trans (hI.val 31 _ 37 rfl rfl (dep_at haf (by kernel_rfl))) rfl;have z1:=hz.out 11;have z2:=zp.out (d.sm) (by simp [hdP]);go_simp;rw [if_neg (by omega)];go_simp;exact ⟨_,rfl,γ,(cat_p (k:=11) (ps:=(hdP d)) rfl rfl),fun j v _ h=>h,hW.go (by decide) (by decide) (by decide) (Below.refl _ _)⟩
   | 33,_=>
    obtain rfl:=Option.some.inj ho;have e1:a.tmps.getD 38 undef=.string (txt (accP (hdP d) 12)):=Eq.trans (hI.val 32 _ 38 rfl rfl (dep_at haf (by kernel_rfl))) rfl;have z1:=hz.out 12;go_simp;rw [if_neg (by omega)];go_simp;exact ⟨_,rfl,γ,(cat_p (k:=12) (ps:=(hdP d)) rfl rfl),fun j v _ h=>h,hW.go (by decide) (by decide) (by decide) (Below.refl _ _)⟩
   | 34,_=>
    obtain rfl:=Option.some.inj ho;have e1:a.tmps.getD 39 undef=.string (txt (accP (hdP d) 13)):=Eq.trans (hI.val 33 _ 39 rfl rfl (dep_at haf (by kernel_rfl))) rfl;go_simp;exact ⟨_,rfl,γ,rfl,fun j v _ h=>h,hW.go (by decide) (by decide) (by decide) (Below.refl _ _)⟩
 · intro γ x a z hx hall hI hW;have L0:Hid (Below w1.heap.size w1 z):=hW.low;have ha:=RegI.tmps (V:=t1V w.heap.size d (.slice pv len cap) (.slice pq nq cq) γ) hI (by kernel_rfl) hall;simp only [putsL,t1V,List.setIfInBounds_toArray,List.set_cons_zero,List.set_cons_succ] at ha;subst ha;rw [hdP_all d,th.out];clear hI hW hall hx hx1 hx2 hx3 wst wes wmx ndsz hz zp th
   go_wp2_with fail
   go_loopw [3,4,5] (fun vs vi vf wr=>∃ k:Nat,(k:Int)≤(len:Int)∧vi=.int .i64 (k:Int)∧vs=.string (txt (bytesL ((linesW d).take (5 + k))))∧Hid (Below w1.heap.size w1 wr)) (fun _ vi _ _=>len - (intOf vi).toNat)
   case atStart=>exact ⟨0,by omega,rfl,rfl,L0⟩
   case round=>
    obtain ⟨k,hk,rfl,rfl,Lr⟩:=hrel;clear L0;have m6:=(DD.out.below Lr.out).c 6 _ rfl
    by_cases hlt:(k:Int) < (len:Int)
    · have hkl:k < d.fs.length:=by have:=hlen.out; omega
      have Dr:=DD.out.below Lr.out;rcases Dr.fl with ⟨_,_,_,e⟩ | ⟨g,o,cap',e,_,hin,hg⟩
      · rw [e] at hkl; cases hkl
      · injection e with e1 e2 e3
        subst e1;obtain ⟨f,hf⟩:∃ f,d.fs[k]=f:=⟨_,rfl⟩;obtain ⟨c0,c1,c2,c3,c4,c5,c6,c7,c8⟩:=hin.cells hkl hf;obtain ⟨fw,nx⟩:=fl.out k hkl;rw [hf] at fw nx;have sz1:=tz.out (5 + (k + 1));rw [nx] at sz1;replace nx:Hid (bytesL ((linesW d).take (5 + (k + 1)))=bytesL ((linesW d).take (5 + k)) ++ lineB (fieldW f)):=nx;have F0:Hid (FdB (wr.alloc (.cells #[.string (txt f.nm),.int .i64 f.pl,.string (txt f.kd),.int .i64 f.wd,.int .i64 f.sn,.int .i64 f.sd,.int .i64 f.on,.int .i64 f.od,.string (txt f.un)] 64)) wr.heap.size f):=FdB.new wr f _;have Lf:Hid (Below w1.heap.size w1 (wr.alloc (.cells #[.string (txt f.nm),.int .i64 f.pl,.string (txt f.kd),.int .i64 f.wd,.int .i64 f.sn,.int .i64 f.sd,.int .i64 f.on,.int .i64 f.od,.string (txt f.un)] 64))):=Lr.out.alloc Lr.out.size _;have nfpl:Hid (ShTxC 30 #[.int .i64 f.pl] (textL f.pl)):=fun z=>rnum10_any f.pl z fw.pl
        have nfwd:Hid (ShTxC 30 #[.int .i64 f.wd] (textL f.wd)):=fun z=>rnum10_any f.wd z fw.wd
        have nfsn:Hid (ShTxC 31 #[.int .i64 f.sn] (textL f.sn)):=fun z=>brtext_any f.sn z fw.sn
        have nfsd:Hid (ShTxC 31 #[.int .i64 f.sd] (textL f.sd)):=fun z=>brtext_any f.sd z fw.sd
        have nfon:Hid (ShTxC 31 #[.int .i64 f.on] (textL f.on)):=fun z=>brtext_any f.on z fw.on
        have nfod:Hid (ShTxC 31 #[.int .i64 f.od] (textL f.od)):=fun z=>brtext_any f.od z fw.od
        generalize bytesL ((linesW d).take (5 + k))=acc at *;have eq:Hid ((((((((((((((((((((txt acc ++ ByteArray.mk #[102,105,101,108,100,32]) ++ txt f.nm) ++ ByteArray.mk #[32]) ++ txt (textL f.pl)) ++ ByteArray.mk #[32]) ++ txt f.kd) ++ ByteArray.mk #[32]) ++ txt (textL f.wd)) ++ ByteArray.mk #[32]) ++ txt (textL f.sn)) ++ ByteArray.mk #[47]) ++ txt (textL f.sd)) ++ ByteArray.mk #[32]) ++ txt (textL f.on)) ++ ByteArray.mk #[47]) ++ txt (textL f.od)) ++ ByteArray.mk #[32]) ++ txt f.un) ++ ByteArray.mk #[10])=txt (bytesL ((linesW d).take (5 + (k + 1))))):=by
         unfold Hid;rw [nx.out];apply ByteArray.ext;apply Array.toList_inj.1;simp [ByteArray.data_append,txt,fieldW,lineB,joinW,kFie,ratW]
        have z0:(txt acc).size≤100000:=by rw [txt_size]; rw [List.length_append] at sz1; omega
        have z1:(txt f.nm).size≤5000:=by rw [txt_size]; exact fw.nm
        have z2:(txt f.kd).size≤5000:=by rw [txt_size]; exact fw.kd
        have z3:(txt f.un).size≤5000:=by rw [txt_size]; exact fw.un
        have z4:(txt (textL f.pl)).size≤20:=by rw [txt_size]; exact (textL_len _).2
        have z5:(txt (textL f.wd)).size≤20:=by rw [txt_size]; exact (textL_len _).2
        have z6:(txt (textL f.sn)).size≤20:=by rw [txt_size]; exact (textL_len _).2
        have z7:(txt (textL f.sd)).size≤20:=by rw [txt_size]; exact (textL_len _).2
        have z8:(txt (textL f.on)).size≤20:=by rw [txt_size]; exact (textL_len _).2
        have z9:(txt (textL f.od)).size≤20:=by rw [txt_size]; exact (textL_len _).2
        clear hin hf hkl e2 e3 Dr hg sz1 fw nx
        go_upto_region 6 with fail
        change Code.wp Tryz.prog _ _ _ (wr.alloc (.cells #[.string (txt f.nm),.int .i64 f.pl,.string (txt f.kd),.int .i64 f.wd,.int .i64 f.sn,.int .i64 f.sd,.int .i64 f.on,.int .i64 f.od,.string (txt f.un)] 64));generalize wr.alloc (.cells #[.string (txt f.nm),.int .i64 f.pl,.string (txt f.kd),.int .i64 f.wd,.int .i64 f.sn,.int .i64 f.sd,.int .i64 f.on,.int .i64 f.od,.string (txt f.un)] 64)=w6 at *;generalize wr.heap.size=FB at *;clear c0 c1 c2 c3 c4 c5 c6 c7 c8 m6 Lr;obtain ⟨c0,c1,c2,c3,c4,c5,c6,c7,c8⟩:=F0.out.cells;replace c0:=cell_regrown c0;replace c1:=cell_regrown c1;replace c2:=cell_regrown c2;replace c3:=cell_regrown c3;replace c4:=cell_regrown c4;replace c5:=cell_regrown c5;replace c6:=cell_regrown c6;replace c7:=cell_regrown c7;replace c8:=cell_regrown c8;replace nfpl:Hid (∀ z,Calls Tryz.prog 30 #[.int .i64 f.pl] z fun e y=>e=.returned (.string (txt (textL f.pl)))∧Below z.heap.size z y):=nfpl;replace nfwd:Hid (∀ z,Calls Tryz.prog 30 #[.int .i64 f.wd] z fun e y=>e=.returned (.string (txt (textL f.wd)))∧Below z.heap.size z y):=nfwd;replace nfsn:Hid (∀ z,Calls Tryz.prog 31 #[.int .i64 f.sn] z fun e y=>e=.returned (.string (txt (textL f.sn)))∧Below z.heap.size z y):=nfsn;replace nfsd:Hid (∀ z,Calls Tryz.prog 31 #[.int .i64 f.sd] z fun e y=>e=.returned (.string (txt (textL f.sd)))∧Below z.heap.size z y):=nfsd;replace nfon:Hid (∀ z,Calls Tryz.prog 31 #[.int .i64 f.on] z fun e y=>e=.returned (.string (txt (textL f.on)))∧Below z.heap.size z y):=nfon;replace nfod:Hid (∀ z,Calls Tryz.prog 31 #[.int .i64 f.od] z fun e y=>e=.returned (.string (txt (textL f.od)))∧Below z.heap.size z y):=nfod;clear F0;generalize txt acc=SA at *;generalize txt f.nm=S1 at *;generalize txt f.kd=S2 at *;generalize txt f.un=S3 at *;generalize txt (textL f.pl)=S4 at *;generalize txt (textL f.wd)=S5 at *;generalize txt (textL f.sn)=S6 at *;generalize txt (textL f.sd)=S7 at *;generalize txt (textL f.on)=S8 at *;generalize txt (textL f.od)=S9 at *;refine wp_region_quiet_below (by kernel_rfl) (by kernel_rfl) ?_
        repeat (go_big_quiet_step (first
         | (go_at_call 30; first | with_reducible exact Calls.regrown_of (nfpl.out _) | with_reducible exact Calls.regrown_of (nfwd.out _))
         | (go_at_call 31; first | with_reducible exact Calls.regrown_of (nfsn.out _) | with_reducible exact Calls.regrown_of (nfsd.out _) | with_reducible exact Calls.regrown_of (nfon.out _) | with_reducible exact Calls.regrown_of (nfod.out _))))
        refine wpQuiet_nil ?_;intro _ hw';obtain ⟨⟨dq,osq⟩,hw''⟩:=hw';subst hw'';have L1:Hid (Below w1.heap.size w1 (Sort.grow (redrawn w6 dq) osq)):=Lf.out.trans ((below_regrown w6 dq osq).mono Lf.out.size);generalize Sort.grow (redrawn w6 dq) osq=w7 at *;clear c0 c1 c2 c3 c4 c5 c6 c7 c8 nfpl nfwd nfsn nfsd nfon nfod Lf;rw [eq.out];clear eq z0 z1 z2 z3 z4 z5 z6 z7 z8 z9;go_wp2;exact ⟨⟨k + 1,by omega,by simp,rfl,L1⟩,by simp [intOf]; omega⟩
    · obtain rfl:k=len:=by omega
      have sz1:=tz.out (5 + k);have tt2:=tt.out;rw [hlen.out] at tt2;have tl2:=tl.out;rw [tt2] at tl2;replace tt2:Hid (textD d=bytesL ((linesW d).take (5 + k)) ++ bytesL (tailW d)):=tt2;generalize bytesL ((linesW d).take (5 + k))=acc at *;have hz:Hid (PcZ (tlP acc d)):=pcZ (by rw [tlP_flat]; omega);have zp:Hid (PcP (tlP acc d)):=pcP (by rw [tlP_flat]; omega);have ea:accP (tlP acc d) 1=acc:=List.append_nil acc;have hq:Hid (∀ z,Below wr.heap.size wr z→Calls Tryz.prog 29 #[.slice pq nq cq] z fun e y=>e=.returned (.string (txt (hexW d.rq)))∧Below z.heap.size z y):=fun z hz=>hxq.out z (Lr.out.trans (hz.mono Lr.out.size))
      have DR:Hid (DevB wr w.heap.size d (.slice pv k cap) (.slice pq nq cq)):=DD.out.below Lr.out;clear sz1 tl2 tl tz tt fl hxq DD
      go_upto_region 7 with fail
      clear m6;rw [← ea];clear ea;refine region_props3 (T7P w.heap.size acc d (.slice pq nq cq)) (T7W wr w.heap.size d (.slice pv k cap) (.slice pq nq cq)) 0 (by kernel_rfl) (by kernel_rfl) ?_ ?_ ⟨DR.out.below (Below.refl _ _).drew,(Below.refl _ _).drew⟩
      · intro γ x a z i op ho hI haf hx hxi hW;have hi:i < 28:=(List.getElem?_eq_some_iff.1 ho).1;have xi:=getD_false hxi
        match i,hi with
        | 0,_=>
         obtain rfl:=Option.some.inj ho;have e1:a.tmps.getD 3 undef=.string (txt (accP (tlP acc d) 1)):=(hI.was (by kernel_rfl)).trans rfl;go_simp;exact ⟨_,rfl,γ,rfl,fun j v _ h=>h,hW.go (Below.refl _ _)⟩
        | 1,_=>
         obtain rfl:=Option.some.inj ho;have e1:a.tmps.getD 100 undef=.string (txt (accP (tlP acc d) 1)):=Eq.trans (hI.val 0 _ 100 rfl rfl (dep_at haf (by kernel_rfl))) rfl;have z1:=hz.out 1;go_simp;rw [if_neg (by omega)];go_simp;exact ⟨_,rfl,γ,(cat_p (k:=1) (ps:=(tlP acc d)) rfl rfl),fun j v _ h=>h,hW.go (Below.refl _ _)⟩
        | 2,_=>
         obtain rfl:=Option.some.inj ho;have e1:a.tmps.getD 1 undef=.pointer (some ⟨w.heap.size,0,none⟩):=(hI.was (by kernel_rfl)).trans rfl;go_simp;exact ⟨_,rfl,γ,rfl,fun j v _ h=>h,hW.go (Below.refl _ _)⟩
        | 3,_=>
         obtain rfl:=Option.some.inj ho;have e1:a.tmps.getD 102 undef=.pointer (some ⟨w.heap.size,7,none⟩):=Eq.trans (hI.val 2 _ 102 rfl rfl (dep_at haf (by kernel_rfl))) rfl;have m0:=(hW.dv).c 7 _ rfl;go_simp;exact ⟨_,rfl,γ,rfl,fun j v _ h=>h,hW.go (Below.refl _ _)⟩
        | 4,_=>
         obtain rfl:=Option.some.inj ho;have e1:a.tmps.getD 103 undef=.slice pq nq cq:=Eq.trans (hI.val 3 _ 103 rfl rfl (dep_at haf (by kernel_rfl))) rfl;go_simp;refine (hq.out z hW.low).mono ?_;rintro e z' ⟨rfl,hb⟩;exact ⟨_,rfl,γ,rfl,fun j v _ h=>h,hW.go hb⟩
        | 5,_=>
         obtain rfl:=Option.some.inj ho;have e1:a.tmps.getD 101 undef=.string (txt (accP (tlP acc d) 2)):=Eq.trans (hI.val 1 _ 101 rfl rfl (dep_at haf (by kernel_rfl))) rfl;have e2:a.tmps.getD 104 undef=.string (txt (hexW d.rq)):=Eq.trans (hI.val 4 _ 104 rfl rfl (dep_at haf (by kernel_rfl))) rfl;have z1:=hz.out 2;have z2:=zp.out ((hexW d.rq)) (by simp [tlP]);go_simp;rw [if_neg (by omega)];go_simp;exact ⟨_,rfl,γ,(cat_p (k:=2) (ps:=(tlP acc d)) rfl rfl),fun j v _ h=>h,hW.go (Below.refl _ _)⟩
        | 6,_=>
         obtain rfl:=Option.some.inj ho;have e1:a.tmps.getD 105 undef=.string (txt (accP (tlP acc d) 3)):=Eq.trans (hI.val 5 _ 105 rfl rfl (dep_at haf (by kernel_rfl))) rfl;have z1:=hz.out 3;go_simp;rw [if_neg (by omega)];go_simp;exact ⟨_,rfl,γ,(cat_p (k:=3) (ps:=(tlP acc d)) rfl rfl),fun j v _ h=>h,hW.go (Below.refl _ _)⟩
        | 7,_=>
         obtain rfl:=Option.some.inj ho;have e1:a.tmps.getD 1 undef=.pointer (some ⟨w.heap.size,0,none⟩):=(hI.was (by kernel_rfl)).trans rfl;go_simp;exact ⟨_,rfl,γ,rfl,fun j v _ h=>h,hW.go (Below.refl _ _)⟩
        | 8,_=>
         obtain rfl:=Option.some.inj ho;have e1:a.tmps.getD 107 undef=.pointer (some ⟨w.heap.size,8,none⟩):=Eq.trans (hI.val 7 _ 107 rfl rfl (dep_at haf (by kernel_rfl))) rfl;have m0:=(hW.dv).c 8 _ rfl;go_simp;exact ⟨_,rfl,γ,rfl,fun j v _ h=>h,hW.go (Below.refl _ _)⟩
        | 9,_=>
         obtain rfl:=Option.some.inj ho;have e1:a.tmps.getD 108 undef=.int .i64 d.po:=Eq.trans (hI.val 8 _ 108 rfl rfl (dep_at haf (by kernel_rfl))) rfl;go_simp;refine (ndpo.out z).mono ?_;rintro e z' ⟨rfl,hb⟩;exact ⟨_,rfl,γ,rfl,fun j v _ h=>h,hW.go hb⟩
        | 10,_=>
         obtain rfl:=Option.some.inj ho;have e1:a.tmps.getD 106 undef=.string (txt (accP (tlP acc d) 4)):=Eq.trans (hI.val 6 _ 106 rfl rfl (dep_at haf (by kernel_rfl))) rfl;have e2:a.tmps.getD 109 undef=.string (txt (textL d.po)):=Eq.trans (hI.val 9 _ 109 rfl rfl (dep_at haf (by kernel_rfl))) rfl;have z1:=hz.out 4;have z2:=zp.out ((textL d.po)) (by simp [tlP]);go_simp;rw [if_neg (by omega)];go_simp;exact ⟨_,rfl,γ,(cat_p (k:=4) (ps:=(tlP acc d)) rfl rfl),fun j v _ h=>h,hW.go (Below.refl _ _)⟩
        | 11,_=>
         obtain rfl:=Option.some.inj ho;have e1:a.tmps.getD 110 undef=.string (txt (accP (tlP acc d) 5)):=Eq.trans (hI.val 10 _ 110 rfl rfl (dep_at haf (by kernel_rfl))) rfl;have z1:=hz.out 5;go_simp;rw [if_neg (by omega)];go_simp;exact ⟨_,rfl,γ,(cat_p (k:=5) (ps:=(tlP acc d)) rfl rfl),fun j v _ h=>h,hW.go (Below.refl _ _)⟩
        | 12,_=>
         obtain rfl:=Option.some.inj ho;have e1:a.tmps.getD 1 undef=.pointer (some ⟨w.heap.size,0,none⟩):=(hI.was (by kernel_rfl)).trans rfl;go_simp;exact ⟨_,rfl,γ,rfl,fun j v _ h=>h,hW.go (Below.refl _ _)⟩
        | 13,_=>
         obtain rfl:=Option.some.inj ho;have e1:a.tmps.getD 112 undef=.pointer (some ⟨w.heap.size,9,none⟩):=Eq.trans (hI.val 12 _ 112 rfl rfl (dep_at haf (by kernel_rfl))) rfl;have m0:=(hW.dv).c 9 _ rfl;go_simp;exact ⟨_,rfl,γ,rfl,fun j v _ h=>h,hW.go (Below.refl _ _)⟩
        | 14,_=>
         obtain rfl:=Option.some.inj ho;have e1:a.tmps.getD 113 undef=.int .i64 d.ti:=Eq.trans (hI.val 13 _ 113 rfl rfl (dep_at haf (by kernel_rfl))) rfl;go_simp;refine (ndti.out z).mono ?_;rintro e z' ⟨rfl,hb⟩;exact ⟨_,rfl,γ,rfl,fun j v _ h=>h,hW.go hb⟩
        | 15,_=>
         obtain rfl:=Option.some.inj ho;have e1:a.tmps.getD 111 undef=.string (txt (accP (tlP acc d) 6)):=Eq.trans (hI.val 11 _ 111 rfl rfl (dep_at haf (by kernel_rfl))) rfl;have e2:a.tmps.getD 114 undef=.string (txt (textL d.ti)):=Eq.trans (hI.val 14 _ 114 rfl rfl (dep_at haf (by kernel_rfl))) rfl;have z1:=hz.out 6;have z2:=zp.out ((textL d.ti)) (by simp [tlP]);go_simp;rw [if_neg (by omega)];go_simp;exact ⟨_,rfl,γ,(cat_p (k:=6) (ps:=(tlP acc d)) rfl rfl),fun j v _ h=>h,hW.go (Below.refl _ _)⟩
        | 16,_=>
         obtain rfl:=Option.some.inj ho;have e1:a.tmps.getD 115 undef=.string (txt (accP (tlP acc d) 7)):=Eq.trans (hI.val 15 _ 115 rfl rfl (dep_at haf (by kernel_rfl))) rfl;have z1:=hz.out 7;go_simp;rw [if_neg (by omega)];go_simp;exact ⟨_,rfl,γ,(cat_p (k:=7) (ps:=(tlP acc d)) rfl rfl),fun j v _ h=>h,hW.go (Below.refl _ _)⟩
        | 17,_=>
         obtain rfl:=Option.some.inj ho;have e1:a.tmps.getD 1 undef=.pointer (some ⟨w.heap.size,0,none⟩):=(hI.was (by kernel_rfl)).trans rfl;go_simp;exact ⟨_,rfl,γ,rfl,fun j v _ h=>h,hW.go (Below.refl _ _)⟩
        | 18,_=>
         obtain rfl:=Option.some.inj ho;have e1:a.tmps.getD 117 undef=.pointer (some ⟨w.heap.size,10,none⟩):=Eq.trans (hI.val 17 _ 117 rfl rfl (dep_at haf (by kernel_rfl))) rfl;have m0:=(hW.dv).c 10 _ rfl;go_simp;exact ⟨_,rfl,γ,rfl,fun j v _ h=>h,hW.go (Below.refl _ _)⟩
        | 19,_=>
         obtain rfl:=Option.some.inj ho;have e1:a.tmps.getD 118 undef=.int .i64 d.re:=Eq.trans (hI.val 18 _ 118 rfl rfl (dep_at haf (by kernel_rfl))) rfl;go_simp;refine (ndre.out z).mono ?_;rintro e z' ⟨rfl,hb⟩;exact ⟨_,rfl,γ,rfl,fun j v _ h=>h,hW.go hb⟩
        | 20,_=>
         obtain rfl:=Option.some.inj ho;have e1:a.tmps.getD 116 undef=.string (txt (accP (tlP acc d) 8)):=Eq.trans (hI.val 16 _ 116 rfl rfl (dep_at haf (by kernel_rfl))) rfl;have e2:a.tmps.getD 119 undef=.string (txt (textL d.re)):=Eq.trans (hI.val 19 _ 119 rfl rfl (dep_at haf (by kernel_rfl))) rfl;have z1:=hz.out 8;have z2:=zp.out ((textL d.re)) (by simp [tlP]);go_simp;rw [if_neg (by omega)];go_simp;exact ⟨_,rfl,γ,(cat_p (k:=8) (ps:=(tlP acc d)) rfl rfl),fun j v _ h=>h,hW.go (Below.refl _ _)⟩
        | 21,_=>
         obtain rfl:=Option.some.inj ho;have e1:a.tmps.getD 120 undef=.string (txt (accP (tlP acc d) 9)):=Eq.trans (hI.val 20 _ 120 rfl rfl (dep_at haf (by kernel_rfl))) rfl;have z1:=hz.out 9;go_simp;rw [if_neg (by omega)];go_simp;exact ⟨_,rfl,γ,(cat_p (k:=9) (ps:=(tlP acc d)) rfl rfl),fun j v _ h=>h,hW.go (Below.refl _ _)⟩
        | 22,_=>
         obtain rfl:=Option.some.inj ho;have e1:a.tmps.getD 1 undef=.pointer (some ⟨w.heap.size,0,none⟩):=(hI.was (by kernel_rfl)).trans rfl;go_simp;exact ⟨_,rfl,γ,rfl,fun j v _ h=>h,hW.go (Below.refl _ _)⟩
        | 23,_=>
         obtain rfl:=Option.some.inj ho;have e1:a.tmps.getD 122 undef=.pointer (some ⟨w.heap.size,11,none⟩):=Eq.trans (hI.val 22 _ 122 rfl rfl (dep_at haf (by kernel_rfl))) rfl;have m0:=(hW.dv).c 11 _ rfl;go_simp;exact ⟨_,rfl,γ,rfl,fun j v _ h=>h,hW.go (Below.refl _ _)⟩
        | 24,_=>
         obtain rfl:=Option.some.inj ho;have e1:a.tmps.getD 123 undef=.int .i64 d.ag:=Eq.trans (hI.val 23 _ 123 rfl rfl (dep_at haf (by kernel_rfl))) rfl;go_simp;refine (ndag.out z).mono ?_;rintro e z' ⟨rfl,hb⟩;exact ⟨_,rfl,γ,rfl,fun j v _ h=>h,hW.go hb⟩
        | 25,_=>
         obtain rfl:=Option.some.inj ho;have e1:a.tmps.getD 121 undef=.string (txt (accP (tlP acc d) 10)):=Eq.trans (hI.val 21 _ 121 rfl rfl (dep_at haf (by kernel_rfl))) rfl;have e2:a.tmps.getD 124 undef=.string (txt (textL d.ag)):=Eq.trans (hI.val 24 _ 124 rfl rfl (dep_at haf (by kernel_rfl))) rfl;have z1:=hz.out 10;have z2:=zp.out ((textL d.ag)) (by simp [tlP]);go_simp;rw [if_neg (by omega)];go_simp;exact ⟨_,rfl,γ,(cat_p (k:=10) (ps:=(tlP acc d)) rfl rfl),fun j v _ h=>h,hW.go (Below.refl _ _)⟩
        | 26,_=>
         obtain rfl:=Option.some.inj ho;have e1:a.tmps.getD 125 undef=.string (txt (accP (tlP acc d) 11)):=Eq.trans (hI.val 25 _ 125 rfl rfl (dep_at haf (by kernel_rfl))) rfl;have z1:=hz.out 11;go_simp;rw [if_neg (by omega)];go_simp;exact ⟨_,rfl,γ,(cat_p (k:=11) (ps:=(tlP acc d)) rfl rfl),fun j v _ h=>h,hW.go (Below.refl _ _)⟩
        | 27,_=>
         obtain rfl:=Option.some.inj ho;have e1:a.tmps.getD 126 undef=.string (txt (accP (tlP acc d) 12)):=Eq.trans (hI.val 26 _ 126 rfl rfl (dep_at haf (by kernel_rfl))) rfl;go_simp;exact ⟨_,rfl,γ,rfl,fun j v _ h=>h,hW.go (Below.refl _ _)⟩
      · intro γ x a z hx hall hI hW;have L1:Hid (Below w.heap.size w z):=B0.out.trans ((Lr.out.trans (hW.low.mono Lr.out.size)).mono B0.out.size);have ha:=RegI.tmps (V:=t7V w.heap.size acc d (.slice pq nq cq)) hI (by kernel_rfl) hall;simp only [putsL,t7V,List.setIfInBounds_toArray,List.set_cons_zero,List.set_cons_succ] at ha;subst ha;have eq:Hid (accP (tlP acc d) 12=textD d):=by unfold Hid; rw [tlP_all,tt2.out]
        clear hI hW hall hx hz zp hq DR tt2;go_wp2;go_ret;exact ⟨by rw [← eq.out]; rfl,L1.out⟩
def fewF (f:Fd):Bool:=decide (((txt f.nm).size:Int)≤50) && (decide (((txt f.kd).size:Int)≤50) && decide (((txt f.un).size:Int)≤50))
def fewD (d:Dv):Bool:=(decide (((txt d.nm).size:Int)≤50) && (decide (((txt d.sm).size:Int)≤50) && (decide ((d.rq.length:Int)≤100) && decide ((d.fs.length:Int)≤20)))) && d.fs.all fewF
def oneI (b:Bool):Int:=if b=true then 1 else 0
def FwF (l:List Fd) (T:Bool):Prop:=l.all fewF=T
theorem FwF.fin {T:Bool} (h:FwF [] T):true=T:=h
theorem FwF.no {f:Fd} {l:List Fd} {T:Bool} (h:FwF (f :: l) T) (hf:fewF f=false):false=T:=by unfold FwF at h; rw [← h,List.all_cons,hf]; rfl
theorem FwF.yes {f:Fd} {l:List Fd} {T:Bool} (h:FwF (f :: l) T) (hf:fewF f=true):FwF l T:=by unfold FwF at *; rw [← h,List.all_cons,hf]; rfl
theorem ret_one {b:Bool} {n:Int} {T:Bool} (hb:b=T) (hn:n=oneI b):Ending.returned (.int .i64 n)=.returned (.int .i64 (oneI T)):=by rw [hn,hb]
theorem few_head {d:Dv} (h:¬ (((txt d.nm).size:Int)≤50∧((txt d.sm).size:Int)≤50∧(d.rq.length:Int)≤100∧(d.fs.length:Int)≤20)):fewD d=false:=by
 unfold fewD;have:(decide (((txt d.nm).size:Int)≤50) && (decide (((txt d.sm).size:Int)≤50) && (decide ((d.rq.length:Int)≤100) && decide ((d.fs.length:Int)≤20))))=false:=by
  rw [Bool.eq_false_iff];intro c;simp only [Bool.and_eq_true,decide_eq_true_eq] at c;exact h c
 rw [this]; rfl
theorem few_tail {d:Dv} (h1:((txt d.nm).size:Int)≤50) (h2:((txt d.sm).size:Int)≤50) (h3:(d.rq.length:Int)≤100) (h4:(d.fs.length:Int)≤20):fewD d=d.fs.all fewF:=by
 unfold fewD;rw [decide_eq_true h1,decide_eq_true h2,decide_eq_true h3,decide_eq_true h4]; rfl
theorem few_bdS {d:Dv} (h:fewD d=true):((txt d.nm).size:Int)≤50∧((txt d.sm).size:Int)≤50∧(d.rq.length:Int)≤100∧(d.fs.length:Int)≤20∧∀ f ∈ d.fs,((txt f.nm).size:Int)≤50∧((txt f.kd).size:Int)≤50∧((txt f.un).size:Int)≤50:=by
 unfold fewD at h;simp only [Bool.and_eq_true,decide_eq_true_eq] at h;obtain ⟨⟨h1,h2,h3,h4⟩,h5⟩:=h;refine ⟨h1,h2,h3,h4,fun f hf=>?_⟩;have k:=List.all_eq_true.1 h5 f hf;unfold fewF at k
 simpa only [Bool.and_eq_true,decide_eq_true_eq] using k
theorem fewd_any (d:Dv) (fv:Value) (pq:Option Addr) (nq cq:Nat) (w:World) (hq:d.rq.length=nq) (hfv:FldsV w fv d.fs):Calls Tryz.prog 9 #[dvV d fv (.slice pq nq cq)] w (QA w (oneI (fewD d))):=by
 have D:Hid (DevB (w.alloc (.cells #[.string (txt d.nm),.int .i64 d.st,.int .i64 d.es,.int .i64 d.mx,.int .i64 d.sz,.string (txt d.sm),fv,.slice pq nq cq,.int .i64 d.po,.int .i64 d.ti,.int .i64 d.re,.int .i64 d.ag] 25)) w.heap.size d fv (.slice pq nq cq)):=DevB.new hfv _;have B:Hid (Below w.heap.size w (w.alloc (.cells #[.string (txt d.nm),.int .i64 d.st,.int .i64 d.es,.int .i64 d.mx,.int .i64 d.sz,.string (txt d.sm),fv,.slice pq nq cq,.int .i64 d.po,.int .i64 d.ti,.int .i64 d.re,.int .i64 d.ag] 25))):=(Below.refl _ _).alloc (Nat.le_refl _) _;obtain ⟨pv,cap,rfl⟩:=hfv.form;have b0:(w.alloc (.cells #[.string (txt d.nm),.int .i64 d.st,.int .i64 d.es,.int .i64 d.mx,.int .i64 d.sz,.string (txt d.sm),(.slice pv d.fs.length cap),.slice pq nq cq,.int .i64 d.po,.int .i64 d.ti,.int .i64 d.re,.int .i64 d.ag] 25)).heap[w.heap.size]?=some (.cells #[.string (txt d.nm),.int .i64 d.st,.int .i64 d.es,.int .i64 d.mx,.int .i64 d.sz,.string (txt d.sm),(.slice pv d.fs.length cap),.slice pq nq cq,.int .i64 d.po,.int .i64 d.ti,.int .i64 d.re,.int .i64 d.ag] 25):=World.alloc_heap_new w _;clear hfv;obtain ⟨len,hlen⟩:∃ len,d.fs.length=len:=⟨_,rfl⟩;rw [hlen] at D B b0 ⊢
 by_cases q0:((txt d.nm).size:Int)≤50
 · by_cases q1:((txt d.sm).size:Int)≤50
   · by_cases q2:(nq:Int)≤100
     · by_cases q3:(len:Int)≤20
       · have e1:=few_tail q0 q1 (by rw [hq]; exact q2) (by rw [hlen]; exact q3);rw [e1];have I0:Hid (FwF (d.fs.drop 0) (d.fs.all fewF)):=rfl;generalize d.fs.all fewF=T at *;replace hlen:Hid (d.fs.length=len):=hlen;clear hq e1 b0;have z6:=D.out.c 6 _ rfl;have fl:Hid (FldsV (w.alloc (.cells #[.string (txt d.nm),.int .i64 d.st,.int .i64 d.es,.int .i64 d.mx,.int .i64 d.sz,.string (txt d.sm),(.slice pv len cap),.slice pq nq cq,.int .i64 d.po,.int .i64 d.ti,.int .i64 d.re,.int .i64 d.ag] 25)) (.slice pv len cap) d.fs):=D.out.fl;clear D;unfold dvV;generalize txt d.nm=S1 at *;generalize txt d.sm=S2 at *
         go_enter Tryz.func9,Tryz.ntmps9
         go_wp2
         go_loop [3] (fun vi=>∃ k:Nat,(k:Int)≤(len:Int)∧vi=.int .i64 (k:Int)∧Hid (FwF (d.fs.drop k) T)) (fun vi=>len - (intOf vi).toNat)
         case atStart=>exact ⟨0,by omega,rfl,I0⟩
         case round=>
          obtain ⟨k,hk,rfl,lf⟩:=hrel;clear I0
          by_cases hlt:(k:Int) < (len:Int)
          · have hkl:k < d.fs.length:=by have:=hlen.out; omega
            rcases fl.out with ⟨_,_,_,e⟩ | ⟨g,o,cap',e,_,hin,_⟩
            · rw [e] at hkl; cases hkl
            · injection e with e1 e2 e3
              subst e1;obtain ⟨f,hf⟩:∃ f,d.fs[k]=f:=⟨_,rfl⟩;obtain ⟨c0,c1,c2,c3,c4,c5,c6,c7,c8⟩:=hin.cells hkl hf;have lq:=lf.out;rw [List.drop_eq_getElem_cons hkl,hf] at lq;clear lf hin hf e2 e3 hkl fl
              by_cases r0:((txt f.nm).size:Int)≤50
              · by_cases r1:((txt f.kd).size:Int)≤50
                · by_cases r2:((txt f.un).size:Int)≤50
                  · have nx:Hid (FwF (d.fs.drop (k + 1)) T):=lq.yes (by unfold fewF; rw [decide_eq_true r0,decide_eq_true r1,decide_eq_true r2]; rfl);clear lq;generalize txt f.nm=N1 at *;generalize txt f.kd=N2 at *;generalize txt f.un=N3 at *;go_wp2;exact ⟨⟨k + 1,by omega,by simp,nx⟩,by simp [intOf]; omega⟩
                  · have fin:Hid (false=T):=lq.no (by unfold fewF; rw [decide_eq_false r2]; simp);clear lq;generalize txt f.nm=N1 at *;generalize txt f.kd=N2 at *;generalize txt f.un=N3 at *;go_wp2;go_ret;exact ⟨ret_one fin.out rfl,B.out⟩
                · have fin:Hid (false=T):=lq.no (by unfold fewF; rw [decide_eq_false r1]; simp);clear lq;generalize txt f.nm=N1 at *;generalize txt f.kd=N2 at *;generalize txt f.un=N3 at *;go_wp2;go_ret;exact ⟨ret_one fin.out rfl,B.out⟩
              · have fin:Hid (false=T):=lq.no (by unfold fewF; rw [decide_eq_false r0]; simp);clear lq;generalize txt f.nm=N1 at *;generalize txt f.kd=N2 at *;generalize txt f.un=N3 at *;go_wp2;go_ret;exact ⟨ret_one fin.out rfl,B.out⟩
          · obtain rfl:k=len:=by omega
            have fin:Hid (true=T):=by
             have lq:=lf.out;rw [List.drop_of_length_le (by have:=hlen.out; omega)] at lq;exact lq.fin
            clear lf fl;go_wp2;go_ret;exact ⟨ret_one fin.out rfl,B.out⟩
       · have e1:=few_head (d:=d) (fun h=>by rw [hq,hlen] at h; exact q3 h.2.2.2);rw [e1];clear D hq hlen e1;unfold dvV;generalize txt d.nm=S1 at *;generalize txt d.sm=S2 at *
         go_enter Tryz.func9,Tryz.ntmps9
         go_wp2;go_ret;exact ⟨rfl,B.out⟩
     · have e1:=few_head (d:=d) (fun h=>by rw [hq,hlen] at h; exact q2 h.2.2.1);rw [e1];clear D hq hlen e1;unfold dvV;generalize txt d.nm=S1 at *;generalize txt d.sm=S2 at *
       go_enter Tryz.func9,Tryz.ntmps9
       go_wp2;go_ret;exact ⟨rfl,B.out⟩
   · have e1:=few_head (d:=d) (fun h=>by rw [hq,hlen] at h; exact q1 h.2.1);rw [e1];clear D hq hlen e1;unfold dvV;generalize txt d.nm=S1 at *;generalize txt d.sm=S2 at *
     go_enter Tryz.func9,Tryz.ntmps9
     go_wp2;go_ret;exact ⟨rfl,B.out⟩
 · have e1:=few_head (d:=d) (fun h=>by rw [hq,hlen] at h; exact q0 h.1);rw [e1];clear D hq hlen e1;unfold dvV;generalize txt d.nm=S1 at *;generalize txt d.sm=S2 at *
   go_enter Tryz.func9,Tryz.ntmps9
   go_wp2;go_ret;exact ⟨rfl,B.out⟩
end Go.Proofs.YthabffjgdhfbmaaGreatDoor
