/-
  Texts that belong together, one behind the other: ShBld, ShHex, DsBk1. Conditions: as each says.
-/
import Derived.Below
import Derived.BigQuiet
import Derived.BigRegion
import Derived.ChangeOld
import Derived.Deep.CutRange
import Derived.Deep.QuietTactic
import Derived.Deep.RegionHeld3
import Derived.Deep.RegionWith
import Derived.Handy
import Derived.Laws.BitsAllLaws
import Derived.Laws.OwnMore
import Derived.Laws.Shifts
import Derived.Laws.Tables
import Derived.Lib.QuietBelowIn
import Derived.Maps.AppendAt
import Derived.OpenShut
import Derived.OwnWalk
import Derived.ProofKit
import Derived.RangeFuncBox
import Derived.RangeFuncCalls
import Derived.ShutString
import Derived.Sort.BigQuietIn
import Derived.Test.YthabffjgdhfbmaaGreatDoorProg
import Derived.WalkKit
import Derived.WalkLawsBesides
import Derived.WalkSpells
import Derived.Test.YthabffjgdhfbmaaGreatDoorJb1
import Derived.Test.YthabffjgdhfbmaaGreatDoorJb2
import Derived.Test.YthabffjgdhfbmaaGreatDoorJb3
import Derived.Test.YthabffjgdhfbmaaGreatDoorJb4
import Derived.Test.YthabffjgdhfbmaaGreatDoorJb5
import Derived.Test.YthabffjgdhfbmaaGreatDoorJb6
import Derived.Test.YthabffjgdhfbmaaGreatDoorJb7
import Derived.Test.YthabffjgdhfbmaaGreatDoorJb8
import Derived.Test.YthabffjgdhfbmaaGreatDoorJb9
set_option maxRecDepth 100000
set_option maxHeartbeats 32000000
set_option linter.unusedVariables false
namespace Go.Proofs.YthabffjgdhfbmaaGreatDoor
open Go.RowKit
theorem lays166:Lays.n166 Tryz.prog lays156_ren:={ lays156 with }
theorem lays169:Lays.n169 Tryz.prog lays156_ren:={ lays156 with }
theorem lays167:Lays.n167 Tryz.prog lays156_ren:={ lays156 with f167:=Tryz.func87.trans (congrArg some (by kernel_rfl)),t5:=Tryz.underlying5,a5:=Tryz.isAgg5,z5:=Tryz.sizeOf5,v5:=Tryz.zeroValue5 }
theorem bxt:Builder.Extra Tryz.prog lays156_ren:={
 sizeBuilder:=by kernel_rfl
 liesBuilder:=by kernel_rfl
 t5:=Tryz.underlying5
 a5:=Tryz.isAgg5
 z5:=Tryz.sizeOf5
 v5:=Tryz.zeroValue5
 infoByte:=by kernel_rfl
 cellsByte:=by kernel_rfl
 sizeByte:=by kernel_rfl
 neB5:=by decide }
def BldAt (B b:Nat) (l:List UInt8) (w:World):Prop:=Lib.IsBuilder 82 5 B b (Lib.byteCells l) w∧B≤w.heap.size
theorem builder_below {T e:TypeId} {B b:Nat} {p:Value} {bs:List Value} {w x:World} (h:Lib.BuilderAt T e B b p bs w) (hb:Below w.heap.size w x):Lib.BuilderAt T e B b p bs x:=by
 obtain ⟨h1,v,h2,h3,h4⟩:=h;exact ⟨h1,v,(hb.block _ (Array.getElem?_eq_some_iff.1 h2).1).trans h2,own_below h3 hb,h4⟩
theorem BldAt.below {B b:Nat} {l:List UInt8} {w x:World} (h:BldAt B b l w) (hb:Below w.heap.size w x):BldAt B b l x:=
 ⟨h.1.imp (fun k=>builder_below k hb) (fun k=>builder_below k hb),Nat.le_trans h.2 hb.size⟩
theorem BldAt.new (w:World):BldAt w.heap.size w.heap.size [] (w.alloc (.cells #[.pointer none,.slice none 0 0] 82)):=
 ⟨Lib.fresh_isBuilder _ _ w,by rw [World.size_alloc]; omega⟩
theorem cells_app (l m:List UInt8):Lib.byteCells l ++ Lib.byteCells m=Lib.byteCells (l ++ m):=by unfold Lib.byteCells; simp
theorem bws_any (B b:Nat) (l:List UInt8) (s:ByteArray) (w:World) (h:BldAt B b l w) (hl:l.length≤1000000000) (hs:s.size≤1000000000) :
 Calls Tryz.prog 36 #[.pointer (some ⟨b,0,none⟩),.string s] w fun e y=>e=.returned (.tuple #[.int .i64 (s.size:Int),.nilIface])∧BldAt B b (l ++ s.data.toList) y∧Below B w y:=by
 refine (Any.Builder_WriteString lays166 bxt B b (Lib.byteCells l) s w h.1 (by rw [Lib.byteCells_length]; omega) h.2).mono ?_;rintro e y ⟨rfl,h1,h2⟩;refine ⟨rfl,⟨.inr ?_,Nat.le_trans h.2 h2.size⟩,h2⟩;rw [← cells_app];exact h1
theorem bwb_any (B b:Nat) (l:List UInt8) (c:UInt8) (w:World) (h:BldAt B b l w) (hl:l.length≤1000000000) :
 Calls Tryz.prog 87 #[.pointer (some ⟨b,0,none⟩),.int .u8 (c.toNat:Int)] w fun e y=>e=.returned .nilIface∧BldAt B b (l ++ [c]) y∧Below B w y:=by
 refine (Any.Builder_WriteByte lays167 bxt B b (Lib.byteCells l) (c.toNat:Int) w h.1 (by rw [Lib.byteCells_length]; omega) h.2).mono ?_;rintro e y ⟨rfl,h1,h2⟩;refine ⟨rfl,⟨.inr ?_,Nat.le_trans h.2 h2.size⟩,h2⟩;rw [← cells_app];exact h1
theorem bst_any (B b:Nat) (l:List UInt8) (w:World) (h:BldAt B b l w):Calls Tryz.prog 37 #[.pointer (some ⟨b,0,none⟩)] w fun e y=>e=.returned (.string (txt l))∧Below B w y:=
 Any.Builder_String_any lays169 bxt B b l w h.1 h.2
theorem joinW_eq (ws:List Wd):joinW ws=Lib.join ws [32]:=by
 cases ws with
 | nil=>rfl
 | cons x r=>rw [Lib.join_cons]; rfl
theorem join_len (M:Nat) (r:List Wd):(∀ x ∈ r,x.length≤M)→(r.flatMap fun x=>(32:UInt8) :: x).length≤(M + 1) * r.length:=by
 induction r with
 | nil=>intro _; simp
 | cons x r ih=>
  intro h;have h1:=h x (by simp);have h2:=ih fun y hy=>h y (by simp [hy])
  rw [List.flatMap_cons,List.length_append,List.length_cons,List.length_cons,Nat.mul_succ];omega
theorem sjoin_any (ws:List Wd) (g o c:Nat) (w:World) (hi:StrsIn w g o ws) (hg:g < w.heap.size) (hc:ws.length≤c) (hn:ws.length≤20) (hl:∀ x ∈ ws,x.length≤10000) :
 Calls Tryz.prog 86 #[.slice (some ⟨g,o,none⟩) ws.length c,.string ⟨#[32]⟩] w fun e y=>e=.returned (.string (txt (joinW ws)))∧Below w.heap.size w y:=by
 have hlen:(Lib.join ((ws.map txt).map (·.data.toList)) (ByteArray.mk #[32]).data.toList).length≤140737488355328:=by
  have e:(ws.map txt).map (·.data.toList)=ws:=by rw [List.map_map]; exact List.map_id _
  rw [e];show (Lib.join ws [32]).length≤_;rw [← joinW_eq]
  cases ws with
  | nil=>simp [joinW]
  | cons x r=>
   have h1:=hl x (by simp);have h2:=join_len 10000 r fun y hy=>hl y (by simp [hy])
   rw [List.length_cons] at hn;have h3:10001 * r.length≤10001 * 20:=Nat.mul_le_mul_left _ (by omega);unfold joinW;rw [List.length_append];omega
 have k:=Any.strings_Join lays156 bxt g o c (ws.map txt) ⟨#[32]⟩ w (fun j x hx=>by
  rw [List.getElem?_map] at hx;obtain ⟨z,hz,rfl⟩:=Option.map_eq_some_iff.1 hx;obtain ⟨hj,hz⟩:=List.getElem?_eq_some_iff.1 hz;rw [← hz];exact hi j hj) hg (by rw [List.length_map]; omega) (by rw [List.length_map]; exact hc) hlen
 rw [List.length_map] at k;have e:(ws.map txt).map (·.data.toList)=ws:=by rw [List.map_map]; exact List.map_id _
 rw [e] at k;refine k.mono ?_;rintro e y ⟨rfl,hb⟩;refine ⟨?_,hb⟩;show Ending.returned (.string ⟨(Lib.join ws [32]).toArray⟩)=_;rw [← joinW_eq];rfl
theorem strs_below {x y:World} {g o:Nat} {ws:List Wd} (h:StrsIn x g o ws) (hg:g < x.heap.size) (hb:Below x.heap.size x y):StrsIn y g o ws:=fun j hj=>(hb.cell (p:=⟨g,o + j,none⟩) hg).trans (h j hj)
theorem line_len {ws:List Wd} (hn:ws.length≤20) (hl:∀ x ∈ ws,x.length≤10000):(joinW ws).length≤300000:=by
 cases ws with
 | nil=>simp [joinW]
 | cons x r=>
  have h1:=hl x (by simp);have h2:=join_len 10000 r fun y hy=>hl y (by simp [hy])
  rw [List.length_cons] at hn;have h3:10001 * r.length≤10001 * 20:=Nat.mul_le_mul_left _ (by omega);unfold joinW;rw [List.length_append];omega
theorem shline_any (ws:List Wd) (g o c:Nat) (w:World) (hi:StrsIn w g o ws) (hg:g < w.heap.size) (hc:ws.length≤c) (hn:ws.length≤20) (hl:∀ x ∈ ws,x.length≤10000) :
 Calls Tryz.prog 55 #[.slice (some ⟨g,o,none⟩) ws.length c] w fun e y=>e=.returned (.string (txt (lineB ws)))∧Below w.heap.size w y:=by
 have jn:Hid (Calls Tryz.prog 86 #[.slice (some ⟨g,o,none⟩) ws.length c,.string ⟨#[32]⟩] w fun e y=>e=.returned (.string (txt (joinW ws)))∧Below w.heap.size w y):=sjoin_any ws g o c w hi hg hc hn hl;have ll:((txt (joinW ws)).size:Int)≤300000:=by rw [txt_size]; have:=line_len hn hl; omega
 have el:Hid (txt (joinW ws) ++ ⟨#[10]⟩=txt (lineB ws)):=by
  apply ByteArray.ext;apply Array.toList_inj.1;simp [ByteArray.data_append,txt,lineB]
 clear hi hc hn hl;generalize txt (joinW ws)=S at *;generalize txt (lineB ws)=R at *;generalize ws.length=n at *
 go_enter Tryz.func55,Tryz.ntmps55
 go_wp2_with fail
 refine jn.out.mono ?_;rintro e y ⟨rfl,hb⟩;replace hb:Hid (Below w.heap.size w y):=hb;clear jn;go_wp2;go_ret;exact ⟨by rw [el.out]; rfl,hb.out⟩
theorem shnum_any (a:Int) (w:World) (ha:-9223372036854775808≤a∧a≤9223372036854775807) :
 Calls Tryz.prog 57 #[.int .i64 a] w fun e y=>e=.returned (.string (txt (textL a)))∧Below w.heap.size w y:=by
 have bt:Hid (Calls Tryz.prog 88 #[.int .i64 a] w fun e y=>e=.returned (.string ⟨(textL a).toArray⟩)∧Below w.heap.size w y):=btext_any a w ha;unfold txt;generalize (textL a).toArray=S at *
 go_enter Tryz.func57,Tryz.ntmps57
 go_wp2_with fail
 refine bt.out.mono ?_;rintro e y ⟨rfl,hb⟩;replace hb:Hid (Below w.heap.size w y):=hb;clear bt;go_wp2;go_ret;exact ⟨rfl,hb.out⟩
theorem hexW_app (a b:List Nat):hexW (a ++ b)=hexW a ++ hexW b:=by
 induction a with
 | nil=>rfl
 | cons x a ih=>simp only [List.cons_append,hexW,ih]
theorem hexW_next {bs:List Nat} {k c:Nat} (hk:k < bs.length) (hc:bs[k]=c):hexW (bs.take (k + 1))=(hexW (bs.take k) ++ [hexD (c / 16)]) ++ [hexD (c % 16)]:=by
 rw [← List.take_append_getElem hk,hc,hexW_app,List.append_assoc];rfl
abbrev hexS:ByteArray:=⟨#[48,49,50,51,52,53,54,55,56,57,97,98,99,100,101,102]⟩
theorem hexS_atF:∀ n:Fin 16,hexS[n.1]'n.2=hexD n.1:=by decide +kernel
theorem hexS_at {n:Nat} (h:n < 16) (hq:n < hexS.size):hexS[n]'hq=hexD n:=hexS_atF ⟨n,h⟩
theorem shhex_any (bs:List Nat) (v:Value) (w:World) (hv:BytesAt w v bs) (ha:AllBytes bs) (hn:(bs.length:Int)≤100) :
 Calls Tryz.prog 56 #[v] w fun e y=>e=.returned (.string (txt (hexW bs)))∧Below w.heap.size w y:=by
 obtain ⟨p,cap,rfl⟩:∃ p cap,v=.slice p bs.length cap:=by
  rcases hv with ⟨h1,h2⟩ | ⟨g,o,cap,h,_⟩
  · exact ⟨none,0,by rw [h1,h2]; rfl⟩
  · exact ⟨_,_,h⟩
 obtain ⟨len,hlen⟩:∃ len,bs.length=len:=⟨_,rfl⟩;rw [hlen] at hv hn ⊢;replace hlen:Hid (bs.length=len):=hlen;replace hv:Hid (BytesAt w (.slice p len cap) bs):=hv;replace ha:Hid (AllBytes bs):=ha;have b0:Hid (Below w.heap.size w (w.alloc (.cells #[.pointer none,.slice none 0 0] 82))):=(Below.refl _ _).alloc (Nat.le_refl _) _;have d0:Hid (BldAt w.heap.size w.heap.size (hexW (bs.take 0)) (w.alloc (.cells #[.pointer none,.slice none 0 0] 82))):=BldAt.new w
 go_enter Tryz.func56,Tryz.ntmps56
 go_wp2
 go_loopw [5,8] (fun vb vi wr=>∃ k:Nat,(k:Int)≤(len:Int)∧vi=.int .i64 (k:Int)∧Hid (BldAt w.heap.size w.heap.size (hexW (bs.take k)) wr)∧Hid (Below w.heap.size w wr)) (fun vb vi _=>len - (intOf vi).toNat)
 case atStart=>exact ⟨0,by omega,rfl,d0,b0⟩
 case round=>
  obtain ⟨k,hk,rfl,dr,br⟩:=hrel;clear d0 b0
  by_cases hlt:(k:Int) < (len:Int)
  · have hkl:k < bs.length:=by have:=hlen.out; omega
    rcases hv.out with ⟨_,e⟩ | ⟨g,o,cap',e,hin,hg⟩
    · rw [e] at hkl; cases hkl
    · injection e with e1 e2 e3
      subst e1;have c0:=hin.at hg br.out k hkl;have hc:=ha.out bs[k] (List.getElem_mem hkl);obtain ⟨c,hcc⟩:∃ c,bs[k]=c:=⟨_,rfl⟩;rw [hcc] at c0 hc;clear hin e2 e3;have nx:=hexW_next hkl hcc;have kl:Hid (k + 1≤100):=by unfold Hid; omega
      have hl:Hid ((hexW (bs.take k)).length≤200):=by unfold Hid; rw [hexW_len,List.length_take]; omega
      replace nx:Hid (hexW (bs.take (k + 1))=(hexW (bs.take k) ++ [hexD (c / 16)]) ++ [hexD (c % 16)]):=nx;replace hc:Hid (c < 256):=hc;have hcI:(c:Int) < 256:=by have:=hc.out; omega
      clear hcc hkl
      go_wp2_with fail
      refine (bwb_any _ _ _ _ wr dr.out (by have:=hl.out; omega)).mono ?_;rw [hexS_at (by have:=hc.out; omega)];rintro e y ⟨rfl,dy,by1⟩;have B1:Hid (Below w.heap.size w y):=br.out.trans by1;replace dy:Hid (BldAt w.heap.size w.heap.size (hexW (bs.take k) ++ [hexD (c / 16)]) y):=dy;clear dr br by1 c0
      go_wp2_with fail
      refine (bwb_any _ _ _ _ y dy.out (by have:=hl.out; rw [List.length_append,List.length_singleton]; omega)).mono ?_;rw [hexS_at (by have:=hc.out; omega)];rintro e z ⟨rfl,dz,bz⟩;have B2:Hid (Below w.heap.size w z):=B1.out.trans bz;rw [← nx.out] at dz;replace dz:Hid (BldAt w.heap.size w.heap.size (hexW (bs.take (k + 1))) z):=dz;clear dy B1 bz nx hl hc;go_wp2;exact ⟨⟨k + 1,by omega,by simp,dz,B2⟩,by simp [intOf]; omega⟩
  · obtain rfl:k=len:=by omega
    have st:Hid (Calls Tryz.prog 37 #[.pointer (some ⟨w.heap.size,0,none⟩)] wr fun e y=>e=.returned (.string (txt (hexW bs)))∧Below w.heap.size wr y):=by
     have h:=dr.out;rw [List.take_of_length_le (by have:=hlen.out; omega)] at h;exact bst_any _ _ _ wr h
    go_wp2_with fail
    refine st.out.mono ?_;rintro e y ⟨rfl,hy⟩;have B1:Hid (Below w.heap.size w y):=br.out.trans hy;clear st hy;go_wp2;go_ret;exact ⟨rfl,B1.out⟩
def isDev (r:Lr):Bool:=
 match r.2 with
 | []=>false
 | f :: _=>decide (f=kDev)
structure BkR (rs:List Lr) (bs:List (List Lr)):Prop where
 flat:bs.flatten=rs
 ne:∀ b ∈ bs,b ≠ []
 tl:∀ b ∈ bs,∀ r ∈ b.tail,isDev r=false
 hd:∀ b ∈ bs.tail,∀ r ∈ b.head?,isDev r=true
theorem BkR.nil:BkR [] []:=⟨rfl,fun b h=>(by cases h),fun b h=>(by cases h),fun b h=>(by cases h)⟩
theorem BkR.new {rs:List Lr} {bs:List (List Lr)} (h:BkR rs bs) {r:Lr} (hr:bs=[] ∨ isDev r=true):BkR (rs ++ [r]) (bs ++ [ [r] ]):=by
 refine ⟨by rw [List.flatten_append,h.flat]; simp,fun b hb=>?_,fun b hb=>?_,fun b hb=>?_⟩
 · rcases List.mem_append.1 hb with hb | hb
   · exact h.ne b hb
   · rw [List.mem_singleton.1 hb]; simp
 · rcases List.mem_append.1 hb with hb | hb
   · exact h.tl b hb
   · rw [List.mem_singleton.1 hb]; intro q hq; cases hq
 · cases bs with
   | nil=>cases hb
   | cons c bs=>
    rcases List.mem_append.1 hb with hb | hb
    · exact h.hd b hb
    · rw [List.mem_singleton.1 hb];intro q hq;have e:r=q:=by simpa using hq
      subst e;exact hr.resolve_left (by simp)
theorem BkR.old {rs:List Lr} {bs:List (List Lr)} {c:List Lr} (h:BkR rs (bs ++ [c])) {r:Lr} (hr:isDev r=false):BkR (rs ++ [r]) (bs ++ [c ++ [r]]):=by
 have hc:c ≠ []:=h.ne c (by simp);refine ⟨by rw [← h.flat]; simp,fun b hb=>?_,fun b hb=>?_,fun b hb=>?_⟩
 · rcases List.mem_append.1 hb with hb | hb
   · exact h.ne b (by simp [hb])
   · rw [List.mem_singleton.1 hb]; simp
 · rcases List.mem_append.1 hb with hb | hb
   · exact h.tl b (by simp [hb])
   · rw [List.mem_singleton.1 hb];intro q hq;rw [List.tail_append_of_ne_nil hc] at hq;rcases List.mem_append.1 hq with hq | hq
     · exact h.tl c (by simp) q hq
     · rw [List.mem_singleton.1 hq]; exact hr
 · cases bs with
   | nil=>cases hb
   | cons d bs=>
    rcases List.mem_append.1 hb with hb | hb
    · exact h.hd b (by simp [hb])
    · rw [List.mem_singleton.1 hb];intro q hq;have e:(c ++ [r]).head?=c.head?:=by
       cases c with
       | nil=>exact absurd rfl hc
       | cons a c=>rfl
      rw [e] at hq;exact h.hd c (by simp) q hq
abbrev outR (cs:List (List Rn)):List (List Lr):=cs.map fun c=>c.map (·.1)
theorem BkR.some {rs:List Lr} {cs:List (List Rn)} (h:BkR rs (outR cs)) (hr:rs ≠ []):cs ≠ []:=by
 intro e;subst e;exact hr h.flat.symm
structure BkG where
 p:Option Addr
 c:Nat
 b:Nat
 g:Nat
 cap:Nat
def bkV (go K capo N rb:Nat) (u:Value) (ln:Int) (pu:Option Addr) (m cu n:Nat) (γ:BkG):Nat→Value
 | 0=>.slice (some ⟨go,0,none⟩) N capo
 | 1=>.int .i64 (K:Int)
 | 2=>.slice (some ⟨go,0,none⟩) N capo
 | 3=>.int .i64 (K:Int)
 | 4=>.pointer (some ⟨go,K,none⟩)
 | 5=>u
 | 6=>.pointer (some ⟨rb,0,none⟩)
 | 7=>.int .i64 ln
 | 8=>.pointer (some ⟨rb,1,none⟩)
 | 9=>.slice pu m cu
 | 10=>.slice γ.p m γ.c
 | 11=>.agg #[.int .i64 ln,.slice γ.p m γ.c]
 | 12=>.slice (some ⟨γ.b,0,none⟩) 1 1
 | 13=>.slice (some ⟨γ.g,0,none⟩) (n + 1) γ.cap
 | 14=>.pointer (some ⟨go,K,none⟩)
 | _=>undef
def BkP (go K capo N rb:Nat) (u:Value) (ln:Int) (pu:Option Addr) (m cu n:Nat) (γ:BkG) (i:Nat) (v:Value):Prop:=v=bkV go K capo N rb u ln pu m cu n γ i
theorem bkV_pc {go K capo N rb:Nat} {u:Value} {ln:Int} {pu:Option Addr} {m cu n:Nat} {γ:BkG} {p:Option Addr} {c:Nat} {j:Nat} (h1:j ≠ 10) (h2:j ≠ 11):bkV go K capo N rb u ln pu m cu n γ j=bkV go K capo N rb u ln pu m cu n ⟨p,c,γ.b,γ.g,γ.cap⟩ j:=by
 unfold bkV
 split <;> first | rfl | (exact absurd rfl h1) | (exact absurd rfl h2)
theorem bkV_b {go K capo N rb:Nat} {u:Value} {ln:Int} {pu:Option Addr} {m cu n:Nat} {γ:BkG} {b:Nat} {j:Nat} (h1:j ≠ 12):bkV go K capo N rb u ln pu m cu n γ j=bkV go K capo N rb u ln pu m cu n ⟨γ.p,γ.c,b,γ.g,γ.cap⟩ j:=by
 unfold bkV
 split <;> first | rfl | (exact absurd rfl h1)
theorem bkV_g {go K capo N rb:Nat} {u:Value} {ln:Int} {pu:Option Addr} {m cu n:Nat} {γ:BkG} {g cap:Nat} {j:Nat} (h1:j ≠ 13):bkV go K capo N rb u ln pu m cu n γ j=bkV go K capo N rb u ln pu m cu n ⟨γ.p,γ.c,γ.b,g,cap⟩ j:=by
 unfold bkV
 split <;> first | rfl | (exact absurd rfl h1)
structure BkA (w wq:World) (u:Value) (c:List Rn) (ln:Int) (ws:List Wd) (m:Nat) (γ:BkG) (z3:World):Prop where
 z:∃ z2,Below wq.heap.size wq z2∧z2.grownBy z3 u.ownBlock∧(u.ownBlock=some γ.g ∨ z2.heap.size≤γ.g)∧WcAt w.heap.size z2 (.slice γ.p m γ.c) ws
 own:z3.ownsRow w.heap.size 56 2 (.slice (some ⟨γ.g,0,none⟩) (c.length + 1) γ.cap) (c.length + 1) (rnC c ++ [.int .i64 ln,.slice γ.p m γ.c])
structure BkW (w wq:World) (go K:Nat) (u:Value) (c:List Rn) (ln:Int) (ws:List Wd) (m:Nat) (γ:BkG) (x:Array Bool) (z:World):Prop where
 a:x.getD 13 false=false→Below wq.heap.size wq z
 bl:x.getD 12 false=true→x.getD 13 false=false→z.heap[γ.b]?=some (.cells #[.int .i64 ln,.slice γ.p m γ.c] 56 (0,0))
 ap:x.getD 13 false=true→∃ z3,BkA w wq u c ln ws m γ z3∧(x.getD 15 false=false→z=z3)∧(x.getD 15 false=true→z=z3.setCell ⟨go,K,none⟩ (.slice (some ⟨γ.g,0,none⟩) (c.length + 1) γ.cap))
 cl:x.getD 10 false=true→x.getD 13 false=false→WcAt w.heap.size z (.slice γ.p m γ.c) ws
theorem BkW.other {w wq:World} {go K:Nat} {u:Value} {c:List Rn} {ln:Int} {ws:List Wd} {m:Nat} {γ:BkG} {x:Array Bool} {z:World} (h:BkW w wq go K u c ln ws m γ x z) {i:Nat} (h10:i ≠ 10) (h12:i ≠ 12) (h13:i ≠ 13) (h15:i ≠ 15):BkW w wq go K u c ln ws m γ (x.setIfInBounds i true) z:=by
 refine ⟨?_,?_,?_,?_⟩
 · rw [getD_set_ne false h13]; exact h.a
 · rw [getD_set_ne false h12,getD_set_ne false h13]; exact h.bl
 · rw [getD_set_ne false h13,getD_set_ne false h15]; exact h.ap
 · rw [getD_set_ne false h10,getD_set_ne false h13]; exact h.cl
theorem no_bit {x:Array Bool} {i j:Nat} (hi:x.getD i false=false) (h:x.getD j false=true→x.getD i false=true):x.getD j false=false:=by
 cases e:x.getD j false with
 | false=>rfl
 | true=>rw [h e] at hi; cases hi
theorem BkW.call {w wq:World} {go K:Nat} {u:Value} {c:List Rn} {ln:Int} {ws:List Wd} {m:Nat} {γ:BkG} {x:Array Bool} {z z':World} (h:BkW w wq go K u c ln ws m γ x z) (h12:x.getD 12 false=false) (h13:x.getD 13 false=false) (hb:Below z.heap.size z z') (p:Option Addr) (cc:Nat) (hwc:WcAt w.heap.size z' (.slice p m cc) ws):BkW w wq go K u c ln ws m ⟨p,cc,γ.b,γ.g,γ.cap⟩ (x.setIfInBounds 10 true) z':=by
 refine ⟨fun _=>?_,?_,?_,fun _ _=>hwc⟩
 · have k:=h.a h13; exact k.trans (hb.mono k.size)
 · rw [getD_set_ne false (by decide),h12]; intro e; cases e
 · rw [getD_set_ne false (by decide),h13]; intro e; cases e
theorem BkW.block {w wq:World} {go K:Nat} {u:Value} {c:List Rn} {ln:Int} {ws:List Wd} {m:Nat} {γ:BkG} {x:Array Bool} {z:World} (h:BkW w wq go K u c ln ws m γ x z) (h13:x.getD 13 false=false):BkW w wq go K u c ln ws m ⟨γ.p,γ.c,z.heap.size,γ.g,γ.cap⟩ (x.setIfInBounds 12 true) (z.alloc (.cells #[.int .i64 ln,.slice γ.p m γ.c] 56)):=by
 refine ⟨fun _=>?_,fun _ _=>World.alloc_heap_new z _,?_,?_⟩
 · have k:=h.a h13; exact k.alloc k.size _
 · rw [getD_set_ne false (by decide),h13]; intro e; cases e
 · rw [getD_set_ne false (by decide)]; intro h10 _; exact (h.cl h10 h13).below ((Below.refl _ _).alloc (Nat.le_refl _) _)
theorem BkW.appd {w wq:World} {go K:Nat} {u:Value} {c:List Rn} {ln:Int} {ws:List Wd} {m:Nat} {γ:BkG} {x:Array Bool} {z z':World} (h:BkW w wq go K u c ln ws m γ x z) (h10:x.getD 10 false=true) (h13:x.getD 13 false=false) (h15:x.getD 15 false=false) (hs:13 < x.size) {g cap:Nat} (hg:z.grownBy z' u.ownBlock) (hat:u.ownBlock=some g ∨ g=z.heap.size)
 (ho:z'.ownsRow w.heap.size 56 2 (.slice (some ⟨g,0,none⟩) (c.length + 1) cap) (c.length + 1) (rnC c ++ [.int .i64 ln,.slice γ.p m γ.c])):BkW w wq go K u c ln ws m ⟨γ.p,γ.c,γ.b,g,cap⟩ (x.setIfInBounds 13 true) z':=by
 refine ⟨?_,?_,fun _=>⟨z',⟨⟨z,h.a h13,hg,hat.imp id (fun e=>by rw [e]; exact Nat.le_refl _),h.cl h10 h13⟩,ho⟩,fun _=>rfl,?_⟩,?_⟩
 · rw [getD_set_at hs]; intro e; cases e
 · rw [getD_set_at hs]; intro _ e; cases e
 · rw [getD_set_ne false (by decide),h15]; intro e; cases e
 · rw [getD_set_at hs]; intro _ e; cases e
theorem BkW.put {w wq:World} {go K:Nat} {u:Value} {c:List Rn} {ln:Int} {ws:List Wd} {m:Nat} {γ:BkG} {x:Array Bool} {z:World} (h:BkW w wq go K u c ln ws m γ x z) (h13:x.getD 13 false=true) (h15:x.getD 15 false=false) (hs:15 < x.size):BkW w wq go K u c ln ws m γ (x.setIfInBounds 15 true) (z.setCell ⟨go,K,none⟩ (.slice (some ⟨γ.g,0,none⟩) (c.length + 1) γ.cap)):=by
 obtain ⟨z3,h1,h2,_⟩:=h.ap h13;refine ⟨?_,?_,fun _=>⟨z3,h1,?_,fun _=>by rw [h2 h15]⟩,?_⟩
 · rw [getD_set_ne false (by decide),h13]; intro e; cases e
 · rw [getD_set_ne false (by decide),getD_set_ne false (by decide),h13]; intro _ e; cases e
 · rw [getD_set_at hs]; intro e; cases e
 · rw [getD_set_ne false (by decide),getD_set_ne false (by decide),h13]; intro _ e; cases e
theorem BkW.fin {w wq:World} {go K N capo:Nat} {us0:List Value} {u:Value} {cs0:List (List Rn)} {c:List Rn} {ln:Int} {ws:List Wd} {m:Nat} {γ:BkG} {x:Array Bool} {z:World} (h:BkW w wq go K u c ln ws m γ x z) (h13:x.getD 13 false=true) (h15:x.getD 15 false=true) (hK:us0.length=K)
 (st:BkSt w wq (.slice (some ⟨go,0,none⟩) N capo) (us0 ++ [u]) (cs0 ++ [c])):BkSt w z (.slice (some ⟨go,0,none⟩) N capo) (us0 ++ [.slice (some ⟨γ.g,0,none⟩) (c.length + 1) γ.cap]) (cs0 ++ [c ++ [((ln,ws),.slice γ.p m γ.c)]]):=by
 obtain ⟨z3,h1,_,h2⟩:=h.ap h13;obtain ⟨z2,hb,hg,hat,hwc⟩:=h1.z;rw [h2 h15];subst hK;exact BkSt.grow (f:=((ln,ws),.slice γ.p m γ.c)) st hb h1.own hg (hat.imp (fun e=>e.symm) (fun e=>⟨γ.g,rfl,e⟩)) hwc
end Go.Proofs.YthabffjgdhfbmaaGreatDoor
