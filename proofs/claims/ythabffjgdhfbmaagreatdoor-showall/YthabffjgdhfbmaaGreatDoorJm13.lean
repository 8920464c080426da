/-
  Texts that belong together, one behind the other: SumRefB, SumRefC, SumConK, SumClo. Conditions: as each says.
-/
import Derived.ChangeOld
import Derived.Laws.BitsAllLaws
import Derived.Laws.OwnMore
import Derived.Laws.Shifts
import Derived.Lib.SlBytesConst
import Derived.OpenShut
import Derived.ProofKit
import Derived.ShutString
import Derived.Test.YthabffjgdhfbmaaGreatDoorJm1
import Derived.Test.YthabffjgdhfbmaaGreatDoorJm9
import Derived.Test.YthabffjgdhfbmaaGreatDoorJm10
set_option maxRecDepth 100000
set_option maxHeartbeats 32000000
set_option linter.unusedVariables false
namespace Go.Proofs.YthabffjgdhfbmaaGreatDoor
open Go.RowKit
def RSumAtK (w:World) (K:Value) (v:Value) (V:Nat):Prop:=
 ∀ x,Below w.heap.size w x→Calls Tryz.prog 60 #[K,v] x fun e w'=>e=.returned (.int .u32 (V:Int))∧Below x.heap.size x w'
theorem rof0_nil (w:World) :
 Calls Tryz.prog 26 #[.string e0,.slice none 0 0] w fun e w'=>∃ x,e=.returned (.tuple #[x,.bool true])∧BytesAt w' x (endK 0 [])∧Below w.heap.size w w':=by
 go_enter Tryz.func26,Tryz.ntmps26
 go_wp2
 go_loop [6,7,8,9,10] (fun a b c d i=>a=.int .i64 0∧b=.int .i64 0∧c=.int .i64 0∧d=.int .i64 0∧i=.int .i64 0) (fun _ _ _ _ _=>0)
 case atStart=>exact ⟨rfl,rfl,rfl,rfl,rfl⟩
 case round=>
  obtain ⟨rfl,rfl,rfl,rfl,rfl⟩:=hrel;go_wp2
  go_ret2
  exact ⟨_,rfl,.inl ⟨rfl,rfl⟩,Below.refl _ _⟩
theorem rof0_row (w:World) (g o cap:Nat) (bs:List Nat) (hl:(bs.length:Int)≤300) (hbs:AllBytes bs) (hb:BytesIn w g o bs) (hg:g < w.heap.size) :
 Calls Tryz.prog 26 #[.string e0,.slice (some ⟨g,o,none⟩) bs.length cap] w fun e w'=>∃ x,e=.returned (.tuple #[x,.bool true])∧BytesAt w' x (endK 0 bs)∧Below w.heap.size w w':=by
 have hb':Hid (BytesIn w g o bs∧g < w.heap.size∧AllBytes bs):=⟨hb,hg,hbs⟩;clear hb hg hbs
 go_enter Tryz.func26,Tryz.ntmps26
 go_wp2
 go_loop [6,7,8,9,10] (fun a b c d i=>∃ k S M C:Nat,(k:Int)≤(bs.length:Int)∧i=.int .i64 (k:Int)∧a=.int .i64 (S:Int)∧b=.int .i64 (M:Int)∧c=.int .i64 (C:Int)∧d=.int .i64 (S:Int)∧Hid (S=totN (bs.take k)∧M=mixB (bs.take k)∧C=(secN (bs.take k)).2)) (fun _ _ _ _ i=>bs.length - (intOf i).toNat)
 case atStart=>exact ⟨0,0,0,0,by omega,rfl,rfl,rfl,rfl,rfl,rfl,rfl,rfl⟩
 case round=>
  obtain ⟨k,S,M,C,hk,rfl,rfl,rfl,rfl,rfl,hv⟩:=hrel;obtain ⟨vS,vM,vC⟩:=hv.out;have tb:=take_bytes hb'.out.2.2 k;have lS:=tot_le tb;have lM:=mix_lt tb;have lC:=sec_le tb;rw [← vS] at lS;rw [← vM] at lM;rw [← vC] at lC;have lk:(bs.take k).length≤300:=by rw [List.length_take]; omega
  have lS2:(S:Int)≤76500:=by omega
  have lC2:(C:Int)≤22950000:=by
   have h1:255 * (bs.take k).length * (bs.take k).length≤255 * 300 * 300:=Nat.mul_le_mul (Nat.mul_le_mul_left _ lk) lk;omega
  clear lS lC lk tb
  by_cases hlt:k < bs.length
  · have hki:(k:Int) < (bs.length:Int):=by omega
    have hcell:=hb'.out.1 k hlt;have hc:bs[k] < 256:=hb'.out.2.2 _ (List.getElem_mem hlt);have nx:Hid (S + bs[k]=totN (bs.take (k + 1))∧M ^^^ bs[k]=mixB (bs.take (k + 1))∧C + (S + bs[k])=(secN (bs.take (k + 1))).2):=by
     refine ⟨?_,?_,?_⟩
     · rw [take_snoc bs hlt,totN_snoc,← vS]
     · rw [take_snoc bs hlt,mixB_snoc,← vM]
     · rw [take_snoc bs hlt,secN_snoc,secN_one,← vC,← vS]
    clear hv vS vM vC;generalize bs[k]=c at *;obtain ⟨M2,hM2⟩:∃ M2:Nat,M ^^^ c=M2:=⟨_,rfl⟩;have xr:bits .xor .i64 (M:Int) (c:Int)=(M2:Int):=by rw [i64_xor_small lM hc,hM2]
    rw [hM2] at nx;replace nx:Hid (S + c=totN (bs.take (k + 1))∧M2=mixB (bs.take (k + 1))∧C + (S + c)=(secN (bs.take (k + 1))).2):=nx;clear hM2;have hci:(0:Int)≤(c:Int)∧(c:Int) < 256:=⟨by omega,by omega⟩;go_wp2;exact ⟨⟨k + 1,S + c,M2,C + (S + c),by omega,by simp,by simp,by simp,by simp,by simp,nx⟩,by simp [intOf]; omega⟩
  · obtain rfl:k=bs.length:=by omega
    rw [List.take_length] at vS vM vC;clear hlt hk hv;clear vS vM vC;go_wp2
    go_ret2
    exact ⟨_,rfl,.inl ⟨rfl,rfl⟩,Below.refl _ _⟩
theorem rof1_nil (w:World) :
 Calls Tryz.prog 26 #[.string e1,.slice none 0 0] w fun e w'=>∃ x,e=.returned (.tuple #[x,.bool true])∧BytesAt w' x (endK 1 [])∧Below w.heap.size w w':=by
 go_enter Tryz.func26,Tryz.ntmps26
 go_wp2
 go_loop [6,7,8,9,10] (fun a b c d i=>a=.int .i64 0∧b=.int .i64 0∧c=.int .i64 0∧d=.int .i64 0∧i=.int .i64 0) (fun _ _ _ _ _=>0)
 case atStart=>exact ⟨rfl,rfl,rfl,rfl,rfl⟩
 case round=>
  obtain ⟨rfl,rfl,rfl,rfl,rfl⟩:=hrel;have nb:Hid (BytesAt (w.alloc (.cells #[.int .u8 0] 5)) (.slice (some ⟨w.heap.size,0,none⟩) 1 1) (endK 1 [])):=new_bytes w (endK 1 []) #[.int .u8 0] rfl;have B:Hid (Below w.heap.size w (w.alloc (.cells #[.int .u8 0] 5))):=(Below.refl _ _).alloc (Nat.le_refl _) _;go_wp2
  go_ret2
  exact ⟨_,rfl,nb.out,B.out⟩
theorem rof1_row (w:World) (g o cap:Nat) (bs:List Nat) (hl:(bs.length:Int)≤300) (hbs:AllBytes bs) (hb:BytesIn w g o bs) (hg:g < w.heap.size) :
 Calls Tryz.prog 26 #[.string e1,.slice (some ⟨g,o,none⟩) bs.length cap] w fun e w'=>∃ x,e=.returned (.tuple #[x,.bool true])∧BytesAt w' x (endK 1 bs)∧Below w.heap.size w w':=by
 have hb':Hid (BytesIn w g o bs∧g < w.heap.size∧AllBytes bs):=⟨hb,hg,hbs⟩;clear hb hg hbs
 go_enter Tryz.func26,Tryz.ntmps26
 go_wp2
 go_loop [6,7,8,9,10] (fun a b c d i=>∃ k S M C:Nat,(k:Int)≤(bs.length:Int)∧i=.int .i64 (k:Int)∧a=.int .i64 (S:Int)∧b=.int .i64 (M:Int)∧c=.int .i64 (C:Int)∧d=.int .i64 (S:Int)∧Hid (S=totN (bs.take k)∧M=mixB (bs.take k)∧C=(secN (bs.take k)).2)) (fun _ _ _ _ i=>bs.length - (intOf i).toNat)
 case atStart=>exact ⟨0,0,0,0,by omega,rfl,rfl,rfl,rfl,rfl,rfl,rfl,rfl⟩
 case round=>
  obtain ⟨k,S,M,C,hk,rfl,rfl,rfl,rfl,rfl,hv⟩:=hrel;obtain ⟨vS,vM,vC⟩:=hv.out;have tb:=take_bytes hb'.out.2.2 k;have lS:=tot_le tb;have lM:=mix_lt tb;have lC:=sec_le tb;rw [← vS] at lS;rw [← vM] at lM;rw [← vC] at lC;have lk:(bs.take k).length≤300:=by rw [List.length_take]; omega
  have lS2:(S:Int)≤76500:=by omega
  have lC2:(C:Int)≤22950000:=by
   have h1:255 * (bs.take k).length * (bs.take k).length≤255 * 300 * 300:=Nat.mul_le_mul (Nat.mul_le_mul_left _ lk) lk;omega
  clear lS lC lk tb
  by_cases hlt:k < bs.length
  · have hki:(k:Int) < (bs.length:Int):=by omega
    have hcell:=hb'.out.1 k hlt;have hc:bs[k] < 256:=hb'.out.2.2 _ (List.getElem_mem hlt);have nx:Hid (S + bs[k]=totN (bs.take (k + 1))∧M ^^^ bs[k]=mixB (bs.take (k + 1))∧C + (S + bs[k])=(secN (bs.take (k + 1))).2):=by
     refine ⟨?_,?_,?_⟩
     · rw [take_snoc bs hlt,totN_snoc,← vS]
     · rw [take_snoc bs hlt,mixB_snoc,← vM]
     · rw [take_snoc bs hlt,secN_snoc,secN_one,← vC,← vS]
    clear hv vS vM vC;generalize bs[k]=c at *;obtain ⟨M2,hM2⟩:∃ M2:Nat,M ^^^ c=M2:=⟨_,rfl⟩;have xr:bits .xor .i64 (M:Int) (c:Int)=(M2:Int):=by rw [i64_xor_small lM hc,hM2]
    rw [hM2] at nx;replace nx:Hid (S + c=totN (bs.take (k + 1))∧M2=mixB (bs.take (k + 1))∧C + (S + c)=(secN (bs.take (k + 1))).2):=nx;clear hM2;have hci:(0:Int)≤(c:Int)∧(c:Int) < 256:=⟨by omega,by omega⟩;go_wp2;exact ⟨⟨k + 1,S + c,M2,C + (S + c),by omega,by simp,by simp,by simp,by simp,by simp,nx⟩,by simp [intOf]; omega⟩
  · obtain rfl:k=bs.length:=by omega
    rw [List.take_length] at vS vM vC;clear hlt hk hv;obtain ⟨x,hx⟩:∃ x:Nat,x=S % 256:=⟨_,rfl⟩;have r1:(S:Int) % 256=(x:Int):=by omega
    have w1:IntKind.u8.wrap (x:Int)=(x:Int):=by simp only [IntKind.wrap_u8']; omega
    have ee:endK 1 bs=[x]:=by show [totN bs % 256]=_; rw [← vS,← hx]
    have nb:Hid (BytesAt (w.alloc (.cells #[.int .u8 (x:Int)] 5)) (.slice (some ⟨w.heap.size,0,none⟩) 1 1) (endK 1 bs)):=by unfold Hid; rw [ee]; exact new_bytes w [x] #[.int .u8 (x:Int)] rfl
    clear vS vM vC ee hx;have B:Hid (Below w.heap.size w (w.alloc (.cells #[.int .u8 (x:Int)] 5))):=(Below.refl _ _).alloc (Nat.le_refl _) _;go_wp2
    go_ret2
    exact ⟨_,rfl,nb.out,B.out⟩
theorem rof2_nil (w:World) :
 Calls Tryz.prog 26 #[.string e2,.slice none 0 0] w fun e w'=>∃ x,e=.returned (.tuple #[x,.bool true])∧BytesAt w' x (endK 2 [])∧Below w.heap.size w w':=by
 go_enter Tryz.func26,Tryz.ntmps26
 go_wp2
 go_loop [6,7,8,9,10] (fun a b c d i=>a=.int .i64 0∧b=.int .i64 0∧c=.int .i64 0∧d=.int .i64 0∧i=.int .i64 0) (fun _ _ _ _ _=>0)
 case atStart=>exact ⟨rfl,rfl,rfl,rfl,rfl⟩
 case round=>
  obtain ⟨rfl,rfl,rfl,rfl,rfl⟩:=hrel;have nb:Hid (BytesAt (w.alloc (.cells #[.int .u8 0] 5)) (.slice (some ⟨w.heap.size,0,none⟩) 1 1) (endK 2 [])):=new_bytes w (endK 2 []) #[.int .u8 0] rfl;have B:Hid (Below w.heap.size w (w.alloc (.cells #[.int .u8 0] 5))):=(Below.refl _ _).alloc (Nat.le_refl _) _;go_wp2
  go_ret2
  exact ⟨_,rfl,nb.out,B.out⟩
theorem rof2_row (w:World) (g o cap:Nat) (bs:List Nat) (hl:(bs.length:Int)≤300) (hbs:AllBytes bs) (hb:BytesIn w g o bs) (hg:g < w.heap.size) :
 Calls Tryz.prog 26 #[.string e2,.slice (some ⟨g,o,none⟩) bs.length cap] w fun e w'=>∃ x,e=.returned (.tuple #[x,.bool true])∧BytesAt w' x (endK 2 bs)∧Below w.heap.size w w':=by
 have hb':Hid (BytesIn w g o bs∧g < w.heap.size∧AllBytes bs):=⟨hb,hg,hbs⟩;clear hb hg hbs
 go_enter Tryz.func26,Tryz.ntmps26
 go_wp2
 go_loop [6,7,8,9,10] (fun a b c d i=>∃ k S M C:Nat,(k:Int)≤(bs.length:Int)∧i=.int .i64 (k:Int)∧a=.int .i64 (S:Int)∧b=.int .i64 (M:Int)∧c=.int .i64 (C:Int)∧d=.int .i64 (S:Int)∧Hid (S=totN (bs.take k)∧M=mixB (bs.take k)∧C=(secN (bs.take k)).2)) (fun _ _ _ _ i=>bs.length - (intOf i).toNat)
 case atStart=>exact ⟨0,0,0,0,by omega,rfl,rfl,rfl,rfl,rfl,rfl,rfl,rfl⟩
 case round=>
  obtain ⟨k,S,M,C,hk,rfl,rfl,rfl,rfl,rfl,hv⟩:=hrel;obtain ⟨vS,vM,vC⟩:=hv.out;have tb:=take_bytes hb'.out.2.2 k;have lS:=tot_le tb;have lM:=mix_lt tb;have lC:=sec_le tb;rw [← vS] at lS;rw [← vM] at lM;rw [← vC] at lC;have lk:(bs.take k).length≤300:=by rw [List.length_take]; omega
  have lS2:(S:Int)≤76500:=by omega
  have lC2:(C:Int)≤22950000:=by
   have h1:255 * (bs.take k).length * (bs.take k).length≤255 * 300 * 300:=Nat.mul_le_mul (Nat.mul_le_mul_left _ lk) lk;omega
  clear lS lC lk tb
  by_cases hlt:k < bs.length
  · have hki:(k:Int) < (bs.length:Int):=by omega
    have hcell:=hb'.out.1 k hlt;have hc:bs[k] < 256:=hb'.out.2.2 _ (List.getElem_mem hlt);have nx:Hid (S + bs[k]=totN (bs.take (k + 1))∧M ^^^ bs[k]=mixB (bs.take (k + 1))∧C + (S + bs[k])=(secN (bs.take (k + 1))).2):=by
     refine ⟨?_,?_,?_⟩
     · rw [take_snoc bs hlt,totN_snoc,← vS]
     · rw [take_snoc bs hlt,mixB_snoc,← vM]
     · rw [take_snoc bs hlt,secN_snoc,secN_one,← vC,← vS]
    clear hv vS vM vC;generalize bs[k]=c at *;obtain ⟨M2,hM2⟩:∃ M2:Nat,M ^^^ c=M2:=⟨_,rfl⟩;have xr:bits .xor .i64 (M:Int) (c:Int)=(M2:Int):=by rw [i64_xor_small lM hc,hM2]
    rw [hM2] at nx;replace nx:Hid (S + c=totN (bs.take (k + 1))∧M2=mixB (bs.take (k + 1))∧C + (S + c)=(secN (bs.take (k + 1))).2):=nx;clear hM2;have hci:(0:Int)≤(c:Int)∧(c:Int) < 256:=⟨by omega,by omega⟩;go_wp2;exact ⟨⟨k + 1,S + c,M2,C + (S + c),by omega,by simp,by simp,by simp,by simp,by simp,nx⟩,by simp [intOf]; omega⟩
  · obtain rfl:k=bs.length:=by omega
    rw [List.take_length] at vS vM vC;clear hlt hk hv;obtain ⟨y,hy⟩:∃ y:Nat,y=S % 256:=⟨_,rfl⟩;have r0:(S:Int) % 256=(y:Int):=by omega
    have ry:(0:Int)≤(y:Int)∧(y:Int) < 256:=⟨by omega,by omega⟩;obtain ⟨x,hx⟩:∃ x:Nat,x=(256 - S % 256) % 256:=⟨_,rfl⟩;have r1:(256 - (y:Int)) % 256=(x:Int):=by omega
    have w1:IntKind.u8.wrap (x:Int)=(x:Int):=by simp only [IntKind.wrap_u8']; omega
    have ee:endK 2 bs=[x]:=by show [(256 - totN bs % 256) % 256]=_; rw [← vS,← hx]
    have nb:Hid (BytesAt (w.alloc (.cells #[.int .u8 (x:Int)] 5)) (.slice (some ⟨w.heap.size,0,none⟩) 1 1) (endK 2 bs)):=by unfold Hid; rw [ee]; exact new_bytes w [x] #[.int .u8 (x:Int)] rfl
    clear vS vM vC ee hx hy;have B:Hid (Below w.heap.size w (w.alloc (.cells #[.int .u8 (x:Int)] 5))):=(Below.refl _ _).alloc (Nat.le_refl _) _;go_wp2
    go_ret2
    exact ⟨_,rfl,nb.out,B.out⟩
theorem rof3_nil (w:World) :
 Calls Tryz.prog 26 #[.string e3,.slice none 0 0] w fun e w'=>∃ x,e=.returned (.tuple #[x,.bool true])∧BytesAt w' x (endK 3 [])∧Below w.heap.size w w':=by
 go_enter Tryz.func26,Tryz.ntmps26
 go_wp2
 go_loop [6,7,8,9,10] (fun a b c d i=>a=.int .i64 0∧b=.int .i64 0∧c=.int .i64 0∧d=.int .i64 0∧i=.int .i64 0) (fun _ _ _ _ _=>0)
 case atStart=>exact ⟨rfl,rfl,rfl,rfl,rfl⟩
 case round=>
  obtain ⟨rfl,rfl,rfl,rfl,rfl⟩:=hrel;have nb:Hid (BytesAt (w.alloc (.cells #[.int .u8 0] 5)) (.slice (some ⟨w.heap.size,0,none⟩) 1 1) (endK 3 [])):=new_bytes w (endK 3 []) #[.int .u8 0] rfl;have B:Hid (Below w.heap.size w (w.alloc (.cells #[.int .u8 0] 5))):=(Below.refl _ _).alloc (Nat.le_refl _) _;go_wp2
  go_ret2
  exact ⟨_,rfl,nb.out,B.out⟩
theorem rof3_row (w:World) (g o cap:Nat) (bs:List Nat) (hl:(bs.length:Int)≤300) (hbs:AllBytes bs) (hb:BytesIn w g o bs) (hg:g < w.heap.size) :
 Calls Tryz.prog 26 #[.string e3,.slice (some ⟨g,o,none⟩) bs.length cap] w fun e w'=>∃ x,e=.returned (.tuple #[x,.bool true])∧BytesAt w' x (endK 3 bs)∧Below w.heap.size w w':=by
 have hb':Hid (BytesIn w g o bs∧g < w.heap.size∧AllBytes bs):=⟨hb,hg,hbs⟩;clear hb hg hbs
 go_enter Tryz.func26,Tryz.ntmps26
 go_wp2
 go_loop [6,7,8,9,10] (fun a b c d i=>∃ k S M C:Nat,(k:Int)≤(bs.length:Int)∧i=.int .i64 (k:Int)∧a=.int .i64 (S:Int)∧b=.int .i64 (M:Int)∧c=.int .i64 (C:Int)∧d=.int .i64 (S:Int)∧Hid (S=totN (bs.take k)∧M=mixB (bs.take k)∧C=(secN (bs.take k)).2)) (fun _ _ _ _ i=>bs.length - (intOf i).toNat)
 case atStart=>exact ⟨0,0,0,0,by omega,rfl,rfl,rfl,rfl,rfl,rfl,rfl,rfl⟩
 case round=>
  obtain ⟨k,S,M,C,hk,rfl,rfl,rfl,rfl,rfl,hv⟩:=hrel;obtain ⟨vS,vM,vC⟩:=hv.out;have tb:=take_bytes hb'.out.2.2 k;have lS:=tot_le tb;have lM:=mix_lt tb;have lC:=sec_le tb;rw [← vS] at lS;rw [← vM] at lM;rw [← vC] at lC;have lk:(bs.take k).length≤300:=by rw [List.length_take]; omega
  have lS2:(S:Int)≤76500:=by omega
  have lC2:(C:Int)≤22950000:=by
   have h1:255 * (bs.take k).length * (bs.take k).length≤255 * 300 * 300:=Nat.mul_le_mul (Nat.mul_le_mul_left _ lk) lk;omega
  clear lS lC lk tb
  by_cases hlt:k < bs.length
  · have hki:(k:Int) < (bs.length:Int):=by omega
    have hcell:=hb'.out.1 k hlt;have hc:bs[k] < 256:=hb'.out.2.2 _ (List.getElem_mem hlt);have nx:Hid (S + bs[k]=totN (bs.take (k + 1))∧M ^^^ bs[k]=mixB (bs.take (k + 1))∧C + (S + bs[k])=(secN (bs.take (k + 1))).2):=by
     refine ⟨?_,?_,?_⟩
     · rw [take_snoc bs hlt,totN_snoc,← vS]
     · rw [take_snoc bs hlt,mixB_snoc,← vM]
     · rw [take_snoc bs hlt,secN_snoc,secN_one,← vC,← vS]
    clear hv vS vM vC;generalize bs[k]=c at *;obtain ⟨M2,hM2⟩:∃ M2:Nat,M ^^^ c=M2:=⟨_,rfl⟩;have xr:bits .xor .i64 (M:Int) (c:Int)=(M2:Int):=by rw [i64_xor_small lM hc,hM2]
    rw [hM2] at nx;replace nx:Hid (S + c=totN (bs.take (k + 1))∧M2=mixB (bs.take (k + 1))∧C + (S + c)=(secN (bs.take (k + 1))).2):=nx;clear hM2;have hci:(0:Int)≤(c:Int)∧(c:Int) < 256:=⟨by omega,by omega⟩;go_wp2;exact ⟨⟨k + 1,S + c,M2,C + (S + c),by omega,by simp,by simp,by simp,by simp,by simp,nx⟩,by simp [intOf]; omega⟩
  · obtain rfl:k=bs.length:=by omega
    rw [List.take_length] at vS vM vC;clear hlt hk hv;obtain ⟨x,hx⟩:∃ x:Nat,x=M:=⟨_,rfl⟩;subst hx;have w1:IntKind.u8.wrap (x:Int)=(x:Int):=by simp only [IntKind.wrap_u8']; omega
    have ee:endK 3 bs=[x]:=by show [mixB bs]=_; rw [← vM]
    have nb:Hid (BytesAt (w.alloc (.cells #[.int .u8 (x:Int)] 5)) (.slice (some ⟨w.heap.size,0,none⟩) 1 1) (endK 3 bs)):=by unfold Hid; rw [ee]; exact new_bytes w [x] #[.int .u8 (x:Int)] rfl
    clear vS vM vC ee;have B:Hid (Below w.heap.size w (w.alloc (.cells #[.int .u8 (x:Int)] 5))):=(Below.refl _ _).alloc (Nat.le_refl _) _;go_wp2
    go_ret2
    exact ⟨_,rfl,nb.out,B.out⟩
theorem rof4_nil (w:World) :
 Calls Tryz.prog 26 #[.string e4,.slice none 0 0] w fun e w'=>∃ x,e=.returned (.tuple #[x,.bool true])∧BytesAt w' x (endK 4 [])∧Below w.heap.size w w':=by
 go_enter Tryz.func26,Tryz.ntmps26
 go_wp2
 go_loop [6,7,8,9,10] (fun a b c d i=>a=.int .i64 0∧b=.int .i64 0∧c=.int .i64 0∧d=.int .i64 0∧i=.int .i64 0) (fun _ _ _ _ _=>0)
 case atStart=>exact ⟨rfl,rfl,rfl,rfl,rfl⟩
 case round=>
  obtain ⟨rfl,rfl,rfl,rfl,rfl⟩:=hrel;have nb:Hid (BytesAt (w.alloc (.cells #[.int .u8 0,.int .u8 0] 5)) (.slice (some ⟨w.heap.size,0,none⟩) 2 2) (endK 4 [])):=new_bytes w (endK 4 []) #[.int .u8 0,.int .u8 0] rfl;have B:Hid (Below w.heap.size w (w.alloc (.cells #[.int .u8 0,.int .u8 0] 5))):=(Below.refl _ _).alloc (Nat.le_refl _) _;go_wp2
  go_ret2
  exact ⟨_,rfl,nb.out,B.out⟩
theorem rof4_row (w:World) (g o cap:Nat) (bs:List Nat) (hl:(bs.length:Int)≤300) (hbs:AllBytes bs) (hb:BytesIn w g o bs) (hg:g < w.heap.size) :
 Calls Tryz.prog 26 #[.string e4,.slice (some ⟨g,o,none⟩) bs.length cap] w fun e w'=>∃ x,e=.returned (.tuple #[x,.bool true])∧BytesAt w' x (endK 4 bs)∧Below w.heap.size w w':=by
 have hb':Hid (BytesIn w g o bs∧g < w.heap.size∧AllBytes bs):=⟨hb,hg,hbs⟩;clear hb hg hbs
 go_enter Tryz.func26,Tryz.ntmps26
 go_wp2
 go_loop [6,7,8,9,10] (fun a b c d i=>∃ k S M C:Nat,(k:Int)≤(bs.length:Int)∧i=.int .i64 (k:Int)∧a=.int .i64 (S:Int)∧b=.int .i64 (M:Int)∧c=.int .i64 (C:Int)∧d=.int .i64 (S:Int)∧Hid (S=totN (bs.take k)∧M=mixB (bs.take k)∧C=(secN (bs.take k)).2)) (fun _ _ _ _ i=>bs.length - (intOf i).toNat)
 case atStart=>exact ⟨0,0,0,0,by omega,rfl,rfl,rfl,rfl,rfl,rfl,rfl,rfl⟩
 case round=>
  obtain ⟨k,S,M,C,hk,rfl,rfl,rfl,rfl,rfl,hv⟩:=hrel;obtain ⟨vS,vM,vC⟩:=hv.out;have tb:=take_bytes hb'.out.2.2 k;have lS:=tot_le tb;have lM:=mix_lt tb;have lC:=sec_le tb;rw [← vS] at lS;rw [← vM] at lM;rw [← vC] at lC;have lk:(bs.take k).length≤300:=by rw [List.length_take]; omega
  have lS2:(S:Int)≤76500:=by omega
  have lC2:(C:Int)≤22950000:=by
   have h1:255 * (bs.take k).length * (bs.take k).length≤255 * 300 * 300:=Nat.mul_le_mul (Nat.mul_le_mul_left _ lk) lk;omega
  clear lS lC lk tb
  by_cases hlt:k < bs.length
  · have hki:(k:Int) < (bs.length:Int):=by omega
    have hcell:=hb'.out.1 k hlt;have hc:bs[k] < 256:=hb'.out.2.2 _ (List.getElem_mem hlt);have nx:Hid (S + bs[k]=totN (bs.take (k + 1))∧M ^^^ bs[k]=mixB (bs.take (k + 1))∧C + (S + bs[k])=(secN (bs.take (k + 1))).2):=by
     refine ⟨?_,?_,?_⟩
     · rw [take_snoc bs hlt,totN_snoc,← vS]
     · rw [take_snoc bs hlt,mixB_snoc,← vM]
     · rw [take_snoc bs hlt,secN_snoc,secN_one,← vC,← vS]
    clear hv vS vM vC;generalize bs[k]=c at *;obtain ⟨M2,hM2⟩:∃ M2:Nat,M ^^^ c=M2:=⟨_,rfl⟩;have xr:bits .xor .i64 (M:Int) (c:Int)=(M2:Int):=by rw [i64_xor_small lM hc,hM2]
    rw [hM2] at nx;replace nx:Hid (S + c=totN (bs.take (k + 1))∧M2=mixB (bs.take (k + 1))∧C + (S + c)=(secN (bs.take (k + 1))).2):=nx;clear hM2;have hci:(0:Int)≤(c:Int)∧(c:Int) < 256:=⟨by omega,by omega⟩;go_wp2;exact ⟨⟨k + 1,S + c,M2,C + (S + c),by omega,by simp,by simp,by simp,by simp,by simp,nx⟩,by simp [intOf]; omega⟩
  · obtain rfl:k=bs.length:=by omega
    rw [List.take_length] at vS vM vC;clear hlt hk hv;obtain ⟨y,hy⟩:∃ y:Nat,y=S % 255:=⟨_,rfl⟩;have r0:(S:Int) % 255=(y:Int):=by omega
    have w0:IntKind.u8.wrap (y:Int)=(y:Int):=by simp only [IntKind.wrap_u8']; omega
    obtain ⟨x,hx⟩:∃ x:Nat,x=C % 255:=⟨_,rfl⟩;have r1:(C:Int) % 255=(x:Int):=by omega
    have w1:IntKind.u8.wrap (x:Int)=(x:Int):=by simp only [IntKind.wrap_u8']; omega
    have ee:endK 4 bs=[x,y]:=by show [(secN bs).2 % 255,totN bs % 255]=_; rw [← vS,← vC,← hx,← hy]
    have nb:Hid (BytesAt (w.alloc (.cells #[.int .u8 (x:Int),.int .u8 (y:Int)] 5)) (.slice (some ⟨w.heap.size,0,none⟩) 2 2) (endK 4 bs)):=by unfold Hid; rw [ee]; exact new_bytes w [x,y] #[.int .u8 (x:Int),.int .u8 (y:Int)] rfl
    clear vS vM vC ee hx hy;have B:Hid (Below w.heap.size w (w.alloc (.cells #[.int .u8 (x:Int),.int .u8 (y:Int)] 5))):=(Below.refl _ _).alloc (Nat.le_refl _) _;go_wp2
    go_ret2
    exact ⟨_,rfl,nb.out,B.out⟩
theorem rof5_nil (w:World) (V:Nat) (hV:V < 4294967296) (eV:Hid (sumV 8 7 0 false 0 []=V)) (cT:RSumAtK w (.agg #[.int .i64 8,.int .u32 7,.int .u32 0,.bool false,.int .u32 0]) (.slice none 0 0) V) :
 Calls Tryz.prog 26 #[.string e5,.slice none 0 0] w fun e w'=>∃ x,e=.returned (.tuple #[x,.bool true])∧BytesAt w' x (endK 5 [])∧Below w.heap.size w w':=by
 go_enter Tryz.func26,Tryz.ntmps26
 go_wp2
 go_loop [6,7,8,9,10] (fun a b c d i=>a=.int .i64 0∧b=.int .i64 0∧c=.int .i64 0∧d=.int .i64 0∧i=.int .i64 0) (fun _ _ _ _ _=>0)
 case atStart=>exact ⟨rfl,rfl,rfl,rfl,rfl⟩
 case round=>
  obtain ⟨rfl,rfl,rfl,rfl,rfl⟩:=hrel
  go_wp2_with fail
  refine (cT _ (Below.refl _ _)).mono ?_;rintro e w1 ⟨rfl,hb1⟩;have B:Hid (Below w.heap.size w w1):=hb1;clear hb1
  go_wp2_with fail
  refine (big_any V 1 w1 hV (by omega)).mono ?_;rintro e w2 ⟨x,rfl,hr,hb2⟩;have R:Hid (BytesAt w2 x (endK 5 [])):=by
   show BytesAt w2 x (bigL (sumV 8 7 0 false 0 []) 1);rw [eV.out]; exact hr.at
  replace B:Hid (Below w.heap.size w w2):=belowT B.out hb2;clear hr hb2;go_wp2
  go_ret2
  exact ⟨_,rfl,R.out,B.out⟩
theorem rof5_row (w:World) (g o cap:Nat) (bs:List Nat) (hl:(bs.length:Int)≤300) (hbs:AllBytes bs) (hb:BytesIn w g o bs) (hg:g < w.heap.size) (V:Nat) (hV:V < 4294967296) (eV:Hid (sumV 8 7 0 false 0 bs=V)) (cT:RSumAtK w (.agg #[.int .i64 8,.int .u32 7,.int .u32 0,.bool false,.int .u32 0]) (.slice (some ⟨g,o,none⟩) bs.length cap) V) :
 Calls Tryz.prog 26 #[.string e5,.slice (some ⟨g,o,none⟩) bs.length cap] w fun e w'=>∃ x,e=.returned (.tuple #[x,.bool true])∧BytesAt w' x (endK 5 bs)∧Below w.heap.size w w':=by
 have hb':Hid (BytesIn w g o bs∧g < w.heap.size∧AllBytes bs):=⟨hb,hg,hbs⟩;clear hb hg hbs
 go_enter Tryz.func26,Tryz.ntmps26
 go_wp2
 go_loop [6,7,8,9,10] (fun a b c d i=>∃ k S M C:Nat,(k:Int)≤(bs.length:Int)∧i=.int .i64 (k:Int)∧a=.int .i64 (S:Int)∧b=.int .i64 (M:Int)∧c=.int .i64 (C:Int)∧d=.int .i64 (S:Int)∧Hid (S=totN (bs.take k)∧M=mixB (bs.take k)∧C=(secN (bs.take k)).2)) (fun _ _ _ _ i=>bs.length - (intOf i).toNat)
 case atStart=>exact ⟨0,0,0,0,by omega,rfl,rfl,rfl,rfl,rfl,rfl,rfl,rfl⟩
 case round=>
  obtain ⟨k,S,M,C,hk,rfl,rfl,rfl,rfl,rfl,hv⟩:=hrel;obtain ⟨vS,vM,vC⟩:=hv.out;have tb:=take_bytes hb'.out.2.2 k;have lS:=tot_le tb;have lM:=mix_lt tb;have lC:=sec_le tb;rw [← vS] at lS;rw [← vM] at lM;rw [← vC] at lC;have lk:(bs.take k).length≤300:=by rw [List.length_take]; omega
  have lS2:(S:Int)≤76500:=by omega
  have lC2:(C:Int)≤22950000:=by
   have h1:255 * (bs.take k).length * (bs.take k).length≤255 * 300 * 300:=Nat.mul_le_mul (Nat.mul_le_mul_left _ lk) lk;omega
  clear lS lC lk tb
  by_cases hlt:k < bs.length
  · have hki:(k:Int) < (bs.length:Int):=by omega
    have hcell:=hb'.out.1 k hlt;have hc:bs[k] < 256:=hb'.out.2.2 _ (List.getElem_mem hlt);have nx:Hid (S + bs[k]=totN (bs.take (k + 1))∧M ^^^ bs[k]=mixB (bs.take (k + 1))∧C + (S + bs[k])=(secN (bs.take (k + 1))).2):=by
     refine ⟨?_,?_,?_⟩
     · rw [take_snoc bs hlt,totN_snoc,← vS]
     · rw [take_snoc bs hlt,mixB_snoc,← vM]
     · rw [take_snoc bs hlt,secN_snoc,secN_one,← vC,← vS]
    clear hv vS vM vC;generalize bs[k]=c at *;obtain ⟨M2,hM2⟩:∃ M2:Nat,M ^^^ c=M2:=⟨_,rfl⟩;have xr:bits .xor .i64 (M:Int) (c:Int)=(M2:Int):=by rw [i64_xor_small lM hc,hM2]
    rw [hM2] at nx;replace nx:Hid (S + c=totN (bs.take (k + 1))∧M2=mixB (bs.take (k + 1))∧C + (S + c)=(secN (bs.take (k + 1))).2):=nx;clear hM2;have hci:(0:Int)≤(c:Int)∧(c:Int) < 256:=⟨by omega,by omega⟩;go_wp2;exact ⟨⟨k + 1,S + c,M2,C + (S + c),by omega,by simp,by simp,by simp,by simp,by simp,nx⟩,by simp [intOf]; omega⟩
  · obtain rfl:k=bs.length:=by omega
    rw [List.take_length] at vS vM vC;clear hlt hk hv;clear vS vM vC
    go_wp2_with fail
    refine (cT _ (Below.refl _ _)).mono ?_;rintro e w1 ⟨rfl,hb1⟩;have B:Hid (Below w.heap.size w w1):=hb1;clear hb1
    go_wp2_with fail
    refine (big_any V 1 w1 hV (by omega)).mono ?_;rintro e w2 ⟨x,rfl,hr,hb2⟩;have R:Hid (BytesAt w2 x (endK 5 bs)):=by
     show BytesAt w2 x (bigL (sumV 8 7 0 false 0 bs) 1);rw [eV.out]; exact hr.at
    replace B:Hid (Below w.heap.size w w2):=belowT B.out hb2;clear hr hb2;go_wp2
    go_ret2
    exact ⟨_,rfl,R.out,B.out⟩
theorem rof6_nil (w:World) (V:Nat) (hV:V < 4294967296) (eV:Hid (sumV 16 32773 0 true 0 []=V)) (cT:RSumAtK w (.agg #[.int .i64 16,.int .u32 32773,.int .u32 0,.bool true,.int .u32 0]) (.slice none 0 0) V) :
 Calls Tryz.prog 26 #[.string e6,.slice none 0 0] w fun e w'=>∃ x,e=.returned (.tuple #[x,.bool true])∧BytesAt w' x (endK 6 [])∧Below w.heap.size w w':=by
 go_enter Tryz.func26,Tryz.ntmps26
 go_wp2
 go_loop [6,7,8,9,10] (fun a b c d i=>a=.int .i64 0∧b=.int .i64 0∧c=.int .i64 0∧d=.int .i64 0∧i=.int .i64 0) (fun _ _ _ _ _=>0)
 case atStart=>exact ⟨rfl,rfl,rfl,rfl,rfl⟩
 case round=>
  obtain ⟨rfl,rfl,rfl,rfl,rfl⟩:=hrel
  go_wp2_with fail
  refine (cT _ (Below.refl _ _)).mono ?_;rintro e w1 ⟨rfl,hb1⟩;have B:Hid (Below w.heap.size w w1):=hb1;clear hb1
  go_wp2_with fail
  refine (big_any V 2 w1 hV (by omega)).mono ?_;rintro e w2 ⟨x,rfl,hr,hb2⟩;have R:Hid (BytesAt w2 x (endK 6 [])):=by
   show BytesAt w2 x (bigL (sumV 16 32773 0 true 0 []) 2);rw [eV.out]; exact hr.at
  replace B:Hid (Below w.heap.size w w2):=belowT B.out hb2;clear hr hb2;go_wp2
  go_ret2
  exact ⟨_,rfl,R.out,B.out⟩
theorem rof6_row (w:World) (g o cap:Nat) (bs:List Nat) (hl:(bs.length:Int)≤300) (hbs:AllBytes bs) (hb:BytesIn w g o bs) (hg:g < w.heap.size) (V:Nat) (hV:V < 4294967296) (eV:Hid (sumV 16 32773 0 true 0 bs=V)) (cT:RSumAtK w (.agg #[.int .i64 16,.int .u32 32773,.int .u32 0,.bool true,.int .u32 0]) (.slice (some ⟨g,o,none⟩) bs.length cap) V) :
 Calls Tryz.prog 26 #[.string e6,.slice (some ⟨g,o,none⟩) bs.length cap] w fun e w'=>∃ x,e=.returned (.tuple #[x,.bool true])∧BytesAt w' x (endK 6 bs)∧Below w.heap.size w w':=by
 have hb':Hid (BytesIn w g o bs∧g < w.heap.size∧AllBytes bs):=⟨hb,hg,hbs⟩;clear hb hg hbs
 go_enter Tryz.func26,Tryz.ntmps26
 go_wp2
 go_loop [6,7,8,9,10] (fun a b c d i=>∃ k S M C:Nat,(k:Int)≤(bs.length:Int)∧i=.int .i64 (k:Int)∧a=.int .i64 (S:Int)∧b=.int .i64 (M:Int)∧c=.int .i64 (C:Int)∧d=.int .i64 (S:Int)∧Hid (S=totN (bs.take k)∧M=mixB (bs.take k)∧C=(secN (bs.take k)).2)) (fun _ _ _ _ i=>bs.length - (intOf i).toNat)
 case atStart=>exact ⟨0,0,0,0,by omega,rfl,rfl,rfl,rfl,rfl,rfl,rfl,rfl⟩
 case round=>
  obtain ⟨k,S,M,C,hk,rfl,rfl,rfl,rfl,rfl,hv⟩:=hrel;obtain ⟨vS,vM,vC⟩:=hv.out;have tb:=take_bytes hb'.out.2.2 k;have lS:=tot_le tb;have lM:=mix_lt tb;have lC:=sec_le tb;rw [← vS] at lS;rw [← vM] at lM;rw [← vC] at lC;have lk:(bs.take k).length≤300:=by rw [List.length_take]; omega
  have lS2:(S:Int)≤76500:=by omega
  have lC2:(C:Int)≤22950000:=by
   have h1:255 * (bs.take k).length * (bs.take k).length≤255 * 300 * 300:=Nat.mul_le_mul (Nat.mul_le_mul_left _ lk) lk;omega
  clear lS lC lk tb
  by_cases hlt:k < bs.length
  · have hki:(k:Int) < (bs.length:Int):=by omega
    have hcell:=hb'.out.1 k hlt;have hc:bs[k] < 256:=hb'.out.2.2 _ (List.getElem_mem hlt);have nx:Hid (S + bs[k]=totN (bs.take (k + 1))∧M ^^^ bs[k]=mixB (bs.take (k + 1))∧C + (S + bs[k])=(secN (bs.take (k + 1))).2):=by
     refine ⟨?_,?_,?_⟩
     · rw [take_snoc bs hlt,totN_snoc,← vS]
     · rw [take_snoc bs hlt,mixB_snoc,← vM]
     · rw [take_snoc bs hlt,secN_snoc,secN_one,← vC,← vS]
    clear hv vS vM vC;generalize bs[k]=c at *;obtain ⟨M2,hM2⟩:∃ M2:Nat,M ^^^ c=M2:=⟨_,rfl⟩;have xr:bits .xor .i64 (M:Int) (c:Int)=(M2:Int):=by rw [i64_xor_small lM hc,hM2]
    rw [hM2] at nx;replace nx:Hid (S + c=totN (bs.take (k + 1))∧M2=mixB (bs.take (k + 1))∧C + (S + c)=(secN (bs.take (k + 1))).2):=nx;clear hM2;have hci:(0:Int)≤(c:Int)∧(c:Int) < 256:=⟨by omega,by omega⟩;go_wp2;exact ⟨⟨k + 1,S + c,M2,C + (S + c),by omega,by simp,by simp,by simp,by simp,by simp,nx⟩,by simp [intOf]; omega⟩
  · obtain rfl:k=bs.length:=by omega
    rw [List.take_length] at vS vM vC;clear hlt hk hv;clear vS vM vC
    go_wp2_with fail
    refine (cT _ (Below.refl _ _)).mono ?_;rintro e w1 ⟨rfl,hb1⟩;have B:Hid (Below w.heap.size w w1):=hb1;clear hb1
    go_wp2_with fail
    refine (big_any V 2 w1 hV (by omega)).mono ?_;rintro e w2 ⟨x,rfl,hr,hb2⟩;have R:Hid (BytesAt w2 x (endK 6 bs)):=by
     show BytesAt w2 x (bigL (sumV 16 32773 0 true 0 bs) 2);rw [eV.out]; exact hr.at
    replace B:Hid (Below w.heap.size w w2):=belowT B.out hb2;clear hr hb2;go_wp2
    go_ret2
    exact ⟨_,rfl,R.out,B.out⟩
theorem rof7_nil (w:World) (V:Nat) (hV:V < 4294967296) (eV:Hid (sumV 16 4129 65535 false 0 []=V)) (cT:RSumAtK w (.agg #[.int .i64 16,.int .u32 4129,.int .u32 65535,.bool false,.int .u32 0]) (.slice none 0 0) V) :
 Calls Tryz.prog 26 #[.string e7,.slice none 0 0] w fun e w'=>∃ x,e=.returned (.tuple #[x,.bool true])∧BytesAt w' x (endK 7 [])∧Below w.heap.size w w':=by
 go_enter Tryz.func26,Tryz.ntmps26
 go_wp2
 go_loop [6,7,8,9,10] (fun a b c d i=>a=.int .i64 0∧b=.int .i64 0∧c=.int .i64 0∧d=.int .i64 0∧i=.int .i64 0) (fun _ _ _ _ _=>0)
 case atStart=>exact ⟨rfl,rfl,rfl,rfl,rfl⟩
 case round=>
  obtain ⟨rfl,rfl,rfl,rfl,rfl⟩:=hrel
  go_wp2_with fail
  refine (cT _ (Below.refl _ _)).mono ?_;rintro e w1 ⟨rfl,hb1⟩;have B:Hid (Below w.heap.size w w1):=hb1;clear hb1
  go_wp2_with fail
  refine (big_any V 2 w1 hV (by omega)).mono ?_;rintro e w2 ⟨x,rfl,hr,hb2⟩;have R:Hid (BytesAt w2 x (endK 7 [])):=by
   show BytesAt w2 x (bigL (sumV 16 4129 65535 false 0 []) 2);rw [eV.out]; exact hr.at
  replace B:Hid (Below w.heap.size w w2):=belowT B.out hb2;clear hr hb2;go_wp2
  go_ret2
  exact ⟨_,rfl,R.out,B.out⟩
theorem rof7_row (w:World) (g o cap:Nat) (bs:List Nat) (hl:(bs.length:Int)≤300) (hbs:AllBytes bs) (hb:BytesIn w g o bs) (hg:g < w.heap.size) (V:Nat) (hV:V < 4294967296) (eV:Hid (sumV 16 4129 65535 false 0 bs=V)) (cT:RSumAtK w (.agg #[.int .i64 16,.int .u32 4129,.int .u32 65535,.bool false,.int .u32 0]) (.slice (some ⟨g,o,none⟩) bs.length cap) V) :
 Calls Tryz.prog 26 #[.string e7,.slice (some ⟨g,o,none⟩) bs.length cap] w fun e w'=>∃ x,e=.returned (.tuple #[x,.bool true])∧BytesAt w' x (endK 7 bs)∧Below w.heap.size w w':=by
 have hb':Hid (BytesIn w g o bs∧g < w.heap.size∧AllBytes bs):=⟨hb,hg,hbs⟩;clear hb hg hbs
 go_enter Tryz.func26,Tryz.ntmps26
 go_wp2
 go_loop [6,7,8,9,10] (fun a b c d i=>∃ k S M C:Nat,(k:Int)≤(bs.length:Int)∧i=.int .i64 (k:Int)∧a=.int .i64 (S:Int)∧b=.int .i64 (M:Int)∧c=.int .i64 (C:Int)∧d=.int .i64 (S:Int)∧Hid (S=totN (bs.take k)∧M=mixB (bs.take k)∧C=(secN (bs.take k)).2)) (fun _ _ _ _ i=>bs.length - (intOf i).toNat)
 case atStart=>exact ⟨0,0,0,0,by omega,rfl,rfl,rfl,rfl,rfl,rfl,rfl,rfl⟩
 case round=>
  obtain ⟨k,S,M,C,hk,rfl,rfl,rfl,rfl,rfl,hv⟩:=hrel;obtain ⟨vS,vM,vC⟩:=hv.out;have tb:=take_bytes hb'.out.2.2 k;have lS:=tot_le tb;have lM:=mix_lt tb;have lC:=sec_le tb;rw [← vS] at lS;rw [← vM] at lM;rw [← vC] at lC;have lk:(bs.take k).length≤300:=by rw [List.length_take]; omega
  have lS2:(S:Int)≤76500:=by omega
  have lC2:(C:Int)≤22950000:=by
   have h1:255 * (bs.take k).length * (bs.take k).length≤255 * 300 * 300:=Nat.mul_le_mul (Nat.mul_le_mul_left _ lk) lk;omega
  clear lS lC lk tb
  by_cases hlt:k < bs.length
  · have hki:(k:Int) < (bs.length:Int):=by omega
    have hcell:=hb'.out.1 k hlt;have hc:bs[k] < 256:=hb'.out.2.2 _ (List.getElem_mem hlt);have nx:Hid (S + bs[k]=totN (bs.take (k + 1))∧M ^^^ bs[k]=mixB (bs.take (k + 1))∧C + (S + bs[k])=(secN (bs.take (k + 1))).2):=by
     refine ⟨?_,?_,?_⟩
     · rw [take_snoc bs hlt,totN_snoc,← vS]
     · rw [take_snoc bs hlt,mixB_snoc,← vM]
     · rw [take_snoc bs hlt,secN_snoc,secN_one,← vC,← vS]
    clear hv vS vM vC;generalize bs[k]=c at *;obtain ⟨M2,hM2⟩:∃ M2:Nat,M ^^^ c=M2:=⟨_,rfl⟩;have xr:bits .xor .i64 (M:Int) (c:Int)=(M2:Int):=by rw [i64_xor_small lM hc,hM2]
    rw [hM2] at nx;replace nx:Hid (S + c=totN (bs.take (k + 1))∧M2=mixB (bs.take (k + 1))∧C + (S + c)=(secN (bs.take (k + 1))).2):=nx;clear hM2;have hci:(0:Int)≤(c:Int)∧(c:Int) < 256:=⟨by omega,by omega⟩;go_wp2;exact ⟨⟨k + 1,S + c,M2,C + (S + c),by omega,by simp,by simp,by simp,by simp,by simp,nx⟩,by simp [intOf]; omega⟩
  · obtain rfl:k=bs.length:=by omega
    rw [List.take_length] at vS vM vC;clear hlt hk hv;clear vS vM vC
    go_wp2_with fail
    refine (cT _ (Below.refl _ _)).mono ?_;rintro e w1 ⟨rfl,hb1⟩;have B:Hid (Below w.heap.size w w1):=hb1;clear hb1
    go_wp2_with fail
    refine (big_any V 2 w1 hV (by omega)).mono ?_;rintro e w2 ⟨x,rfl,hr,hb2⟩;have R:Hid (BytesAt w2 x (endK 7 bs)):=by
     show BytesAt w2 x (bigL (sumV 16 4129 65535 false 0 bs) 2);rw [eV.out]; exact hr.at
    replace B:Hid (Below w.heap.size w w2):=belowT B.out hb2;clear hr hb2;go_wp2
    go_ret2
    exact ⟨_,rfl,R.out,B.out⟩
theorem rof8_nil (w:World) (V:Nat) (hV:V < 4294967296) (eV:Hid (sumV 32 79764919 4294967295 true 4294967295 []=V)) (cT:RSumAtK w (.agg #[.int .i64 32,.int .u32 79764919,.int .u32 4294967295,.bool true,.int .u32 4294967295]) (.slice none 0 0) V) :
 Calls Tryz.prog 26 #[.string e8,.slice none 0 0] w fun e w'=>∃ x,e=.returned (.tuple #[x,.bool true])∧BytesAt w' x (endK 8 [])∧Below w.heap.size w w':=by
 go_enter Tryz.func26,Tryz.ntmps26
 go_wp2
 go_loop [6,7,8,9,10] (fun a b c d i=>a=.int .i64 0∧b=.int .i64 0∧c=.int .i64 0∧d=.int .i64 0∧i=.int .i64 0) (fun _ _ _ _ _=>0)
 case atStart=>exact ⟨rfl,rfl,rfl,rfl,rfl⟩
 case round=>
  obtain ⟨rfl,rfl,rfl,rfl,rfl⟩:=hrel
  go_wp2_with fail
  refine (cT _ (Below.refl _ _)).mono ?_;rintro e w1 ⟨rfl,hb1⟩;have B:Hid (Below w.heap.size w w1):=hb1;clear hb1
  go_wp2_with fail
  refine (big_any V 4 w1 hV (by omega)).mono ?_;rintro e w2 ⟨x,rfl,hr,hb2⟩;have R:Hid (BytesAt w2 x (endK 8 [])):=by
   show BytesAt w2 x (bigL (sumV 32 79764919 4294967295 true 4294967295 []) 4);rw [eV.out]; exact hr.at
  replace B:Hid (Below w.heap.size w w2):=belowT B.out hb2;clear hr hb2;go_wp2
  go_ret2
  exact ⟨_,rfl,R.out,B.out⟩
theorem rof8_row (w:World) (g o cap:Nat) (bs:List Nat) (hl:(bs.length:Int)≤300) (hbs:AllBytes bs) (hb:BytesIn w g o bs) (hg:g < w.heap.size) (V:Nat) (hV:V < 4294967296) (eV:Hid (sumV 32 79764919 4294967295 true 4294967295 bs=V)) (cT:RSumAtK w (.agg #[.int .i64 32,.int .u32 79764919,.int .u32 4294967295,.bool true,.int .u32 4294967295]) (.slice (some ⟨g,o,none⟩) bs.length cap) V) :
 Calls Tryz.prog 26 #[.string e8,.slice (some ⟨g,o,none⟩) bs.length cap] w fun e w'=>∃ x,e=.returned (.tuple #[x,.bool true])∧BytesAt w' x (endK 8 bs)∧Below w.heap.size w w':=by
 have hb':Hid (BytesIn w g o bs∧g < w.heap.size∧AllBytes bs):=⟨hb,hg,hbs⟩;clear hb hg hbs
 go_enter Tryz.func26,Tryz.ntmps26
 go_wp2
 go_loop [6,7,8,9,10] (fun a b c d i=>∃ k S M C:Nat,(k:Int)≤(bs.length:Int)∧i=.int .i64 (k:Int)∧a=.int .i64 (S:Int)∧b=.int .i64 (M:Int)∧c=.int .i64 (C:Int)∧d=.int .i64 (S:Int)∧Hid (S=totN (bs.take k)∧M=mixB (bs.take k)∧C=(secN (bs.take k)).2)) (fun _ _ _ _ i=>bs.length - (intOf i).toNat)
 case atStart=>exact ⟨0,0,0,0,by omega,rfl,rfl,rfl,rfl,rfl,rfl,rfl,rfl⟩
 case round=>
  obtain ⟨k,S,M,C,hk,rfl,rfl,rfl,rfl,rfl,hv⟩:=hrel;obtain ⟨vS,vM,vC⟩:=hv.out;have tb:=take_bytes hb'.out.2.2 k;have lS:=tot_le tb;have lM:=mix_lt tb;have lC:=sec_le tb;rw [← vS] at lS;rw [← vM] at lM;rw [← vC] at lC;have lk:(bs.take k).length≤300:=by rw [List.length_take]; omega
  have lS2:(S:Int)≤76500:=by omega
  have lC2:(C:Int)≤22950000:=by
   have h1:255 * (bs.take k).length * (bs.take k).length≤255 * 300 * 300:=Nat.mul_le_mul (Nat.mul_le_mul_left _ lk) lk;omega
  clear lS lC lk tb
  by_cases hlt:k < bs.length
  · have hki:(k:Int) < (bs.length:Int):=by omega
    have hcell:=hb'.out.1 k hlt;have hc:bs[k] < 256:=hb'.out.2.2 _ (List.getElem_mem hlt);have nx:Hid (S + bs[k]=totN (bs.take (k + 1))∧M ^^^ bs[k]=mixB (bs.take (k + 1))∧C + (S + bs[k])=(secN (bs.take (k + 1))).2):=by
     refine ⟨?_,?_,?_⟩
     · rw [take_snoc bs hlt,totN_snoc,← vS]
     · rw [take_snoc bs hlt,mixB_snoc,← vM]
     · rw [take_snoc bs hlt,secN_snoc,secN_one,← vC,← vS]
    clear hv vS vM vC;generalize bs[k]=c at *;obtain ⟨M2,hM2⟩:∃ M2:Nat,M ^^^ c=M2:=⟨_,rfl⟩;have xr:bits .xor .i64 (M:Int) (c:Int)=(M2:Int):=by rw [i64_xor_small lM hc,hM2]
    rw [hM2] at nx;replace nx:Hid (S + c=totN (bs.take (k + 1))∧M2=mixB (bs.take (k + 1))∧C + (S + c)=(secN (bs.take (k + 1))).2):=nx;clear hM2;have hci:(0:Int)≤(c:Int)∧(c:Int) < 256:=⟨by omega,by omega⟩;go_wp2;exact ⟨⟨k + 1,S + c,M2,C + (S + c),by omega,by simp,by simp,by simp,by simp,by simp,nx⟩,by simp [intOf]; omega⟩
  · obtain rfl:k=bs.length:=by omega
    rw [List.take_length] at vS vM vC;clear hlt hk hv;clear vS vM vC
    go_wp2_with fail
    refine (cT _ (Below.refl _ _)).mono ?_;rintro e w1 ⟨rfl,hb1⟩;have B:Hid (Below w.heap.size w w1):=hb1;clear hb1
    go_wp2_with fail
    refine (big_any V 4 w1 hV (by omega)).mono ?_;rintro e w2 ⟨x,rfl,hr,hb2⟩;have R:Hid (BytesAt w2 x (endK 8 bs)):=by
     show BytesAt w2 x (bigL (sumV 32 79764919 4294967295 true 4294967295 bs) 4);rw [eV.out]; exact hr.at
    replace B:Hid (Below w.heap.size w w2):=belowT B.out hb2;clear hr hb2;go_wp2
    go_ret2
    exact ⟨_,rfl,R.out,B.out⟩
theorem rof9_nil (w:World) (s:ByteArray) (h0:(s.toList == [110,111,110,101])=false) (h1:(s.toList == [115,117,109])=false) (h2:(s.toList == [108,114,99])=false) (h3:(s.toList == [120,111,114])=false) (h4:(s.toList == [102,108,101,116,99,104,101,114])=false) (h5:(s.toList == [99,114,99,56])=false) (h6:(s.toList == [99,114,99,49,54])=false) (h7:(s.toList == [99,99,105,116,116])=false) (h8:(s.toList == [99,114,99,51,50])=false) :
 Calls Tryz.prog 26 #[.string s,.slice none 0 0] w fun e w'=>e=.returned (.tuple #[.slice none 0 0,.bool false])∧Below w.heap.size w w':=by
 go_enter Tryz.func26,Tryz.ntmps26
 go_wp2
 go_loop [6,7,8,9,10] (fun a b c d i=>a=.int .i64 0∧b=.int .i64 0∧c=.int .i64 0∧d=.int .i64 0∧i=.int .i64 0) (fun _ _ _ _ _=>0)
 case atStart=>exact ⟨rfl,rfl,rfl,rfl,rfl⟩
 case round=>
  obtain ⟨rfl,rfl,rfl,rfl,rfl⟩:=hrel;go_wp2
  go_ret2
  exact ⟨rfl,Below.refl _ _⟩
theorem rof9_row (w:World) (s:ByteArray) (h0:(s.toList == [110,111,110,101])=false) (h1:(s.toList == [115,117,109])=false) (h2:(s.toList == [108,114,99])=false) (h3:(s.toList == [120,111,114])=false) (h4:(s.toList == [102,108,101,116,99,104,101,114])=false) (h5:(s.toList == [99,114,99,56])=false) (h6:(s.toList == [99,114,99,49,54])=false) (h7:(s.toList == [99,99,105,116,116])=false) (h8:(s.toList == [99,114,99,51,50])=false) (g o cap:Nat) (bs:List Nat) (hl:(bs.length:Int)≤300) (hbs:AllBytes bs) (hb:BytesIn w g o bs) (hg:g < w.heap.size) :
 Calls Tryz.prog 26 #[.string s,.slice (some ⟨g,o,none⟩) bs.length cap] w fun e w'=>e=.returned (.tuple #[.slice none 0 0,.bool false])∧Below w.heap.size w w':=by
 have hb':Hid (BytesIn w g o bs∧g < w.heap.size∧AllBytes bs):=⟨hb,hg,hbs⟩;clear hb hg hbs
 go_enter Tryz.func26,Tryz.ntmps26
 go_wp2
 go_loop [6,7,8,9,10] (fun a b c d i=>∃ k S M C:Nat,(k:Int)≤(bs.length:Int)∧i=.int .i64 (k:Int)∧a=.int .i64 (S:Int)∧b=.int .i64 (M:Int)∧c=.int .i64 (C:Int)∧d=.int .i64 (S:Int)∧Hid (S=totN (bs.take k)∧M=mixB (bs.take k)∧C=(secN (bs.take k)).2)) (fun _ _ _ _ i=>bs.length - (intOf i).toNat)
 case atStart=>exact ⟨0,0,0,0,by omega,rfl,rfl,rfl,rfl,rfl,rfl,rfl,rfl⟩
 case round=>
  obtain ⟨k,S,M,C,hk,rfl,rfl,rfl,rfl,rfl,hv⟩:=hrel;obtain ⟨vS,vM,vC⟩:=hv.out;have tb:=take_bytes hb'.out.2.2 k;have lS:=tot_le tb;have lM:=mix_lt tb;have lC:=sec_le tb;rw [← vS] at lS;rw [← vM] at lM;rw [← vC] at lC;have lk:(bs.take k).length≤300:=by rw [List.length_take]; omega
  have lS2:(S:Int)≤76500:=by omega
  have lC2:(C:Int)≤22950000:=by
   have h1:255 * (bs.take k).length * (bs.take k).length≤255 * 300 * 300:=Nat.mul_le_mul (Nat.mul_le_mul_left _ lk) lk;omega
  clear lS lC lk tb
  by_cases hlt:k < bs.length
  · have hki:(k:Int) < (bs.length:Int):=by omega
    have hcell:=hb'.out.1 k hlt;have hc:bs[k] < 256:=hb'.out.2.2 _ (List.getElem_mem hlt);have nx:Hid (S + bs[k]=totN (bs.take (k + 1))∧M ^^^ bs[k]=mixB (bs.take (k + 1))∧C + (S + bs[k])=(secN (bs.take (k + 1))).2):=by
     refine ⟨?_,?_,?_⟩
     · rw [take_snoc bs hlt,totN_snoc,← vS]
     · rw [take_snoc bs hlt,mixB_snoc,← vM]
     · rw [take_snoc bs hlt,secN_snoc,secN_one,← vC,← vS]
    clear hv vS vM vC;generalize bs[k]=c at *;obtain ⟨M2,hM2⟩:∃ M2:Nat,M ^^^ c=M2:=⟨_,rfl⟩;have xr:bits .xor .i64 (M:Int) (c:Int)=(M2:Int):=by rw [i64_xor_small lM hc,hM2]
    rw [hM2] at nx;replace nx:Hid (S + c=totN (bs.take (k + 1))∧M2=mixB (bs.take (k + 1))∧C + (S + c)=(secN (bs.take (k + 1))).2):=nx;clear hM2;have hci:(0:Int)≤(c:Int)∧(c:Int) < 256:=⟨by omega,by omega⟩;go_wp2;exact ⟨⟨k + 1,S + c,M2,C + (S + c),by omega,by simp,by simp,by simp,by simp,by simp,nx⟩,by simp [intOf]; omega⟩
  · obtain rfl:k=bs.length:=by omega
    rw [List.take_length] at vS vM vC;clear hlt hk hv;clear vS vM vC;go_wp2
    go_ret2
    exact ⟨rfl,Below.refl _ _⟩
theorem kind_ok:kindB 8 7 0 0=true∧kindB 16 32773 0 0=true∧kindB 16 4129 65535 0=true∧kindB 32 79764919 4294967295 4294967295=true:=⟨by kernel_rfl,by kernel_rfl,by kernel_rfl,by kernel_rfl⟩
theorem sumV_below {W:Int} {p f:Nat} {t:Bool} {z:Nat} {bs:List Nat} (hk:kindB W p f z=true):sumV W p f t z bs < 2 ^ W.toNat:=by
 have hw:=kind_width hk;have hz:z < 2 ^ W.toNat:=by
  unfold kindB at hk;simp only [Bool.and_eq_true,decide_eq_true_eq] at hk;exact hk.2.2.2
 rw [sumV_yes hk];exact sumL_lt (by omega) hz
theorem sumV_u32 {W:Int} {p f:Nat} {t:Bool} {z:Nat} {bs:List Nat} (hk:kindB W p f z=true):sumV W p f t z bs < 4294967296:=by
 have hw:=kind_width hk;have h1:=sumV_below (t:=t) (bs:=bs) hk;have h2:2 ^ W.toNat≤2 ^ 32:=Nat.pow_le_pow_right (by omega) (by omega);omega
theorem rsumAtK {w:World} {W:Int} {p f:Nat} {t:Bool} {z:Nat} {v:Value} {bs:List Nat} (hp:p < 4294967296) (hf:f < 4294967296) (hz:z < 4294967296) (hv:BytesAt w v bs) (hl:(bs.length:Int)≤300) (hb:AllBytes bs) (hk:kindB W p f z=true):RSumAtK w (kv W p f t z) v (sumV W p f t z bs):=by
 intro x hx;have hw:=kind_width hk;have e:((W.toNat:Nat):Int)=W:=by omega
 have k:=rsum_any W.toNat p f t z v bs x (by omega) hp hf hz hb (by omega) (hv.below hx);rw [e,← sumV_yes hk] at k;exact k
theorem rof_yes {k:Nat} (hk:k < 9) (v:Value) (bs:List Nat) (w:World) (hv:BytesAt w v bs) (hl:(bs.length:Int)≤300) (hb:AllBytes bs) :
 Calls Tryz.prog 26 #[.string (nameN k),v] w fun e w'=>∃ x,e=.returned (.tuple #[x,.bool true])∧BytesAt w' x (endK k bs)∧Below w.heap.size w w':=by
 have c8:=rsumAtK (W:=8) (p:=7) (f:=0) (t:=false) (z:=0) (by omega) (by omega) (by omega) hv hl hb kind_ok.1;have c16:=rsumAtK (W:=16) (p:=32773) (f:=0) (t:=true) (z:=0) (by omega) (by omega) (by omega) hv hl hb kind_ok.2.1;have cC:=rsumAtK (W:=16) (p:=4129) (f:=65535) (t:=false) (z:=0) (by omega) (by omega) (by omega) hv hl hb kind_ok.2.2.1;have c32:=rsumAtK (W:=32) (p:=79764919) (f:=4294967295) (t:=true) (z:=4294967295) (by omega) (by omega) (by omega) hv hl hb kind_ok.2.2.2;have l8:=sumV_u32 (t:=false) (bs:=bs) kind_ok.1;have l16:=sumV_u32 (t:=true) (bs:=bs) kind_ok.2.1;have lC:=sumV_u32 (t:=false) (bs:=bs) kind_ok.2.2.1;have l32:=sumV_u32 (t:=true) (bs:=bs) kind_ok.2.2.2;rcases hv with ⟨rfl,rfl⟩ | ⟨g,o,cap,rfl,h1,h2⟩
 · match k,hk with
   | 0,_=>exact rof0_nil w
   | 1,_=>exact rof1_nil w
   | 2,_=>exact rof2_nil w
   | 3,_=>exact rof3_nil w
   | 4,_=>exact rof4_nil w
   | 5,_=>exact rof5_nil w _ l8 rfl c8
   | 6,_=>exact rof6_nil w _ l16 rfl c16
   | 7,_=>exact rof7_nil w _ lC rfl cC
   | 8,_=>exact rof8_nil w _ l32 rfl c32
 · match k,hk with
   | 0,_=>exact rof0_row w g o cap bs hl hb h1 h2
   | 1,_=>exact rof1_row w g o cap bs hl hb h1 h2
   | 2,_=>exact rof2_row w g o cap bs hl hb h1 h2
   | 3,_=>exact rof3_row w g o cap bs hl hb h1 h2
   | 4,_=>exact rof4_row w g o cap bs hl hb h1 h2
   | 5,_=>exact rof5_row w g o cap bs hl hb h1 h2 _ l8 rfl c8
   | 6,_=>exact rof6_row w g o cap bs hl hb h1 h2 _ l16 rfl c16
   | 7,_=>exact rof7_row w g o cap bs hl hb h1 h2 _ lC rfl cC
   | 8,_=>exact rof8_row w g o cap bs hl hb h1 h2 _ l32 rfl c32
theorem rof_no (s:ByteArray) (v:Value) (bs:List Nat) (w:World) (hv:BytesAt w v bs) (hl:(bs.length:Int)≤300) (hb:AllBytes bs) (n:¬ s=e0∧¬ s=e1∧¬ s=e2∧¬ s=e3∧¬ s=e4∧¬ s=e5∧¬ s=e6∧¬ s=e7∧¬ s=e8) :
 Calls Tryz.prog 26 #[.string s,v] w fun e w'=>e=.returned (.tuple #[.slice none 0 0,.bool false])∧Below w.heap.size w w':=by
 obtain ⟨n0,n1,n2,n3,n4,n5,n6,n7,n8⟩:=n;rcases hv with ⟨rfl,rfl⟩ | ⟨g,o,cap,rfl,h1,h2⟩
 · exact rof9_nil w s (not_e0 n0) (not_e1 n1) (not_e2 n2) (not_e3 n3) (not_e4 n4) (not_e5 n5) (not_e6 n6) (not_e7 n7) (not_e8 n8)
 · exact rof9_row w s (not_e0 n0) (not_e1 n1) (not_e2 n2) (not_e3 n3) (not_e4 n4) (not_e5 n5) (not_e6 n6) (not_e7 n7) (not_e8 n8) g o cap bs hl hb h1 h2
def NoName (s:ByteArray):Prop:=¬ s=e0∧¬ s=e1∧¬ s=e2∧¬ s=e3∧¬ s=e4∧¬ s=e5∧¬ s=e6∧¬ s=e7∧¬ s=e8
def SizeP:Prop:=∀ (k:Nat) (w:World),k < 9→Calls Tryz.prog 80 #[.string (nameN k)] w fun e w'=>e=.returned (.tuple #[.int .i64 ((sizeK k:Nat):Int),.bool true])∧Below w.heap.size w w'
def SizeN:Prop:=∀ (s:ByteArray) (w:World),NoName s→Calls Tryz.prog 80 #[.string s] w fun e w'=>e=.returned (.tuple #[.int .i64 0,.bool false])∧Below w.heap.size w w'
theorem divided_any (s:ByteArray) (w:World):Calls Tryz.prog 136 #[.string s] w fun e w'=>e=.returned (.func (.func 146) #[] #[.pointer (some ⟨w.heap.size,0,none⟩)])∧w'=w.alloc (.cells #[.string s] 9):=by
 have hmf:∀ (fn:Fn) (first cap:Array Value) (w:World),(Instr.makeFunc fn first cap).run Tryz.prog w=.ok (.func fn first cap) w:=fun _ _ _ _=>rfl
 go_enter Tryz.func136,Tryz.ntmps136
 go_wp2;go_ret;exact ⟨rfl,rfl⟩
end Go.Proofs.YthabffjgdhfbmaaGreatDoor
