/-
  Texts that belong together, one behind the other: LexPN, LexPM, LexPD, LexPH, DsP1. Conditions: as each says.
-/
import Derived.Deep.OwnRows
import Derived.Deep.RegionHeld3
import Derived.Laws.RangeAny
import Derived.Laws.ShiftsVar
import Derived.Test.YthabffjgdhfbmaaGreatDoorJl1
import Derived.Test.YthabffjgdhfbmaaGreatDoorJl2
import Derived.Test.YthabffjgdhfbmaaGreatDoorJl3
set_option maxRecDepth 100000
set_option maxHeartbeats 32000000
set_option linter.unusedVariables false
namespace Go.Proofs.YthabffjgdhfbmaaGreatDoor
open Go.RowKit
theorem pnum_e (s:ByteArray) (w:World) (lo hi V E:Int) (bV:-9223372036854775808≤V∧V≤9223372036854775807) (hE:¬ E=0) (hE2:(E != 0)=true) (f:Hid (Calls Tryz.prog 144 #[.string s] w fun e w'=>e=.returned (.tuple #[.int .i64 V,.int .i64 E])∧w'=w)) :
 Calls Tryz.prog 128 #[.string s,.int .i64 lo,.int .i64 hi] w fun e w'=>e=.returned (.tuple #[.int .i64 0,.bool false])∧w'=w:=by
 go_enter Tryz.func128,Tryz.ntmps128
 go_wp2_with fail
 refine f.out.mono ?_;rintro e w1 ⟨rfl,rfl⟩;clear f;go_wp2
 go_ret2
 exact ⟨rfl,rfl⟩
theorem pnum_lo (s:ByteArray) (w:World) (lo hi V:Int) (bV:-9223372036854775808≤V∧V≤9223372036854775807) (q1:V < lo) (f:Hid (Calls Tryz.prog 144 #[.string s] w fun e w'=>e=.returned (.tuple #[.int .i64 V,.int .i64 0])∧w'=w)) :
 Calls Tryz.prog 128 #[.string s,.int .i64 lo,.int .i64 hi] w fun e w'=>e=.returned (.tuple #[.int .i64 0,.bool false])∧w'=w:=by
 go_enter Tryz.func128,Tryz.ntmps128
 go_wp2_with fail
 refine f.out.mono ?_;rintro e w1 ⟨rfl,rfl⟩;clear f;go_wp2
 go_ret2
 exact ⟨rfl,rfl⟩
theorem pnum_hi (s:ByteArray) (w:World) (lo hi V:Int) (bV:-9223372036854775808≤V∧V≤9223372036854775807) (q0:lo≤V) (q1:hi < V) (f:Hid (Calls Tryz.prog 144 #[.string s] w fun e w'=>e=.returned (.tuple #[.int .i64 V,.int .i64 0])∧w'=w)) :
 Calls Tryz.prog 128 #[.string s,.int .i64 lo,.int .i64 hi] w fun e w'=>e=.returned (.tuple #[.int .i64 0,.bool false])∧w'=w:=by
 go_enter Tryz.func128,Tryz.ntmps128
 go_wp2_with fail
 refine f.out.mono ?_;rintro e w1 ⟨rfl,rfl⟩;clear f;go_wp2
 go_ret2
 exact ⟨rfl,rfl⟩
theorem pnum_ok (s:ByteArray) (w:World) (lo hi V:Int) (bV:-9223372036854775808≤V∧V≤9223372036854775807) (q0:lo≤V) (q1:V≤hi) (f:Hid (Calls Tryz.prog 144 #[.string s] w fun e w'=>e=.returned (.tuple #[.int .i64 V,.int .i64 0])∧w'=w)) :
 Calls Tryz.prog 128 #[.string s,.int .i64 lo,.int .i64 hi] w fun e w'=>e=.returned (.tuple #[.int .i64 V,.bool true])∧w'=w:=by
 go_enter Tryz.func128,Tryz.ntmps128
 go_wp2_with fail
 refine f.out.mono ?_;rintro e w1 ⟨rfl,rfl⟩;clear f;go_wp2
 go_ret2
 exact ⟨rfl,rfl⟩
theorem pnum_any (s:ByteArray) (w:World) (hs:s.size≤maxLen) (lo hi:Int):Calls Tryz.prog 128 #[.string s,.int .i64 lo,.int .i64 hi] w fun e w'=>e=.returned (.tuple #[.int .i64 (numV s.data.toList lo hi),.bool (numB s.data.toList lo hi)])∧w'=w:=by
 have f:=read_any s w hs;have bV:=readV_bd s.data.toList;unfold numV;obtain ⟨B,hB⟩:∃ B,numB s.data.toList lo hi=B:=⟨_,rfl⟩;have hB2:=hB;unfold numB at hB2;rw [hB]
 by_cases hE:readE s.data.toList=0
 · rw [hE] at f hB2
   by_cases q0:lo≤readV s.data.toList
   · by_cases q1:readV s.data.toList≤hi
     · obtain rfl:B=true:=by rw [← hB2]; simp [q0,q1]
       rw [if_pos rfl];exact pnum_ok s w lo hi _ bV q0 q1 f
     · obtain rfl:B=false:=by rw [← hB2]; simp; omega
       rw [if_neg (by simp)];exact pnum_hi s w lo hi _ bV q0 (by omega) f
   · obtain rfl:B=false:=by rw [← hB2]; simp; omega
     rw [if_neg (by simp)];exact pnum_lo s w lo hi _ bV (by omega) f
 · obtain rfl:B=false:=by rw [← hB2]; simp [hE]
   rw [if_neg (by simp)];exact pnum_e s w lo hi _ _ bV hE (bne_iff_ne.2 hE) f
theorem below_iter (w:World) (s:ByteArray) (p:Nat):Below w.heap.size w (w.iter s p):=(Below.refl _ _).alloc (Nat.le_refl _) _
def NameK (l:List UInt8) (k:Nat):Prop:=allN (l.take k)=true∧(0 < k→∃ c r,l=c :: r∧lowB c=true)
theorem nameK_first (l:List UInt8):NameK l 0:=⟨rfl,fun h=>absurd h (by omega)⟩
theorem nameK_next {l:List UInt8} {k:Nat} (h:k < l.length) (ha:NameK l k) (hc:nameC l[k]=true) (h0:k=0→lowB l[k]=true):NameK l (k + 1):=by
 refine ⟨allN_next h ha.1 hc,fun _=>?_⟩
 by_cases hk:k=0
 · subst hk;exact ⟨l[0],l.drop 1,by have e:=List.drop_eq_getElem_cons h; simpa using e,h0 rfl⟩
 · exact ha.2 (by omega)
theorem nameB_long {l:List UInt8} (h:¬ l.length≤12):nameB l=false:=by unfold nameB; rw [decide_eq_false h]; rfl
theorem nameB_all {l:List UInt8} (h:NameK l l.length) (h0:0 < l.length) (h12:l.length≤12):nameB l=true:=by
 obtain ⟨h1,h2⟩:=h;obtain ⟨c,r,e,hc⟩:=h2 h0;rw [List.take_length] at h1;subst e;unfold nameB;rw [decide_eq_true h12,h1];show (true && (lowB c && true))=true;rw [hc]; rfl
theorem nameB_stop {l:List UInt8} {k:Nat} (h:k < l.length) (hc:nameC l[k]=false ∨ (k=0∧lowB l[k]=false)):nameB l=false:=by
 unfold nameB
 cases l with
 | nil=>simp
 | cons c r=>
  rcases hc with hc | ⟨hk,hc⟩
  · show (decide _ && (lowB c && allN (c :: r)))=false;rw [allN_stop h hc]; simp
  · subst hk;show (decide _ && (lowB c && allN (c :: r)))=false;rw [show lowB c=false from hc]; simp
theorem pname_main (s:ByteArray) (w:World) (h0:(1:Int)≤(s.size:Int)) (h12:(s.size:Int)≤12) :
 Calls Tryz.prog 46 #[.string s] w fun e w'=>e=.returned (.bool (nameB s.data.toList))∧Below w.heap.size w w':=by
 have g1:decide ((s.size:Int) < 1)=false:=decide_eq_false (by omega);have g2:decide (12 < (s.size:Int))=false:=decide_eq_false (by omega);have hlen:s.data.toList.length=s.size:=by simp
 obtain ⟨T,hT⟩:∃ T,nameB s.data.toList=T:=⟨_,rfl⟩;rw [hT];replace hT:Hid (nameB s.data.toList=T):=hT
 go_enter Tryz.func46,Tryz.ntmps46
 go_wp2
 go_loopw [] (fun wr=>∃ k:Nat,k≤s.size∧wr=w.iter s k∧Hid (NameK s.data.toList k)) (fun wr=>s.size - wr.iterPos w.heap.size)
 case atStart=>exact ⟨0,Nat.zero_le _,rfl,nameK_first _⟩
 case round=>
  obtain ⟨k,hk,rfl,hall⟩:=hrel
  by_cases hlt:k < s.size
  · have hl:k < s.data.toList.length:=by simpa using hlt
    have lk:s[k].toNat < 256:=s[k].toNat_lt;have stp:Hid (nameC s[k]=false ∨ (k=0∧lowB s[k]=false)→T=false):=fun h=>by rw [← hT.out]; exact nameB_stop hl h
    have nx:Hid (nameC s[k]=true→(k=0→lowB s[k]=true)→NameK s.data.toList (k + 1)):=fun h h2=>nameK_next hl hall.out h h2
    clear hall hT
    by_cases ha:s[k].toNat < 128
    · have hd:=decode_ascii s k hlt ha;have hnx:∀ ty,(Instr.next (.pointer (some ⟨w.heap.size,0,none⟩)) true ty).run Tryz.prog (w.iter s k)=.ok (.tuple #[.bool true,.int .i64 (k:Int),.int .i32 (s[k].toNat:Int)]) (w.iter s (k + 1)):=fun ty=>by rw [run_next_any w s k ty hlt,hd]
      clear hd;obtain ⟨c,hc⟩:∃ c:Nat,s[k].toNat=c:=⟨_,rfl⟩;have hcn:Hid ((nameC s[k]=decide ((97≤c∧c≤122) ∨ (48≤c∧c≤57)))∧(lowB s[k]=decide (97≤c∧c≤122))):=by rw [← hc]; exact ⟨rfl,rfl⟩
      rw [hc] at hnx ha lk;clear hc
      by_cases a1:(97:Int)≤(c:Int)
      · have q1:decide ((97:Int)≤(c:Int))=true:=decide_eq_true a1
        by_cases a2:(c:Int)≤122
        · have q2:decide ((c:Int)≤122)=true:=decide_eq_true a2;have nl:Hid (NameK s.data.toList (k + 1)):=nx.out (by rw [hcn.out.1]; exact decide_eq_true (by omega)) (fun _=>by rw [hcn.out.2]; exact decide_eq_true (by omega));clear nx stp hcn;go_wp2;exact ⟨⟨k + 1,by omega,rfl,nl⟩,by simp; omega⟩
        · have q2:decide ((c:Int)≤122)=false:=decide_eq_false a2;have q3:decide ((48:Int)≤(c:Int))=true:=decide_eq_true (by omega);have q4:decide ((c:Int)≤57)=false:=decide_eq_false (by omega);have fin:Hid (T=false):=stp.out (.inl (by rw [hcn.out.1]; exact decide_eq_false (by omega)));clear nx stp hcn;go_wp2;go_ret;exact ⟨ret_bb fin.out,below_iter _ _ _⟩
      · have q1:decide ((97:Int)≤(c:Int))=false:=decide_eq_false a1
        by_cases a3:(48:Int)≤(c:Int)
        · have q3:decide ((48:Int)≤(c:Int))=true:=decide_eq_true a3
          by_cases a4:(c:Int)≤57
          · have q4:decide ((c:Int)≤57)=true:=decide_eq_true a4
            by_cases k0:(k:Int)=0
            · have q5:((k:Int) == 0)=true:=by simp [k0]
              have fin:Hid (T=false):=stp.out (.inr ⟨by omega,by rw [hcn.out.2]; exact decide_eq_false (by omega)⟩);clear nx stp hcn;go_wp2;go_ret;exact ⟨ret_bb fin.out,below_iter _ _ _⟩
            · have q5:((k:Int) == 0)=false:=beq_eq_false_iff_ne.2 k0;have nl:Hid (NameK s.data.toList (k + 1)):=nx.out (by rw [hcn.out.1]; exact decide_eq_true (by omega)) (fun h=>absurd h (by omega));clear nx stp hcn;go_wp2;exact ⟨⟨k + 1,by omega,rfl,nl⟩,by simp; omega⟩
          · have q4:decide ((c:Int)≤57)=false:=decide_eq_false a4;have fin:Hid (T=false):=stp.out (.inl (by rw [hcn.out.1]; exact decide_eq_false (by omega)));clear nx stp hcn;go_wp2;go_ret;exact ⟨ret_bb fin.out,below_iter _ _ _⟩
        · have q3:decide ((48:Int)≤(c:Int))=false:=decide_eq_false a3;have fin:Hid (T=false):=stp.out (.inl (by rw [hcn.out.1]; exact decide_eq_false (by omega)));clear nx stp hcn;go_wp2;go_ret;exact ⟨ret_bb fin.out,below_iter _ _ _⟩
    · have hd:=decode_high s k hlt (by omega);obtain ⟨R,hR⟩:∃ R:Nat,(Utf8.decode s k).1=R:=⟨_,rfl⟩;obtain ⟨D,hD⟩:∃ D:Nat,(Utf8.decode s k).2=D:=⟨_,rfl⟩;have hnx:∀ ty,(Instr.next (.pointer (some ⟨w.heap.size,0,none⟩)) true ty).run Tryz.prog (w.iter s k)=.ok (.tuple #[.bool true,.int .i64 (k:Int),.int .i32 (R:Int)]) (w.iter s (k + D)):=fun ty=>by rw [run_next_any w s k ty hlt,hR,hD]
      rw [hR] at hd;have hR1:(128:Int)≤(R:Int):=by omega
      have q1:decide ((97:Int)≤(R:Int))=true:=decide_eq_true (by omega);have q2:decide ((R:Int)≤122)=false:=decide_eq_false (by omega);have q3:decide ((48:Int)≤(R:Int))=true:=decide_eq_true (by omega);have q4:decide ((R:Int)≤57)=false:=decide_eq_false (by omega);have fin:Hid (T=false):=stp.out (.inl (by unfold nameC; exact decide_eq_false (by omega)));clear nx stp hd hR hD;go_wp2;go_ret;exact ⟨ret_bb fin.out,below_iter _ _ _⟩
  · obtain rfl:k=s.size:=by omega
    have fin:Hid (T=true):=by
     rw [← hT.out];exact nameB_all (by rw [hlen]; exact hall.out) (by omega) (by omega)
    have hnx:∀ ty,(Instr.next (.pointer (some ⟨w.heap.size,0,none⟩)) true ty).run Tryz.prog (w.iter s s.size)=_:=fun ty=>run_next_end w s s.size ty (by omega)
    clear hall hT;go_wp2;go_ret;exact ⟨ret_bb fin.out,below_iter _ _ _⟩
theorem pname_zero (s:ByteArray) (w:World) (h0:(s.size:Int) < 1) :
 Calls Tryz.prog 46 #[.string s] w fun e w'=>e=.returned (.bool false)∧w'=w:=by
 have g1:decide ((s.size:Int) < 1)=true:=decide_eq_true (by omega)
 go_enter Tryz.func46,Tryz.ntmps46
 go_wp2;go_ret;exact ⟨rfl,rfl⟩
theorem pname_long (s:ByteArray) (w:World) (h12:12 < (s.size:Int)) :
 Calls Tryz.prog 46 #[.string s] w fun e w'=>e=.returned (.bool false)∧w'=w:=by
 have g1:decide ((s.size:Int) < 1)=false:=decide_eq_false (by omega);have g2:decide (12 < (s.size:Int))=true:=decide_eq_true (by omega)
 go_enter Tryz.func46,Tryz.ntmps46
 go_wp2;go_ret;exact ⟨rfl,rfl⟩
theorem HM:NameP:=fun s w hs=>by
 have hlen:s.data.toList.length=s.size:=by simp
 by_cases h0:(s.size:Int) < 1
 · have e:s.data.toList=[]:=List.length_eq_zero_iff.1 (by rw [hlen]; omega);rw [e];exact same_w (pname_zero s w h0)
 · by_cases h12:(s.size:Int)≤12
   · exact pname_main s w (by omega) h12
   · rw [nameB_long (by rw [hlen]; omega)];exact same_w (pname_long s w (by omega))
theorem digit_fig (c:Nat) (hc:(0:Int)≤(c:Int)∧(c:Int) < 256) (h1:(48:Int)≤(c:Int)) (h2:(c:Int)≤57) (w:World):Calls Tryz.prog 145 #[.int .u8 (c:Int)] w fun e w'=>e=.returned (.tuple #[.int .u8 ((c:Int) - 48),.bool true])∧w'=w:=by
 have q1:decide ((48:Int)≤(c:Int))=true:=decide_eq_true h1;have q2:decide ((c:Int)≤57)=true:=decide_eq_true h2;have wr:IntKind.u8.wrap ((c:Int) - 48)=(c:Int) - 48:=by simp only [IntKind.wrap_u8']; omega
 go_enter Tryz.func145,Tryz.ntmps145
 go_wp2
 go_ret2
 exact ⟨rfl,rfl⟩
theorem digit_low (c:Nat) (hc:(0:Int)≤(c:Int)∧(c:Int) < 256) (h1:(97:Int)≤(c:Int)) (h2:(c:Int)≤102) (w:World):Calls Tryz.prog 145 #[.int .u8 (c:Int)] w fun e w'=>e=.returned (.tuple #[.int .u8 ((c:Int) - 97 + 10),.bool true])∧w'=w:=by
 have q1:decide ((48:Int)≤(c:Int))=true:=decide_eq_true (by omega);have q2:decide ((c:Int)≤57)=false:=decide_eq_false (by omega);have q3:decide ((97:Int)≤(c:Int))=true:=decide_eq_true h1;have q4:decide ((c:Int)≤102)=true:=decide_eq_true h2;have wr:IntKind.u8.wrap ((c:Int) - 97)=(c:Int) - 97:=by simp only [IntKind.wrap_u8']; omega
 have wr2:IntKind.u8.wrap ((c:Int) - 97 + 10)=(c:Int) - 97 + 10:=by simp only [IntKind.wrap_u8']; omega
 go_enter Tryz.func145,Tryz.ntmps145
 go_wp2
 go_ret2
 exact ⟨rfl,rfl⟩
theorem digit_n1 (c:Nat) (hc:(0:Int)≤(c:Int)∧(c:Int) < 256) (h1:(c:Int) < 48) (w:World):Calls Tryz.prog 145 #[.int .u8 (c:Int)] w fun e w'=>e=.returned (.tuple #[.int .u8 (0),.bool false])∧w'=w:=by
 have q1:decide ((48:Int)≤(c:Int))=false:=decide_eq_false (by omega);have q3:decide ((97:Int)≤(c:Int))=false:=decide_eq_false (by omega)
 go_enter Tryz.func145,Tryz.ntmps145
 go_wp2
 go_ret2
 exact ⟨rfl,rfl⟩
theorem digit_n2 (c:Nat) (hc:(0:Int)≤(c:Int)∧(c:Int) < 256) (h1:(57:Int) < (c:Int)) (h2:(c:Int) < 97) (w:World):Calls Tryz.prog 145 #[.int .u8 (c:Int)] w fun e w'=>e=.returned (.tuple #[.int .u8 (0),.bool false])∧w'=w:=by
 have q1:decide ((48:Int)≤(c:Int))=true:=decide_eq_true (by omega);have q2:decide ((c:Int)≤57)=false:=decide_eq_false (by omega);have q3:decide ((97:Int)≤(c:Int))=false:=decide_eq_false (by omega)
 go_enter Tryz.func145,Tryz.ntmps145
 go_wp2
 go_ret2
 exact ⟨rfl,rfl⟩
theorem digit_n3 (c:Nat) (hc:(0:Int)≤(c:Int)∧(c:Int) < 256) (h1:(102:Int) < (c:Int)) (w:World):Calls Tryz.prog 145 #[.int .u8 (c:Int)] w fun e w'=>e=.returned (.tuple #[.int .u8 (0),.bool false])∧w'=w:=by
 have q1:decide ((48:Int)≤(c:Int))=true:=decide_eq_true (by omega);have q2:decide ((c:Int)≤57)=false:=decide_eq_false (by omega);have q3:decide ((97:Int)≤(c:Int))=true:=decide_eq_true (by omega);have q4:decide ((c:Int)≤102)=false:=decide_eq_false (by omega)
 go_enter Tryz.func145,Tryz.ntmps145
 go_wp2
 go_ret2
 exact ⟨rfl,rfl⟩
def dgV (c:Nat):Nat:=(halfC c).toNat
def dgB (c:Nat):Bool:=decide (0≤halfC c)
theorem dgV_lt (c:Nat):dgV c < 16:=by unfold dgV; have:=half_bd c; omega
theorem digit_any (c:Nat) (hc:c < 256) (w:World):Calls Tryz.prog 145 #[.int .u8 (c:Int)] w fun e w'=>e=.returned (.tuple #[.int .u8 ((dgV c:Nat):Int),.bool (dgB c)])∧w'=w:=by
 have hci:(0:Int)≤(c:Int)∧(c:Int) < 256:=⟨by omega,by omega⟩;have key:∀ (V:Int) (B:Bool),(Calls Tryz.prog 145 #[.int .u8 (c:Int)] w fun e w'=>e=.returned (.tuple #[.int .u8 V,.bool B])∧w'=w)→V=((dgV c:Nat):Int)→B=dgB c→Calls Tryz.prog 145 #[.int .u8 (c:Int)] w fun e w'=>e=.returned (.tuple #[.int .u8 ((dgV c:Nat):Int),.bool (dgB c)])∧w'=w:=fun V B h e1 e2=>by rw [← e1,← e2]; exact h
 by_cases h1:48≤c
 · by_cases h2:c≤57
   · have e:halfC c=(c:Int) - 48:=by unfold halfC; rw [if_pos ⟨h1,h2⟩]
     exact key _ _ (digit_fig c hci (by omega) (by omega) w) (by unfold dgV; rw [e]; omega) (by unfold dgB; rw [e]; exact (decide_eq_true (by omega)).symm)
   · by_cases h3:97≤c
     · by_cases h4:c≤102
       · have e:halfC c=(c:Int) - 87:=by unfold halfC; rw [if_neg (by omega),if_pos ⟨h3,h4⟩]
         exact key _ _ (digit_low c hci (by omega) (by omega) w) (by unfold dgV; rw [e]; omega) (by unfold dgB; rw [e]; exact (decide_eq_true (by omega)).symm)
       · have e:halfC c=-1:=by unfold halfC; rw [if_neg (by omega),if_neg (by omega)]
         exact key _ _ (digit_n3 c hci (by omega) w) (by unfold dgV; rw [e]; rfl) (by unfold dgB; rw [e]; rfl)
     · have e:halfC c=-1:=by unfold halfC; rw [if_neg (by omega),if_neg (by omega)]
       exact key _ _ (digit_n2 c hci (by omega) (by omega) w) (by unfold dgV; rw [e]; rfl) (by unfold dgB; rw [e]; rfl)
 · have e:halfC c=-1:=by unfold halfC; rw [if_neg (by omega),if_neg (by omega)]
   exact key _ _ (digit_n1 c hci (by omega) w) (by unfold dgV; rw [e]; rfl) (by unfold dgB; rw [e]; rfl)
def FreshV (w:World) (v:Value):Prop:=v=.slice none 0 0 ∨ ∃ a n cap,v=.slice (some a) n cap∧w.heap.size≤a.block
def HexP2:Prop:=∀ (s:ByteArray) (w:World),(s.size:Int)≤5000→Calls Tryz.prog 130 #[.string s] w fun e w'=>∃ v,e=.returned (.tuple #[v,.bool (hexR s.data.toList).isSome])∧BytesAt w' v ((hexR s.data.toList).getD [])∧FreshV w v∧Below w.heap.size w w'
theorem rowH_zero (w:World) (L:Nat) (hm:L≤maxLen):RowU (w.alloc (.cells (madeCells #[.int .u8 0] L) 5)) w.heap.size L (List.replicate L 0):=by
 have hc:(madeCells #[.int .u8 0] L).toList=u8v (List.replicate L 0):=by rw [toList_madeCells_one]; simp
 refine ⟨by simp,hm,_,World.alloc_heap_new w _,?_,?_⟩
 · have:=congrArg List.length hc
   simpa using this
 · rw [hc,List.length_replicate,List.take_of_length_le (by simp)]
def hexRow (L:Nat) (out:List Nat):List Nat:=out ++ List.replicate (L - out.length) 0
theorem hexRow_len {L:Nat} {out:List Nat} (h:out.length≤L):(hexRow L out).length=L:=by unfold hexRow; simp; omega
theorem hexRow_set {L:Nat} {out:List Nat} (h:out.length < L) (b:Nat):(hexRow L out).set out.length b=hexRow L (out ++ [b]):=by
 unfold hexRow;obtain ⟨m,hm⟩:∃ m,L - out.length=m + 1:=⟨L - out.length - 1,by omega⟩;have e:L - (out ++ [b]).length=m:=by simp; omega
 rw [hm,e,List.replicate_succ,List.set_append_right _ _ (Nat.le_refl _)];simp
theorem hexRow_full {L:Nat} {out:List Nat} (h:out.length=L):hexRow L out=out:=by unfold hexRow; rw [h]; simp
theorem nib (p q:Nat) (hp:p < 16) (hq:q < 16):bits .or .u8 ((p:Int) * 16) (q:Int)=((16 * p + q:Nat):Int):=by
 have h:∀ a b:Fin 16,bits .or .u8 ((a.1:Int) * 16) (b.1:Int)=((16 * a.1 + b.1:Nat):Int):=by decide
 exact h ⟨p,hp⟩ ⟨q,hq⟩
theorem phex_main (s:ByteArray) (w:World) (hs:(s.size:Int)≤5000) (h0:0 < (s.size:Int)) (L:Nat) (hL:(s.size:Int)=2 * (L:Int)) (T:Option (List Nat)) (hT:hexO s.data.toList=T) :
 Calls Tryz.prog 130 #[.string s] w fun e w'=>∃ v,e=.returned (.tuple #[v,.bool T.isSome])∧BytesAt w' v (T.getD [])∧FreshV w v∧Below w.heap.size w w':=by
 have L0:Hid (LeftH [] (s.data.toList.drop (2 * ([]:List Nat).length)) T):=by unfold Hid; rw [← hT]; exact LeftH.first _
 have hz:((s.size:Int) == 0)=false:=beq_eq_false_iff_ne.2 (by omega);have hq:((s.size:Int) % 2 != 0)=false:=by rw [show (s.size:Int) % 2=0 by omega]; rfl
 have hd1:(s.size:Int) / 2=(L:Int):=by omega
 have hd2:Int.tdiv (s.size:Int) 2=(L:Int):=by rw [Int.tdiv_eq_ediv_of_nonneg (by omega)]; exact hd1
 have hL150:(L:Int)≤2500:=by omega
 have hmk:∀ w,(Instr.makeSlice 23 (.int .i64 (L:Int)) (.int .i64 (L:Int))).run Tryz.prog w=.ok (.slice (some ⟨w.heap.size,0,none⟩) L L) (w.alloc (.cells (madeCells #[.int .u8 0] L) 5)):=fun w=>run_make_row' (P:=Tryz.prog) 23 5 (.int .u8 0) 1 Tryz.underlying23 info_u8 rfl .i64 .i64 L (by omega) (by omega) w
 have R0:Hid (RowU (w.alloc (.cells (madeCells #[.int .u8 0] L) 5)) w.heap.size L (hexRow L [])):=rowH_zero w L (by unfold maxLen; omega);have B0:Hid (Below w.heap.size w (w.alloc (.cells (madeCells #[.int .u8 0] L) 5))):=(Below.refl _ _).alloc (Nat.le_refl _) _;replace hL:Hid ((s.size:Int)=2 * (L:Int)):=hL;clear hT
 go_enter Tryz.func130,Tryz.ntmps130
 go_wp2;clear hmk
 go_loopw [25] (fun vi wr=>∃ (out:List Nat),(out.length:Int)≤(L:Int)∧vi=.int .i64 (out.length:Int)∧Hid (RowU wr w.heap.size L (hexRow L out))∧Hid (Below w.heap.size w wr)∧Hid (LeftH out (s.data.toList.drop (2 * out.length)) T)) (fun vi _=>L - (intOf vi).toNat)
 case atStart=>exact ⟨[],by simp,rfl,R0,B0,L0⟩
 case round=>
  obtain ⟨out,hk,rfl,R,B,left⟩:=hrel;clear L0 R0 B0;obtain ⟨k,hko⟩:∃ k,out.length=k:=⟨_,rfl⟩;rw [hko] at hk left ⊢
  by_cases hlt:(k:Int) < (L:Int)
  · have i1:2 * k < s.size:=by have:=hL.out; omega
    have i2:2 * k + 1 < s.size:=by have:=hL.out; omega
    have lf:=left.out;rw [sdrop_at i1,sdrop_at i2] at lf;have x1:s[2 * k].toNat < 256:=s[2 * k].toNat_lt;have x2:s[2 * k + 1].toNat < 256:=s[2 * k + 1].toNat_lt;have ix:∀ x:World,(Instr.index 9 (.string s) (.int .i64 (2 * (k:Int)))).run Tryz.prog x=.ok (.int .u8 (s[2 * k].toNat:Int)) x:=fun x=>by
     rw [run_index_string x 9 s .i64 _ Tryz.underlying9,dif_pos ⟨by omega,by omega⟩];rfl
    have ix2:∀ x:World,(Instr.index 9 (.string s) (.int .i64 (2 * (k:Int) + 1))).run Tryz.prog x=.ok (.int .u8 (s[2 * k + 1].toNat:Int)) x:=fun x=>by
     rw [run_index_string x 9 s .i64 _ Tryz.underlying9,dif_pos ⟨by omega,by omega⟩];rfl
    have f1:Hid (∀ w,Calls Tryz.prog 145 #[.int .u8 (s[2 * k].toNat:Int)] w fun e w'=>e=.returned (.tuple #[.int .u8 ((dgV s[2 * k].toNat:Nat):Int),.bool (dgB s[2 * k].toNat)])∧w'=w):=fun w=>digit_any _ x1 w
    have f2:Hid (∀ w,Calls Tryz.prog 145 #[.int .u8 (s[2 * k + 1].toNat:Int)] w fun e w'=>e=.returned (.tuple #[.int .u8 ((dgV s[2 * k + 1].toNat:Nat):Int),.bool (dgB s[2 * k + 1].toNat)])∧w'=w):=fun w=>digit_any _ x2 w
    have nx:Hid (dgB s[2 * k].toNat=true→dgB s[2 * k + 1].toNat=true→LeftH (out ++ [16 * dgV s[2 * k].toNat + dgV s[2 * k + 1].toNat]) (s.data.toList.drop (2 * (k + 1))) T):=fun g1 g2=>by
     have g3:=of_decide_eq_true g1;have g4:=of_decide_eq_true g2;have:=lf.two g3 g4;have e:(16 * halfC s[2 * k].toNat + halfC s[2 * k + 1].toNat).toNat=16 * dgV s[2 * k].toNat + dgV s[2 * k + 1].toNat:=by unfold dgV; omega
     rw [e] at this;exact this
    have bd:Hid ((dgB s[2 * k].toNat=false ∨ dgB s[2 * k + 1].toNat=false)→T=none):=fun h=>lf.bad (fun h2=>by
     rcases h with h | h
     · exact of_decide_eq_false h h2.1
     · exact of_decide_eq_false h h2.2)
    have v1:=dgV_lt s[2 * k].toNat;have v2:=dgV_lt s[2 * k + 1].toNat;clear lf left x1 x2;generalize s[2 * k].toNat=c1 at *;generalize s[2 * k + 1].toNat=c2 at *;generalize dgV c1=p at *;generalize dgV c2=q at *;generalize dgB c1=b1 at *;generalize dgB c2=b2 at *;have rc:=R.out.cell k (by rw [hexRow_len (by omega)]; omega);have rset:=fun b=>R.out.set k b
    rw [← hko] at rset;obtain ⟨c0,cc⟩:∃ c0:Int,wr.cell? ⟨w.heap.size,k,none⟩=some (.int .u8 c0):=⟨_,rc.1⟩;have cf:=rc.2;clear rc
    cases b1
    · have fin:Hid (T=none):=bd.out (.inl rfl);clear nx bd rset R
      go_wp2_with fail
      refine (f1.out _).mono ?_;rintro e w' ⟨rfl,rfl⟩;clear f1
      go_wp2_with fail
      refine (f2.out _).mono ?_;rintro e w' ⟨rfl,rfl⟩;clear f2;go_wp2
      go_ret2
      exact ⟨_,by rw [fin.out]; rfl,by rw [fin.out]; exact .inl ⟨rfl,rfl⟩,.inl rfl,B.out⟩
    · cases b2
      · have fin:Hid (T=none):=bd.out (.inr rfl);clear nx bd rset R
        go_wp2_with fail
        refine (f1.out _).mono ?_;rintro e w' ⟨rfl,rfl⟩;clear f1
        go_wp2_with fail
        refine (f2.out _).mono ?_;rintro e w' ⟨rfl,rfl⟩;clear f2;go_wp2
        go_ret2
        exact ⟨_,by rw [fin.out]; rfl,by rw [fin.out]; exact .inl ⟨rfl,rfl⟩,.inl rfl,B.out⟩
      · have nl:=nx.out rfl rfl;have R2:=rset (16 * p + q);rw [hexRow_set (by omega),hko] at R2;replace R2:Hid (RowU (wr.setCell ⟨w.heap.size,k,none⟩ (.int .u8 ((16 * p + q:Nat):Int))) w.heap.size L (hexRow L (out ++ [16 * p + q]))):=R2;have hn:=nib p q v1 v2;generalize 16 * p + q=b at *;clear nx bd rset R
        go_wp2_with fail
        refine (f1.out _).mono ?_;rintro e w' ⟨rfl,rfl⟩;clear f1
        go_wp2_with fail
        refine (f2.out _).mono ?_;rintro e w' ⟨rfl,rfl⟩;clear f2;go_wp2;exact ⟨⟨out ++ [b],by simp; omega,by simp [hko],R2,B.out.setCell (Nat.le_refl _) _,by simp only [List.length_append,List.length_singleton,hko]; exact nl⟩,by simp [intOf]; omega⟩
  · obtain rfl:k=L:=by omega
    have fin:Hid (T=some out):=by
     have h:=left.out;rw [List.drop_eq_nil_of_le (by have:=hL.out; simp; omega)] at h;exact h.fin
    have X:Hid (BytesAt wr (.slice (some ⟨w.heap.size,0,none⟩) k k) out):=by
     have h:=R.out;rw [hexRow_full hko] at h;have h2:=h.at;rw [hko] at h2;exact h2
    clear left R hlt;go_wp2
    go_ret2
    exact ⟨_,by rw [fin.out]; rfl,by rw [fin.out]; exact X.out,.inr ⟨_,_,_,rfl,Nat.le_refl _⟩,B.out⟩
theorem phex_none (s:ByteArray) (w:World) (h0:(s.size:Int)=0) :
 Calls Tryz.prog 130 #[.string s] w fun e w'=>e=.returned (.tuple #[.slice none 0 0,.bool false])∧w'=w:=by
 go_enter Tryz.func130,Tryz.ntmps130
 go_wp2
 go_ret2
 exact ⟨rfl,rfl⟩
theorem phex_odd (s:ByteArray) (w:World) (hs:(s.size:Int)≤5000) (h0:0 < (s.size:Int)) (hev:(s.size:Int) % 2=1) :
 Calls Tryz.prog 130 #[.string s] w fun e w'=>e=.returned (.tuple #[.slice none 0 0,.bool false])∧w'=w:=by
 have hz:((s.size:Int) == 0)=false:=beq_eq_false_iff_ne.2 (by omega);have hq:((s.size:Int) % 2 != 0)=true:=by rw [hev]; rfl
 go_enter Tryz.func130,Tryz.ntmps130
 go_wp2
 go_ret2
 exact ⟨rfl,rfl⟩
theorem HH2:HexP2:=fun s w hs=>by
 have hl:s.data.toList.length=s.size:=by simp
 by_cases h0:s.size=0
 · have e:hexR s.data.toList=none:=by unfold hexR; rw [if_pos (List.length_eq_zero_iff.1 (hl.trans h0))]
   rw [e];refine (phex_none s w (by omega)).mono ?_;rintro e w' ⟨rfl,rfl⟩;exact ⟨_,rfl,.inl ⟨rfl,rfl⟩,.inl rfl,Below.refl _ _⟩
 · have e:hexR s.data.toList=hexO s.data.toList:=by unfold hexR; rw [if_neg (fun q=>h0 (by rw [← hl,q]; rfl))]
   rw [e]
   by_cases h1:s.size % 2=1
   · rw [hex_odd _ (by rw [hl]; exact h1)];refine (phex_odd s w hs (by omega) (by omega)).mono ?_;rintro e w' ⟨rfl,rfl⟩;exact ⟨_,rfl,.inl ⟨rfl,rfl⟩,.inl rfl,Below.refl _ _⟩
   · exact phex_main s w hs (by omega) (s.size / 2) (by omega) _ rfl
theorem HH:HexP:=fun s w hs=>(HH2 s w hs).mono fun _ _ ⟨v,h1,h2,_,h3⟩=>⟨v,h1,h2,h3⟩
theorem oct_any (s:ByteArray) (w:World) (hs:(s.size:Int)≤5000) :
 Calls Tryz.prog 126 #[.string s] w fun e w'=>e=.returned (.tuple #[.int .i64 (((octO s.data.toList).getD 0:Nat):Int),.bool (octO s.data.toList).isSome])∧Below w.heap.size w w':=by
 have f:Hid (Calls Tryz.prog 130 #[.string s] w fun e w'=>∃ v,e=.returned (.tuple #[v,.bool (hexR s.data.toList).isSome])∧BytesAt w' v ((hexR s.data.toList).getD [])∧Below w.heap.size w w'):=HH s w hs
 cases hx:hexR s.data.toList with
 | none=>
  rw [hx] at f;rw [oct_none hx]
  go_enter Tryz.func126,Tryz.ntmps126
  go_wp2_with fail
  refine f.out.mono ?_;rintro e w1 ⟨v,rfl,hv,hb⟩;replace hb:Hid (Below w.heap.size w w1):=hb;clear hv;go_wp2
  go_ret2
  exact ⟨rfl,hb.out⟩
 | some bs=>
  rw [hx] at f;have hby:=(hexR_b hx).1;have hle:(bs.length:Int)≤5000:=by have:=(hexR_b hx).2; simp at this; omega
  by_cases h1:bs.length=1
  · obtain ⟨b,rfl⟩:∃ b,bs=[b]:=by
     match bs,h1 with
     | [b],_=>exact ⟨b,rfl⟩
    rw [oct_some hx];have hb256:b < 256:=hby b (by simp)
    go_enter Tryz.func126,Tryz.ntmps126
    go_wp2_with fail
    refine f.out.mono ?_;rintro e w1 ⟨v,rfl,hv,hb⟩;replace hb:Hid (Below w.heap.size w w1):=hb;rcases hv with ⟨_,h⟩ | ⟨g,o,cap,rfl,hi,hg⟩
    · cases h
    have c0:w1.cell? ⟨g,o + 0,none⟩=some (.int .u8 (b:Int)):=hi 0 (by simp);rw [Nat.add_zero] at c0;clear hi;simp only [Option.getD_some,List.length_singleton];go_wp2
    go_ret2
    exact ⟨by simp,hb.out⟩
  · rw [oct_long hx h1];have n1:((bs.length:Int) != 1)=true:=bne_iff_ne.2 (by omega)
    go_enter Tryz.func126,Tryz.ntmps126
    go_wp2_with fail
    refine f.out.mono ?_;rintro e w1 ⟨v,rfl,hv,hb⟩;replace hb:Hid (Below w.heap.size w w1):=hb;rcases hv with ⟨rfl,h⟩ | ⟨g,o,cap,rfl,hi,hg⟩
    · go_wp2
      go_ret2
      exact ⟨rfl,hb.out⟩
    · clear hi;simp only [Option.getD_some];go_wp2
      go_ret2
      exact ⟨rfl,hb.out⟩
theorem name_len (p:Option Addr) (n cap:Nat) (hn:¬ n=1) (hn2:(n:Int)≤9223372036854775807) (b:Nat) (w:World) :
 Calls Tryz.prog 125 #[.slice p n cap,.pointer (some ⟨b,0,none⟩)] w fun e w'=>e=.returned (.bool false)∧w'=w:=by
 have n1:((n:Int) != 1)=true:=bne_iff_ne.2 (by omega)
 go_enter Tryz.func125,Tryz.ntmps125
 go_wp2;go_ret;exact ⟨rfl,rfl⟩
theorem name_no (z:Wd) (hz:(z.length:Int)≤5000) (hN:nameB z=false) (g o cap b:Nat) (w:World) (hc:w.cell? ⟨g,o,none⟩=some (.string (txt z))) :
 Calls Tryz.prog 125 #[.slice (some ⟨g,o,none⟩) 1 cap,.pointer (some ⟨b,0,none⟩)] w fun e w'=>e=.returned (.bool false)∧Below w.heap.size w w':=by
 have f:Hid (∀ w,Calls Tryz.prog 46 #[.string (txt z)] w fun e w'=>e=.returned (.bool false)∧Below w.heap.size w w'):=fun w=>by rw [← hN]; exact HM (txt z) w (by rw [txt_size]; exact hz)
 go_enter Tryz.func125,Tryz.ntmps125
 go_wp2_with fail
 refine (f.out _).mono ?_;rintro e w1 ⟨rfl,hb⟩;replace hb:Hid (Below w.heap.size w w1):=hb;clear f;go_wp2;go_ret;exact ⟨rfl,hb.out⟩
theorem name_yes (z:Wd) (hz:(z.length:Int)≤5000) (hN:nameB z=true) (g o cap b:Nat) (B k:Nat) (old:Value) (w:World) (hc:w.cell? ⟨g,o,none⟩=some (.string (txt z))) (hb:w.cell? ⟨b,0,none⟩=some (.pointer (some ⟨B,k,none⟩))) (hB:w.cell? ⟨B,k,none⟩=some old) (hF:w.frozen? ⟨B,k,none⟩=false) :
 Calls Tryz.prog 125 #[.slice (some ⟨g,o,none⟩) 1 cap,.pointer (some ⟨b,0,none⟩)] w fun e w'=>e=.returned (.bool true)∧∃ x,Below w.heap.size w x∧w'=x.setCell ⟨B,k,none⟩ (.string (txt z)):=by
 have f:Hid (∀ w,Calls Tryz.prog 46 #[.string (txt z)] w fun e w'=>e=.returned (.bool true)∧Below w.heap.size w w'):=fun w=>by rw [← hN]; exact HM (txt z) w (by rw [txt_size]; exact hz)
 go_enter Tryz.func125,Tryz.ntmps125
 go_wp2_with fail
 refine (f.out _).mono ?_;rintro e w1 ⟨rfl,hb1⟩;have c1:=(hb1.cell (block_lt_of_cell hc)).trans hc;have c2:=(hb1.cell (block_lt_of_cell hb)).trans hb;have c3:=(hb1.cell (block_lt_of_cell hB)).trans hB;have c4:=(hb1.frozen (block_lt_of_cell hB)).trans hF;replace hb1:Hid (Below w.heap.size w w1):=hb1;clear f hc hb hB hF;go_wp2
 go_region
 all_goals
  go_wp2;go_ret;exact ⟨rfl,w1.drew,hb1.out.drew,rfl⟩
theorem num_len (p:Option Addr) (n cap:Nat) (hn:¬ n=1) (hn2:(n:Int)≤9223372036854775807) (b1 b2 b3:Nat) (w:World) :
 Calls Tryz.prog 127 #[.slice p n cap,.pointer (some ⟨b1,0,none⟩),.pointer (some ⟨b2,0,none⟩),.pointer (some ⟨b3,0,none⟩)] w fun e w'=>e=.returned (.bool false)∧w'=w:=by
 have n1:((n:Int) != 1)=true:=bne_iff_ne.2 (by omega)
 go_enter Tryz.func127,Tryz.ntmps127
 go_wp2;go_ret;exact ⟨rfl,rfl⟩
theorem num_one (z:Wd) (hz:(z.length:Int)≤5000) (lo hi:Int) (g o cap b1 b2 b3:Nat) (B k:Nat) (old:Value) (w:World) (hc:w.cell? ⟨g,o,none⟩=some (.string (txt z))) (h1:w.cell? ⟨b1,0,none⟩=some (.int .i64 lo)) (h2:w.cell? ⟨b2,0,none⟩=some (.int .i64 hi)) (h3:w.cell? ⟨b3,0,none⟩=some (.pointer (some ⟨B,k,none⟩))) (hB:w.cell? ⟨B,k,none⟩=some old) (hF:w.frozen? ⟨B,k,none⟩=false) :
 Calls Tryz.prog 127 #[.slice (some ⟨g,o,none⟩) 1 cap,.pointer (some ⟨b1,0,none⟩),.pointer (some ⟨b2,0,none⟩),.pointer (some ⟨b3,0,none⟩)] w fun e w'=>e=.returned (.bool (numB z lo hi))∧∃ x,Below w.heap.size w x∧w'=x.setCell ⟨B,k,none⟩ (.int .i64 (numV z lo hi)):=by
 have f:Hid (∀ w,Calls Tryz.prog 128 #[.string (txt z),.int .i64 lo,.int .i64 hi] w fun e w'=>e=.returned (.tuple #[.int .i64 (numV z lo hi),.bool (numB z lo hi)])∧w'=w):=fun w=>pnum_any (txt z) w (by rw [txt_size]; unfold maxLen; omega) lo hi
 generalize numV z lo hi=V at *;generalize numB z lo hi=T at *
 go_enter Tryz.func127,Tryz.ntmps127
 go_wp2_with fail
 go_quiet ((go_at_call 128; with_reducible refine Calls.quiet_of_same (f.out _)))
 have B1:Hid (Below w.heap.size w (w.drewN nq)):=below_drewN (Below.refl _ _) _;have c3:=(B1.out.cell (block_lt_of_cell h3)).trans h3;have c4:=(B1.out.cell (block_lt_of_cell hB)).trans hB;have c5:=(B1.out.frozen (block_lt_of_cell hB)).trans hF;generalize w.drewN nq=w1 at *;clear f hc h1 h2 h3 hB hF;go_wp2;go_ret;exact ⟨rfl,w1,B1.out,rfl⟩
theorem sta_len (p:Option Addr) (n cap:Nat) (hn:¬ n=1) (hn2:(n:Int)≤9223372036854775807) (B:Nat) (w:World) :
 Calls Tryz.prog 103 #[.pointer (some ⟨B,0,none⟩),.slice p n cap] w fun e w'=>e=.returned (.bool false)∧w'=w:=by
 have n1:((n:Int) != 1)=true:=bne_iff_ne.2 (by omega)
 go_enter Tryz.func103,Tryz.ntmps103
 go_wp2;go_ret;exact ⟨rfl,rfl⟩
theorem sta_one (z:Wd) (hz:(z.length:Int)≤5000) (g o cap:Nat) (B:Nat) (old:Value) (w:World) (hc:w.cell? ⟨g,o,none⟩=some (.string (txt z))) (hB:w.cell? ⟨B,1,none⟩=some old) (hF:w.frozen? ⟨B,1,none⟩=false) :
 Calls Tryz.prog 103 #[.pointer (some ⟨B,0,none⟩),.slice (some ⟨g,o,none⟩) 1 cap] w fun e w'=>e=.returned (.bool (octO z).isSome)∧∃ x,Below w.heap.size w x∧w'=x.setCell ⟨B,1,none⟩ (.int .i64 (((octO z).getD 0:Nat):Int)):=by
 have f:Hid (∀ w,Calls Tryz.prog 126 #[.string (txt z)] w fun e w'=>e=.returned (.tuple #[.int .i64 (((octO z).getD 0:Nat):Int),.bool (octO z).isSome])∧Below w.heap.size w w'):=fun w=>oct_any (txt z) w (by rw [txt_size]; exact hz)
 generalize (((octO z).getD 0:Nat):Int)=V at *;generalize (octO z).isSome=T at *
 go_enter Tryz.func103,Tryz.ntmps103
 go_wp2_with fail
 refine (f.out _).mono ?_;rintro e w1 ⟨rfl,hb1⟩;have c4:=(hb1.cell (block_lt_of_cell hB)).trans hB;have c5:=(hb1.frozen (block_lt_of_cell hB)).trans hF;replace hb1:Hid (Below w.heap.size w w1):=hb1;clear f hc hB hF;go_wp2;go_ret;exact ⟨rfl,w1,hb1.out,rfl⟩
theorem esc_len (p:Option Addr) (n cap:Nat) (hn:¬ n=2) (hn2:(n:Int)≤9223372036854775807) (B:Nat) (w:World) :
 Calls Tryz.prog 104 #[.pointer (some ⟨B,0,none⟩),.slice p n cap] w fun e w'=>e=.returned (.bool false)∧w'=w:=by
 have n1:((n:Int) != 2)=true:=bne_iff_ne.2 (by omega)
 go_enter Tryz.func104,Tryz.ntmps104
 go_wp2;go_ret;exact ⟨rfl,rfl⟩
theorem esc_two (z y:Wd) (hz:(z.length:Int)≤5000) (hy:(y.length:Int)≤5000) (g o cap:Nat) (B:Nat) (old old2:Value) (w:World) (hc:w.cell? ⟨g,o,none⟩=some (.string (txt z))) (hc2:w.cell? ⟨g,o + 1,none⟩=some (.string (txt y))) (hB:w.cell? ⟨B,2,none⟩=some old) (hF:w.frozen? ⟨B,2,none⟩=false) (hB2:w.cell? ⟨B,3,none⟩=some old2) (hF2:w.frozen? ⟨B,3,none⟩=false) :
 Calls Tryz.prog 104 #[.pointer (some ⟨B,0,none⟩),.slice (some ⟨g,o,none⟩) 2 cap] w fun e w'=>e=.returned (.bool ((octO z).isSome && (octO y).isSome))∧∃ x,Below w.heap.size w x∧w'=(x.setCell ⟨B,2,none⟩ (.int .i64 (((octO z).getD 0:Nat):Int))).setCell ⟨B,3,none⟩ (.int .i64 (((octO y).getD 0:Nat):Int)):=by
 have f1:Hid (∀ w,Calls Tryz.prog 126 #[.string (txt z)] w fun e w'=>e=.returned (.tuple #[.int .i64 (((octO z).getD 0:Nat):Int),.bool (octO z).isSome])∧Below w.heap.size w w'):=fun w=>oct_any (txt z) w (by rw [txt_size]; exact hz)
 have f2:Hid (∀ w,Calls Tryz.prog 126 #[.string (txt y)] w fun e w'=>e=.returned (.tuple #[.int .i64 (((octO y).getD 0:Nat):Int),.bool (octO y).isSome])∧Below w.heap.size w w'):=fun w=>oct_any (txt y) w (by rw [txt_size]; exact hy)
 generalize (((octO z).getD 0:Nat):Int)=V at *;generalize (((octO y).getD 0:Nat):Int)=V2 at *;generalize (octO z).isSome=T at *;generalize (octO y).isSome=T2 at *
 go_enter Tryz.func104,Tryz.ntmps104
 go_wp2_with fail
 refine (f1.out _).mono ?_;rintro e w1 ⟨rfl,hb1⟩;have c3:=(hb1.cell (block_lt_of_cell hc2)).trans hc2;have c4:=(hb1.cell (block_lt_of_cell hB)).trans hB;have c5:=(hb1.frozen (block_lt_of_cell hB)).trans hF;have c6:=(hb1.cell (block_lt_of_cell hB2)).trans hB2;have c7:=(hb1.frozen (block_lt_of_cell hB2)).trans hF2;replace hb1:Hid (Below w.heap.size w w1):=hb1;clear f1 hc hB hF hB2 hF2 hc2
 go_wp2_with fail
 refine (f2.out _).mono ?_;rintro e w2 ⟨rfl,hb2⟩;have d4:=(hb2.cell (block_lt_of_cell c4)).trans c4;have d5:=(hb2.frozen (block_lt_of_cell c4)).trans c5;have d6:=(hb2.cell (block_lt_of_cell c6)).trans c6;have d7:=(hb2.frozen (block_lt_of_cell c6)).trans c7;have B2:Hid (Below w.heap.size w w2):=hb1.out.trans (hb2.mono hb1.out.size);clear f2 c3 c4 c5 c6 c7 hb2 hb1
 cases T
 · go_wp2;go_ret;exact ⟨rfl,w2,B2.out,rfl⟩
 · go_wp2;go_ret;exact ⟨rfl,w2,B2.out,rfl⟩
theorem req_len (p:Option Addr) (n cap:Nat) (hn:¬ n=1) (hn2:(n:Int)≤9223372036854775807) (B:Nat) (w:World) :
 Calls Tryz.prog 107 #[.pointer (some ⟨B,0,none⟩),.slice p n cap] w fun e w'=>e=.returned (.bool false)∧w'=w:=by
 have n1:((n:Int) != 1)=true:=bne_iff_ne.2 (by omega)
 go_enter Tryz.func107,Tryz.ntmps107
 go_wp2;go_ret;exact ⟨rfl,rfl⟩
def reqB (z:Wd):Bool:=match hexR z with | some b=>decide (b.length≤16) | none=>false
theorem req_one (z:Wd) (hz:(z.length:Int)≤5000) (g o cap:Nat) (B:Nat) (old:Value) (w:World) (hc:w.cell? ⟨g,o,none⟩=some (.string (txt z))) (hB:w.cell? ⟨B,7,none⟩=some old) (hF:w.frozen? ⟨B,7,none⟩=false) :
 Calls Tryz.prog 107 #[.pointer (some ⟨B,0,none⟩),.slice (some ⟨g,o,none⟩) 1 cap] w fun e w'=>e=.returned (.bool (reqB z))∧∃ x v,Below w.heap.size w x∧BytesAt x v ((hexR z).getD [])∧FreshV w v∧w'=x.setCell ⟨B,7,none⟩ v:=by
 have f:Hid (∀ w,Calls Tryz.prog 130 #[.string (txt z)] w fun e w'=>∃ v,e=.returned (.tuple #[v,.bool (hexR z).isSome])∧BytesAt w' v ((hexR z).getD [])∧FreshV w v∧Below w.heap.size w w'):=fun w=>HH2 (txt z) w (by rw [txt_size]; exact hz)
 unfold reqB
 cases hx:hexR z with
 | none=>
  rw [hx] at f
  go_enter Tryz.func107,Tryz.ntmps107
  go_wp2_with fail
  refine (f.out _).mono ?_;rintro e w1 ⟨v,rfl,hv,hfr,hb1⟩;have c4:=(hb1.cell (block_lt_of_cell hB)).trans hB;have c5:=(hb1.frozen (block_lt_of_cell hB)).trans hF;replace hb1:Hid (Below w.heap.size w w1):=hb1;obtain ⟨p,cap,rfl⟩:∃ p cap,v=.slice p 0 cap:=by
   rcases hv with ⟨rfl,h⟩ | ⟨g,o,cap,rfl,_⟩
   · exact ⟨_,_,rfl⟩
   · exact ⟨_,_,rfl⟩
  replace hv:Hid (BytesAt w1 (.slice p 0 cap) ((none:Option (List Nat)).getD [])):=hv;replace hfr:Hid (FreshV w (.slice p 0 cap)):=hfr;clear f hc hB hF;go_wp2;go_ret;exact ⟨rfl,w1,_,hb1.out,hv.out,hfr.out,rfl⟩
 | some bs=>
  rw [hx] at f;have hle:(bs.length:Int)≤5000:=by have:=(hexR_b hx).2; omega
  have e16:Hid (decide (bs.length≤16)=decide ((bs.length:Int)≤16)):=by unfold Hid; rw [decide_eq_decide]; omega
  go_enter Tryz.func107,Tryz.ntmps107
  go_wp2_with fail
  refine (f.out _).mono ?_;rintro e w1 ⟨v,rfl,hv,hfr,hb1⟩;have c4:=(hb1.cell (block_lt_of_cell hB)).trans hB;have c5:=(hb1.frozen (block_lt_of_cell hB)).trans hF;replace hb1:Hid (Below w.heap.size w w1):=hb1;obtain ⟨p,cap,rfl⟩:∃ p cap,v=.slice p bs.length cap:=by
   rcases hv with ⟨rfl,h⟩ | ⟨g,o,cap,rfl,_⟩
   · have:bs=[]:=h;rw [this]; exact ⟨_,_,rfl⟩
   · exact ⟨_,_,rfl⟩
  replace hv:Hid (BytesAt w1 (.slice p bs.length cap) ((some bs).getD [])):=hv;replace hfr:Hid (FreshV w (.slice p bs.length cap)):=hfr;clear f hc hB hF;go_wp2;go_ret;exact ⟨by rw [e16.out]; rfl,w1,_,hb1.out,hv.out,hfr.out,rfl⟩
end Go.Proofs.YthabffjgdhfbmaaGreatDoor
