/-
  Texts that belong together, one behind the other: Digs, TextFacts, ReadFacts, LexWordM, IntsW, Cuts, ReadsK, Reads, Reads2, SizeW, RsizeW, Gcds, Fracs, RatAR, RatRR, HasK, QMoreK, RatWR, FracRd. Conditions: as each says.
-/
import Derived.BigQuiet
import Derived.Deep.QuietTactic
import Derived.Deep.RegionWith
import Derived.Handy
import Derived.Laws.NewDeep
import Derived.Laws.ResultCell
import Derived.Laws.Strings3
import Derived.Lib.Bytealg
import Derived.Lib.IndexBytes
import Derived.Lib.IndexLaws
import Derived.Lib.QuietBelow
import Derived.Lib.Strings
import Derived.OpenShut
import Derived.ProofKit
import Derived.Test.YthabffjgdhfbmaaGreatDoorProg
import Derived.WalkKit
import Derived.WalkLawsBesides
import Derived.WalkSpells
import Derived.Test.YthabffjgdhfbmaaGreatDoorJm1
set_option maxRecDepth 100000
set_option maxHeartbeats 32000000
set_option linter.unusedVariables false
namespace Go.Proofs.YthabffjgdhfbmaaGreatDoor
def dig (n:Nat):UInt8:=UInt8.ofNat (48 + n % 10)
theorem dig_toNat (n:Nat):(dig n).toNat=48 + n % 10:=by
 unfold dig;rw [UInt8.toNat_ofNat'];have:n % 10 < 10:=Nat.mod_lt _ (by omega);omega
def low:Nat→Nat→List UInt8
 | 0,_=>[]
 | k + 1,n=>dig (n / 10 ^ k) :: low k n
theorem low_length (k n:Nat):(low k n).length=k:=by
 induction k with
 | zero=>rfl
 | succ k ih=>simp [low,ih]
theorem low_back (k n:Nat):low (k + 1) n=low k (n / 10) ++ [dig n]:=by
 induction k with
 | zero=>simp [low]
 | succ k ih=>
  rw [low,ih,low,Nat.div_div_eq_div_mul,Nat.pow_succ,Nat.mul_comm]; rfl
def dec:Nat→Nat→List UInt8
 | 0,n=>[dig n]
 | f + 1,n=>if n < 10 then [dig n] else dec f (n / 10) ++ [dig n]
theorem low_dec (k n f:Nat) (h1:n / 10 ^ (k + 1)=0) (h2:k=0 ∨ n / 10 ^ k ≠ 0) (hf:k≤f):low (k + 1) n=dec f n:=by
 induction k generalizing n f with
 | zero=>
  have hn:n < 10:=by
   rw [Nat.div_eq_zero_iff] at h1;omega
  cases f with
  | zero=>simp [low,dec]
  | succ f=>simp [low,dec,hn]
 | succ k ih=>
  cases f with
  | zero=>omega
  | succ f=>
   have h3:n / 10 ^ (k + 1) ≠ 0:=by
    cases h2 with
    | inl h=>omega
    | inr h=>exact h
   have hn:¬ n < 10:=by
    intro h;apply h3;apply Nat.div_eq_of_lt;have h1:10 ^ 1≤10 ^ (k + 1):=Nat.pow_le_pow_right (by omega) (by omega);omega
   have e:∀ j,n / 10 ^ (j + 1)=n / 10 / 10 ^ j:=fun j=>by
    rw [Nat.div_div_eq_div_mul,Nat.pow_succ,Nat.mul_comm]
   rw [low_back,dec,if_neg hn,ih (n / 10) f (by rw [← e]; exact h1) (by
    cases k with
    | zero=>exact .inl rfl
    | succ k=>exact .inr (by rw [← e]; exact h3)) (by omega)]
def val (l:List UInt8):Nat:=l.foldl (fun v c=>10 * v + (c.toNat - 48)) 0
theorem val_snoc (l:List UInt8) (c:UInt8):val (l ++ [c])=10 * val l + (c.toNat - 48):=by
 unfold val; simp
theorem val_dec (f n:Nat) (h:n < 10 ^ (f + 1)):val (dec f n)=n:=by
 induction f generalizing n with
 | zero=>
  simp at h;simp [dec,val,dig_toNat]; omega
 | succ f ih=>
  rw [dec]
  by_cases hn:n < 10
  · rw [if_pos hn]; simp [val,dig_toNat]; omega
  · rw [if_neg hn,val_snoc,ih (n / 10) (by rw [Nat.pow_succ] at h; omega),dig_toNat]; omega
theorem dec_digits (f n:Nat):∀ c ∈ dec f n,48≤c.toNat∧c.toNat≤57:=by
 have hd:∀ n,48≤(dig n).toNat∧(dig n).toNat≤57:=fun n=>by rw [dig_toNat]; omega
 induction f generalizing n with
 | zero=>intro c hc; simp [dec] at hc; rw [hc]; exact hd n
 | succ f ih=>
  intro c hc;rw [dec] at hc
  by_cases hn:n < 10
  · rw [if_pos hn] at hc; simp at hc; rw [hc]; exact hd n
  · rw [if_neg hn] at hc;rcases List.mem_append.1 hc with h | h
    · exact ih _ c h
    · simp at h; rw [h]; exact hd n
theorem dec_length (f n:Nat):1≤(dec f n).length∧(dec f n).length≤f + 1:=by
 induction f generalizing n with
 | zero=>simp [dec]
 | succ f ih=>
  rw [dec]
  by_cases hn:n < 10
  · rw [if_pos hn]; simp
  · rw [if_neg hn];have:=ih (n / 10)
    simp; omega
theorem dec_head (f n:Nat) (h:n < 10 ^ (f + 1)):(∃ c t,dec f n=c :: t∧(c.toNat=48→t=[]∧n=0)):=by
 induction f generalizing n with
 | zero=>
  simp at h;refine ⟨dig n,[],rfl,fun hc=>⟨rfl,?_⟩⟩;rw [dig_toNat] at hc; omega
 | succ f ih=>
  rw [dec]
  by_cases hn:n < 10
  · rw [if_pos hn];refine ⟨dig n,[],rfl,fun hc=>⟨rfl,?_⟩⟩;rw [dig_toNat] at hc; omega
  · rw [if_neg hn];obtain ⟨c,t,e,h2⟩:=ih (n / 10) (by rw [Nat.pow_succ] at h; omega);refine ⟨c,t ++ [dig n],by rw [e]; rfl,fun hc=>?_⟩;have:=(h2 hc).2;omega
def textL (a:Int):List UInt8:=if a < 0 then 45 :: dec 18 a.natAbs else dec 18 a.natAbs
theorem textL_neg {a:Int} (h:a < 0):textL a=45 :: dec 18 a.natAbs:=by unfold textL; rw [if_pos h]
theorem textL_pos {a:Int} (h:0≤a):textL a=dec 18 a.natAbs:=by unfold textL; rw [if_neg (by omega)]
end Go.Proofs.YthabffjgdhfbmaaGreatDoor
namespace Go.Proofs.YthabffjgdhfbmaaGreatDoor
theorem natAbs_lt {a:Int} (ha:-9223372036854775808≤a∧a≤9223372036854775807):a.natAbs < 10 ^ (18 + 1):=by
 have:(10:Nat) ^ (18 + 1)=10000000000000000000:=by decide
 rw [this]; omega
theorem dec_no_minus (f n:Nat) (h:n < 10 ^ (f + 1)):∃ c t,dec f n=c :: t∧c ≠ 45:=by
 obtain ⟨c,t,e,_⟩:=dec_head f n h;refine ⟨c,t,e,fun hc=>?_⟩;have:=dec_digits f n c (by rw [e]; simp);rw [hc] at this;exact absurd this.1 (by decide)
theorem textL_len (a:Int):1≤(textL a).length∧(textL a).length≤20:=by
 have:=dec_length 18 a.natAbs
 by_cases h1:a < 0
 · rw [textL_neg h1]; simp; omega
 · rw [textL_pos (by omega)]; omega
end Go.Proofs.YthabffjgdhfbmaaGreatDoor
namespace Go.Proofs.YthabffjgdhfbmaaGreatDoor
def isd (c:UInt8):Bool:=decide (48≤c.toNat) && decide (c.toNat≤57)
theorem isd_iff (c:UInt8):isd c=true ↔ 48≤c.toNat∧c.toNat≤57:=by unfold isd; simp
theorem val_foldl (l:List UInt8) (v:Nat):l.foldl (fun v c=>10 * v + (c.toNat - 48)) v=v * 10 ^ l.length + val l:=by
 induction l generalizing v with
 | nil=>simp [val]
 | cons c l ih=>
  show l.foldl (fun v c=>10 * v + (c.toNat - 48)) (10 * v + (c.toNat - 48))=v * 10 ^ (l.length + 1) + l.foldl (fun v c=>10 * v + (c.toNat - 48)) (10 * 0 + (c.toNat - 48));rw [ih,ih (10 * 0 + (c.toNat - 48)),Nat.mul_zero,Nat.zero_add,Nat.add_mul,Nat.pow_succ];have:10 * v * 10 ^ l.length=v * (10 ^ l.length * 10):=by
   rw [Nat.mul_comm 10 v,Nat.mul_assoc,Nat.mul_comm 10]
  omega
theorem val_append (l m:List UInt8):val (l ++ m)=val l * 10 ^ m.length + val m:=by
 have:=val_foldl m (val l);unfold val at this ⊢;rw [List.foldl_append]; exact this
theorem val_mono (l m:List UInt8):val l≤val (l ++ m):=by
 rw [val_append];have:val l * 1≤val l * 10 ^ m.length:=Nat.mul_le_mul_left _ (Nat.one_le_pow _ _ (by omega));omega
theorem val_take_le (l:List UInt8) (k:Nat):val (l.take k)≤val l:=by
 have:=val_mono (l.take k) (l.drop k)
 rwa [List.take_append_drop] at this
def plainB (l:List UInt8):Bool:=!l.isEmpty && !(l.headD 0 == 48 && decide (1 < l.length)) && l.all isd
def badB (t:List UInt8) (minus:Bool):Bool:=!plainB t || (minus && t == [48])
def sgn (minus:Bool) (v:Nat):Int:=if minus=true then -(v:Int) else (v:Int)
def coreV (t:List UInt8) (minus:Bool):Int:=if badB t minus=true then 0 else fitV (sgn minus (val t))
def coreE (t:List UInt8) (minus:Bool):Int:=if badB t minus=true then 6 else if fitB (sgn minus (val t))=true then 0 else 2
def readV (l:List UInt8):Int:=if l.head?=some 45 then coreV (l.drop 1) true else coreV l false
def readE (l:List UInt8):Int:=if l.head?=some 45 then coreE (l.drop 1) true else coreE l false
theorem core_bad {t:List UInt8} {minus:Bool} (h:badB t minus=true):coreV t minus=0∧coreE t minus=6:=by
 unfold coreV coreE; simp [h]
theorem core_over {t:List UInt8} {minus:Bool} (h:badB t minus=false) (h2:fitB (sgn minus (val t))=false):coreV t minus=0∧coreE t minus=2:=by
 unfold coreV coreE fitV; simp [h,h2]
theorem core_fine {t:List UInt8} {minus:Bool} (h:badB t minus=false) (h2:fitB (sgn minus (val t))=true):coreV t minus=sgn minus (val t)∧coreE t minus=0:=by
 unfold coreV coreE fitV; simp [h,h2]
theorem dec_all (f n:Nat):(dec f n).all isd=true:=by
 rw [List.all_eq_true];intro c hc;exact (isd_iff c).2 (dec_digits f n c hc)
theorem dec_plain (f n:Nat) (h:n < 10 ^ (f + 1)):plainB (dec f n)=true:=by
 unfold plainB;rw [dec_all];obtain ⟨c,t,e,h2⟩:=dec_head f n h;rw [e]
 by_cases hc:c.toNat=48
 · have:=(h2 hc).1; subst this; simp
 · have:¬ c=48:=fun x=>hc (by rw [x]; rfl)
   simp [this]
theorem read_text {a:Int} (ha:-9223372036854775808≤a∧a≤9223372036854775807):readV (textL a)=a∧readE (textL a)=0:=by
 have hl:=natAbs_lt ha;have hp:=dec_plain 18 a.natAbs hl;have hv:=val_dec 18 a.natAbs hl
 by_cases h:a < 0
 · have hb:badB (dec 18 a.natAbs) true=false:=by
    unfold badB;rw [hp];have:dec 18 a.natAbs ≠ [48]:=by
     intro e;rw [e] at hv;have:val [48]=0:=by decide
     omega
    simp [this]
   have hs:sgn true (val (dec 18 a.natAbs))=a:=by
    rw [hv]; unfold sgn; simp; omega
   have hf:fitB (sgn true (val (dec 18 a.natAbs)))=true:=by rw [hs]; exact (fit_yes ha).1
   unfold readV readE;rw [textL_neg h];have:=core_fine hb hf;rw [hs] at this
   simpa using this
 · have hb:badB (dec 18 a.natAbs) false=false:=by
    unfold badB;rw [hp]; simp
   have hs:sgn false (val (dec 18 a.natAbs))=a:=by
    rw [hv]; unfold sgn; simp; omega
   have hf:fitB (sgn false (val (dec 18 a.natAbs)))=true:=by rw [hs]; exact (fit_yes ha).1
   obtain ⟨c,t,e,hc⟩:=dec_no_minus 18 a.natAbs hl;unfold readV readE;rw [textL_pos (by omega)];have:=core_fine hb hf;rw [hs] at this;have hh:¬ (dec 18 a.natAbs).head?=some 45:=by rw [e]; simp [hc]
   rw [if_neg hh,if_neg hh];exact this
end Go.Proofs.YthabffjgdhfbmaaGreatDoor
namespace Go.Proofs.YthabffjgdhfbmaaGreatDoor
open Go.RowKit
def halfC (c:Nat):Int:=if 48≤c∧c≤57 then (c:Int) - 48 else if 97≤c∧c≤102 then (c:Int) - 87 else -1
theorem half_bd (c:Nat):-1≤halfC c∧halfC c≤15:=by unfold halfC; split <;> (try split) <;> omega
def hexO:List UInt8→Option (List Nat)
 | []=>some []
 | [_]=>none
 | a :: b :: r=>if 0≤halfC a.toNat∧0≤halfC b.toNat then (hexO r).map (fun t=>(16 * halfC a.toNat + halfC b.toNat).toNat :: t) else none
def hexR (l:List UInt8):Option (List Nat):=if l=[] then none else hexO l
theorem hex_odd:∀ (l:List UInt8),l.length % 2=1→hexO l=none
 | [],h=>by simp at h
 | [_],_=>rfl
 | a :: b :: r,h=>by
  have:=hex_odd r (by simp at h; omega);rw [hexO]
  split
  · rw [this]; rfl
  · rfl
theorem hex_bytes:∀ (l:List UInt8) {bs:List Nat},hexO l=some bs→AllBytes bs∧bs.length≤l.length
 | [],bs,h=>by
  have e:[]=bs:=by simpa [hexO] using h
  subst e; exact ⟨(fun c hc=>by cases hc),Nat.le_refl _⟩
 | [_],bs,h=>by cases h
 | a :: b :: r,bs,h=>by
  rw [hexO] at h
  split at h
  · rename_i hc
    cases hr:hexO r with
    | none=>rw [hr] at h; cases h
    | some t=>
     rw [hr] at h;have e:(16 * halfC a.toNat + halfC b.toNat).toNat :: t=bs:=by simpa using h
     obtain ⟨i1,i2⟩:=hex_bytes r hr;subst e;have h1:=half_bd a.toNat;have h2:=half_bd b.toNat;refine ⟨fun c hc2=>?_,by simp; omega⟩;rcases List.mem_cons.1 hc2 with h3 | h3
     · omega
     · exact i1 c h3
  · cases h
def LeftH (out:List Nat) (r:List UInt8) (T:Option (List Nat)):Prop:=(hexO r).map (fun t=>out ++ t)=T
theorem LeftH.first (l:List UInt8):LeftH [] l (hexO l):=by unfold LeftH; cases hexO l <;> rfl
theorem LeftH.fin {out:List Nat} {T:Option (List Nat)} (h:LeftH out [] T):T=some out:=by
 unfold LeftH at h; rw [← h]; simp [hexO]
theorem LeftH.two {out:List Nat} {a b:UInt8} {r:List UInt8} {T:Option (List Nat)} (h:LeftH out (a :: b :: r) T) (h1:0≤halfC a.toNat) (h2:0≤halfC b.toNat):LeftH (out ++ [(16 * halfC a.toNat + halfC b.toNat).toNat]) r T:=by
 unfold LeftH at *;rw [hexO,if_pos ⟨h1,h2⟩] at h;rw [← h]
 cases hexO r with
 | none=>rfl
 | some t=>simp
theorem LeftH.bad {out:List Nat} {a b:UInt8} {r:List UInt8} {T:Option (List Nat)} (h:LeftH out (a :: b :: r) T) (h1:¬ (0≤halfC a.toNat∧0≤halfC b.toNat)):T=none:=by
 unfold LeftH at h;rw [hexO,if_neg h1] at h;exact h.symm
def lowB (c:UInt8):Bool:=decide (97≤c.toNat∧c.toNat≤122)
def nameC (c:UInt8):Bool:=decide ((97≤c.toNat∧c.toNat≤122) ∨ (48≤c.toNat∧c.toNat≤57))
def allN (l:List UInt8):Bool:=l.all nameC
def nameB (l:List UInt8):Bool:=decide (l.length≤12) && (match l with | []=>false | c :: _=>lowB c && allN l)
theorem allN_stop {l:List UInt8} {k:Nat} (h:k < l.length) (hc:nameC l[k]=false):allN l=false:=by
 unfold allN;rw [List.all_eq_false];exact ⟨l[k],List.getElem_mem h,by rw [hc]; simp⟩
theorem allN_next {l:List UInt8} {k:Nat} (h:k < l.length) (ha:allN (l.take k)=true) (hc:nameC l[k]=true):allN (l.take (k + 1))=true:=by
 unfold allN at *;rw [← List.take_append_getElem h,List.all_append,ha];simp [hc]
def numB (l:List UInt8) (lo hi:Int):Bool:=decide (readE l=0∧lo≤readV l∧readV l≤hi)
def numV (l:List UInt8) (lo hi:Int):Int:=if numB l lo hi=true then readV l else 0
theorem readV_bd (l:List UInt8):-9223372036854775808≤readV l∧readV l≤9223372036854775807:=by
 have hf:∀ n:Int,-9223372036854775808≤fitV n∧fitV n≤9223372036854775807:=fun n=>by
  unfold fitV
  split
  · rename_i h; exact (fitB_iff n).1 h
  · omega
 have hc:∀ t m,-9223372036854775808≤coreV t m∧coreV t m≤9223372036854775807:=fun t m=>by
  unfold coreV
  split
  · omega
  · exact hf _
 unfold readV
 split <;> exact hc _ _
theorem add_any (a b:Int) (w:World) (ha:-9223372036854775808≤a∧a≤9223372036854775807) (hb:-9223372036854775808≤b∧b≤9223372036854775807) :
 Calls Tryz.prog 164 #[.int .i64 a,.int .i64 b] w fun e w'=>e=.returned (.tuple #[.int .i64 (fitV (a + b)),.bool (fitB (a + b))])∧w'=w:=by
 go_enter Tryz.func164,Tryz.ntmps164
 go_wp2
 · go_ret2
   exact ⟨ret_nb (add_over ha hb ‹_›),rfl⟩
 · go_ret2
   exact ⟨ret_nb (add_fine ha hb ‹_›),rfl⟩
theorem neg_any (a:Int) (w:World) (ha:-9223372036854775808≤a∧a≤9223372036854775807) :
 Calls Tryz.prog 157 #[.int .i64 a] w fun e w'=>e=.returned (.tuple #[.int .i64 (fitV (-a)),.bool (fitB (-a))])∧w'=w:=by
 by_cases h:(a == -9223372036854775808)=true
 · have H:=neg_over h
   go_enter Tryz.func157,Tryz.ntmps157
   go_wp2
   go_ret2
   exact ⟨ret_nb H,rfl⟩
 · replace h:(a == -9223372036854775808)=false:=by simpa using h
   have H:=neg_fine ha h;have h2:-9223372036854775807≤a:=by simp at h; omega
   go_enter Tryz.func157,Tryz.ntmps157
   go_wp2
   go_ret2
   exact ⟨ret_nb H,rfl⟩
theorem mul_any (a b:Int) (w:World) (ha:-9223372036854775808≤a∧a≤9223372036854775807) (hb:-9223372036854775808≤b∧b≤9223372036854775807) :
 Calls Tryz.prog 163 #[.int .i64 a,.int .i64 b] w fun e w'=>e=.returned (.tuple #[.int .i64 (fitV (a * b)),.bool (fitB (a * b))])∧w'=w:=by
 by_cases h0:(a == 0)=true
 · have H:fitV (a * b)=0∧fitB (a * b)=true:=by
    simp at h0; subst h0; simp; exact ⟨(fit_yes (by omega)).2,(fit_yes (by omega)).1⟩
   go_enter Tryz.func163,Tryz.ntmps163
   go_wp2
   go_ret2
   exact ⟨ret_nb H,rfl⟩
 · replace h0:(a == 0)=false:=by simpa using h0
   have n0:¬ a=0:=by simpa using h0
   by_cases h1:(a == -1)=true
   · have H:Hid (fitV (a * b)=fitV (-b)∧fitB (a * b)=fitB (-b)):=by
      simp at h1; subst h1; rw [show (-1:Int) * b=-b by omega]; exact ⟨rfl,rfl⟩
     go_enter Tryz.func163,Tryz.ntmps163
     go_wp2_with (go_at_call 157; refine (neg_any _ _ hb).mono ?_; rintro e w' ⟨rfl,rfl⟩)
     go_ret2
     exact ⟨ret_nb H.out,rfl⟩
   · replace h1:(a == -1)=false:=by simpa using h1
     have n1:¬ a=-1:=by simpa using h1
     go_enter Tryz.func163,Tryz.ntmps163
     go_wp2
     · go_ret2
       exact ⟨ret_nb (mul_over n0 n1 ha hb ‹_›),rfl⟩
     · go_ret2
       exact ⟨ret_nb (mul_fine n0 n1 ha hb ‹_›),rfl⟩
theorem ib_any (s:ByteArray) (w:World) :
 Calls Tryz.prog 151 #[.string s,.int .u8 47] w fun e w'=>e=.returned (.int .i64 (Lib.indexByte s.data.toList 47))∧w'=w:=by
 go_enter Tryz.func151,Tryz.ntmps151
 go_wp2;rw [run_callFunc_extern Tryz.func161 (by kernel_rfl) (by kernel_rfl) (by kernel_rfl) (e:=Extern.BytealgIndexByte.indexByte) (by kernel_rfl),Lib.run_indexByteString];simp only [Result.andThen];rw [Oper.upon_value];go_wp2;go_ret;exact ⟨rfl,rfl⟩
theorem index_any (s:ByteArray) (w:World) :
 Calls Tryz.prog 141 #[.string s,.string ⟨#[47]⟩] w fun e w'=>e=.returned (.int .i64 (Lib.indexByte s.data.toList 47))∧w'=w:=by
 go_enter Tryz.func141,Tryz.ntmps141
 go_wp2_with (go_at_call 151; refine (ib_any _ _).mono ?_; rintro e w' ⟨rfl,rfl⟩)
 · have h:([47] == s.toList)=true:=by assumption
   go_ret;refine ⟨?_,rfl⟩;have e:s.data.toList=[47]:=by rw [← ByteArray.toList_eq]; exact (beq_iff_eq.1 h).symm
   rw [e];rfl
 · go_ret;exact ⟨rfl,rfl⟩
theorem stroke_ways (s:ByteArray):(Lib.indexByte s.data.toList 47=-1∧(47:UInt8) ∉ s.data.toList) ∨ ∃ i:Nat,Lib.indexByte s.data.toList 47=(i:Int)∧i + 1≤s.size∧s.data.toList[i]?=some 47∧∀ k,k < i→s.data.toList[k]? ≠ some 47:=by
 have hg:=Lib.indexByte_ge s.data.toList 47
 by_cases h:Lib.indexByte s.data.toList 47=-1
 · left
   refine ⟨h,fun hm=>?_⟩;obtain ⟨k,hk⟩:=List.mem_iff_getElem?.1 hm;exact Lib.indexByte_none h k hk
 · right
   refine ⟨(Lib.indexByte s.data.toList 47).toNat,by omega,?_⟩;have:=Lib.indexByte_some (l:=s.data.toList) (c:=47) (o:=(Lib.indexByte s.data.toList 47).toNat) (by omega);refine ⟨?_,this⟩;have hl:=(List.getElem?_eq_some_iff.1 this.1).1;have:s.data.toList.length=s.size:=by simp
   omega
def cutU (s:ByteArray):ByteArray:=if Lib.indexByte s.data.toList 47=-1 then s else s.extract 0 (Lib.indexByte s.data.toList 47).toNat
def cutV (s:ByteArray):ByteArray:=if Lib.indexByte s.data.toList 47=-1 then ByteArray.empty else s.extract ((Lib.indexByte s.data.toList 47).toNat + 1) s.size
def cutB (s:ByteArray):Bool:=!decide (Lib.indexByte s.data.toList 47=-1)
theorem ret_ssb {a b c d:ByteArray} {x y:Bool} (h:c=a∧d=b∧y=x):Ending.returned (.tuple #[.string a,.string b,.bool x])=.returned (.tuple #[.string c,.string d,.bool y]):=by rw [h.1,h.2.1,h.2.2]
theorem lcut_any (s:ByteArray) (w:World) (hs:s.size≤maxLen) :
 Calls Tryz.prog 122 #[.string s,.string ⟨#[47]⟩] w fun e w'=>e=.returned (.tuple #[.string (cutU s),.string (cutV s),.bool (cutB s)])∧∃ n,w'=w.drewN n:=by
 have f:Hid (∀ w,Calls Tryz.prog 141 #[.string s,.string ⟨#[47]⟩] w fun e w'=>e=.returned (.int .i64 (Lib.indexByte s.data.toList 47))∧w'=w):=fun w=>index_any s w
 unfold maxLen at hs;rcases stroke_ways s with ⟨h,_⟩ | ⟨i,h,hi,_⟩
 · have H:Hid (cutU s=s∧cutV s=ByteArray.empty∧cutB s=false):=by
    unfold Hid cutU cutV cutB; simp [h]
   rw [h] at f;clear h
   go_enter Tryz.func122,Tryz.ntmps122
   go_wp2_with fail
   refine (f.out _).mono ?_;rintro e w' ⟨rfl,rfl⟩;clear f;go_wp2
   go_ret3
   exact ⟨ret_ssb H.out,0,rfl⟩
 · have H:Hid (cutU s=s.extract 0 i∧cutV s=s.extract (i + 1) s.size∧cutB s=true):=by
    have h2:¬ ((i:Int)=-1):=by omega
    unfold Hid cutU cutV cutB; rw [h]; simp [h2]
   rw [h] at f;clear h;have c1:(0:Int)≤(i:Int):=by omega
   have c2:(i:Int)≤(s.size:Int):=by omega
   have c3:(0:Int)≤(i:Int) + 1:=by omega
   have c4:(i:Int) + 1≤(s.size:Int):=by omega
   go_enter Tryz.func122,Tryz.ntmps122
   go_wp2_with fail
   refine (f.out _).mono ?_;rintro e w' ⟨rfl,rfl⟩;clear f;go_wp2
   go_region
   go_wp2
   go_ret3
   exact ⟨ret_ssb H.out,1,rfl⟩
theorem scut_any (s:ByteArray) (w:World) (hs:s.size≤maxLen) :
 Calls Tryz.prog 98 #[.string s,.string ⟨#[47]⟩] w fun e w'=>e=.returned (.tuple #[.string (cutU s),.string (cutV s),.bool (cutB s)])∧∃ n,w'=w.drewN n:=by
 have f:Hid (∀ w,Calls Tryz.prog 122 #[.string s,.string ⟨#[47]⟩] w fun e w'=>e=.returned (.tuple #[.string (cutU s),.string (cutV s),.bool (cutB s)])∧∃ n,w'=w.drewN n):=fun w=>lcut_any s w hs
 generalize cutU s=u at *;generalize cutV s=v at *;generalize cutB s=b at *;clear hs
 go_enter Tryz.func98,Tryz.ntmps98
 go_wp2_with fail
 refine (f.out _).mono ?_;rintro e w' ⟨rfl,n,rfl⟩;clear f;go_wp2
 go_ret3
 exact ⟨rfl,n,rfl⟩
theorem cut_sizes (s:ByteArray):(cutU s).size≤s.size∧(cutV s).size≤s.size:=by
 unfold cutU cutV
 split
 · exact ⟨Nat.le_refl _,by simp⟩
 · constructor
   · rw [ByteArray.size_extract]; omega
   · rw [ByteArray.size_extract]; omega
theorem ret_b' {x y:Bool} (h:y=x):Ending.returned (.bool x)=.returned (.bool y):=by rw [h]
theorem byte_get (s:ByteArray) (k:Nat) (h:k < s.size):s.data.toList[k]?=some s[k]:=by
 rw [List.getElem?_eq_getElem (by simpa using h)]; rfl
theorem btake_snoc (s:ByteArray) (k:Nat) (h:k < s.size):s.data.toList.take (k + 1)=s.data.toList.take k ++ [s[k]]:=by
 rw [List.take_succ_eq_append_getElem (by simpa using h)]; rfl
theorem bytes_cons (s:ByteArray) (h:0 < s.size):s.data.toList=s[0] :: s.data.toList.drop 1:=by
 have:=btake_snoc s 0 h;have h2:=List.take_append_drop 1 s.data.toList;rw [show (1:Nat)=0 + 1 from rfl,this] at h2
 simpa using h2.symm
theorem all_take (s:ByteArray) (k:Nat) (h:k < s.size):(s.data.toList.take (k + 1)).all isd=((s.data.toList.take k).all isd && isd s[k]):=by
 rw [btake_snoc s k h]; simp
theorem all_not (s:ByteArray) (k:Nat) (h:k < s.size) (hc:isd s[k]=false):s.data.toList.all isd=false:=by
 rw [List.all_eq_false];exact ⟨s[k],List.mem_of_getElem? (byte_get s k h),by simp [hc]⟩
theorem isd_low {c:UInt8} (h:(c.toNat:Int) < 48):isd c=false:=by unfold isd; simp; omega
theorem isd_high {c:UInt8} (h:(57:Int) < (c.toNat:Int)):isd c=false:=by unfold isd; simp; omega
theorem isd_mid {c:UInt8} (h:(48:Int)≤(c.toNat:Int)) (h2:(c.toNat:Int)≤57):isd c=true:=by unfold isd; simp; omega
theorem empty_yes {s:ByteArray} (h:s.size=0):s.toList=[]:=by
 rw [ByteArray.toList_eq]; exact List.length_eq_zero_iff.1 (by simpa using h)
theorem empty_no {s:ByteArray} (h:0 < s.size):s.toList.isEmpty=false:=by
 rw [ByteArray.toList_eq]
 cases e:s.data.toList with
 | nil => have : s.data.toList.length = s.size := by simp
          rw [e] at this; simp at this; omega
 | cons c t=>rfl
def allB (l:List UInt8):Bool:=l.all isd
theorem plainB_loop {s:ByteArray} (h0:0 < s.size) (hd:¬((s[0].toNat:Int)=48∧(1:Int) < (s.size:Int))):plainB s.data.toList=allB s.data.toList:=by
 have hl:s.data.toList.length=s.size:=by simp
 unfold plainB allB;rw [hl];have e:=bytes_cons s h0;have h1:s.data.toList.isEmpty=false:=by rw [e]; rfl
 have h2:s.data.toList.headD 0=s[0]:=by rw [e]; rfl
 rw [h1,h2]
 by_cases hc:s[0]=48
 · have:(s[0].toNat:Int)=48:=by rw [hc]; rfl
   have:¬ 1 < s.size:=by omega
   simp [this]
 · simp [hc]
theorem plainB_none {s:ByteArray} (h0:s.size=0):plainB s.data.toList=false:=by
 have:s.data.toList=[]:=List.length_eq_zero_iff.1 (by simpa using h0);rw [this]; rfl
theorem plainB_zero {s:ByteArray} (h0:0 < s.size) (hc:(s[0].toNat:Int)=48) (h1:(1:Int) < (s.size:Int)):plainB s.data.toList=false:=by
 have hl:s.data.toList.length=s.size:=by simp
 unfold plainB;rw [hl];have e:=bytes_cons s h0;have h2:s.data.toList.headD 0=s[0]:=by rw [e]; rfl
 have h3:s[0]=48:=UInt8.toNat_inj.1 (by show s[0].toNat=48; omega);rw [h2,h3];have:1 < s.size:=by omega
 simp [this]
theorem val_next (s:ByteArray) (k:Nat) (h:k < s.size):val (s.data.toList.take (k + 1))=10 * val (s.data.toList.take k) + (s[k].toNat - 48):=by
 rw [btake_snoc s k h,val_snoc]
theorem all_get (s:ByteArray) (h:allB s.data.toList=true) (k:Nat) (hk:k < s.size):48≤s[k].toNat∧s[k].toNat≤57:=by
 unfold allB at h;exact (isd_iff _).1 (List.all_eq_true.1 h _ (List.mem_of_getElem? (byte_get s k hk)))
theorem ltz_over {s:ByteArray} {k:Nat} (h:9223372036854775808 < (val (s.data.toList.take k):Int)):fitV (-(val s.data.toList:Int))=0∧fitB (-(val s.data.toList:Int))=false:=by
 have:=val_take_le s.data.toList k;exact ⟨(fit_no (by omega)).2,(fit_no (by omega)).1⟩
theorem plain_all {l:List UInt8} (h:plainB l=true):allB l=true:=by
 unfold plainB at h; unfold allB;simp only [Bool.and_eq_true] at h;exact h.2
theorem beq_list (t:ByteArray):(t.toList == [48])=(t.data.toList == [48]):=by rw [ByteArray.toList_eq]
theorem head_is (s:ByteArray) (h0:0 < s.size):s.data.toList.head?=some s[0]:=by rw [bytes_cons s h0]; rfl
theorem head_none (s:ByteArray) (h0:¬ 0 < s.size):s.data.toList.head?=none:=by
 have hl:s.data.toList.length=s.size:=by simp
 have:s.data.toList=[]:=List.length_eq_zero_iff.1 (by omega);rw [this]; rfl
theorem eq45 {c:UInt8}:((c.toNat:Int) == 45)=true ↔ c=45:=by
 constructor
 · intro h;have:(c.toNat:Int)=45:=by simpa using h
   exact UInt8.toNat_inj.1 (by show c.toNat=45; omega)
 · intro h; subst h; rfl
theorem plain_loop (s:ByteArray) (w:World) (hs:s.size≤maxLen) (h0:0 < s.size) (hd:¬((s[0].toNat:Int)=48∧(1:Int) < (s.size:Int))) :
 Calls Tryz.prog 155 #[.string s] w fun e w'=>e=.returned (.bool (allB s.data.toList))∧w'=w:=by
 unfold maxLen at hs;have he:=empty_no h0;have hne:¬ s.toList=[]:=by
  intro e; rw [e] at he; simp at he
 rcases (by omega:¬ ((s[0].toNat:Int)=48) ∨ (s[0].toNat:Int)=48∧(s.size:Int)≤1) with hc | ⟨hc,hc2⟩
 all_goals
  clear hd
  go_enter Tryz.func155,Tryz.ntmps155
  go_wp2
  go_loop [18] (fun i=>∃ k:Nat,k≤s.size∧i=.int .i64 (k:Int)∧Hid (allB (s.data.toList.take k)=true)) (fun i=>s.size - (intOf i).toNat)
  case atStart=>exact ⟨0,Nat.zero_le _,rfl,rfl⟩
  case round=>
   obtain ⟨k,hk,rfl,hall⟩:=hrel
   by_cases hlt:k < s.size
   · have hn:Hid (isd s[k]=false→allB s.data.toList=false):=all_not s k hlt;have hy:Hid (isd s[k]=true→allB (s.data.toList.take (k + 1))=true):=fun h=>by
      have h2:=hall.out;unfold allB at h2 ⊢;rw [all_take s k hlt,h2,h]; rfl
     go_wp2
     all_goals
      first
       | (go_ret; first | exact ⟨ret_b' (hn.out (isd_low (by omega))),rfl⟩ | exact ⟨ret_b' (hn.out (isd_high (by omega))),rfl⟩)
       | (go_round
          case rel=>exact ⟨k + 1,by omega,by go_num,hy.out (isd_mid (by omega) (by omega))⟩
          case measure=>simp [intOf]; omega)
   · have hf:Hid (allB s.data.toList=true):=by
      have:=hall.out;rw [List.take_of_length_le (by simp; omega)] at this;exact this
     go_wp2;go_ret;exact ⟨ret_b' hf.out,rfl⟩
theorem wplain_any (s:ByteArray) (w:World) (hs:s.size≤maxLen) :
 Calls Tryz.prog 155 #[.string s] w fun e w'=>e=.returned (.bool (plainB s.data.toList))∧w'=w:=by
 by_cases h0:0 < s.size
 · by_cases hd:(s[0].toNat:Int)=48∧(1:Int) < (s.size:Int)
   · rw [plainB_zero h0 hd.1 hd.2];unfold maxLen at hs;have he:=empty_no h0;have hne:¬ s.toList=[]:=by
      intro e; rw [e] at he; simp at he
     obtain ⟨hd1,hd2⟩:=hd
     go_enter Tryz.func155,Tryz.ntmps155
     go_wp2;go_ret;exact ⟨rfl,rfl⟩
   · rw [plainB_loop h0 hd];exact plain_loop s w hs h0 hd
 · rw [plainB_none (by omega)];have he:=empty_yes (s:=s) (by omega);unfold maxLen at hs
   go_enter Tryz.func155,Tryz.ntmps155
   go_wp2;go_ret;exact ⟨rfl,rfl⟩
theorem ltz_any (s:ByteArray) (w:World) (hs:s.size≤maxLen) (hall:allB s.data.toList=true) :
 Calls Tryz.prog 156 #[.string s] w fun e w'=>e=.returned (.tuple #[.int .i64 (fitV (-(val s.data.toList:Int))),.bool (fitB (-(val s.data.toList:Int)))])∧w'=w:=by
 unfold maxLen at hs;have HA:Hid _:=hall;clear hall
 go_enter Tryz.func156,Tryz.ntmps156
 go_wp2
 go_loop [4,10] (fun n i=>∃ k v:Nat,k≤s.size∧i=.int .i64 (k:Int)∧n=.int .i64 (-(v:Int))∧(v:Int)≤9223372036854775808∧Hid (v=val (s.data.toList.take k))) (fun _ i=>s.size - (intOf i).toNat)
 case atStart=>exact ⟨0,0,Nat.zero_le _,rfl,rfl,by omega,rfl⟩
 case round=>
  obtain ⟨k,v,hk,rfl,rfl,hv,hve⟩:=hrel
  by_cases hlt:k < s.size
  · obtain ⟨hd1,hd2⟩:=all_get s HA.out k hlt;have hnx:Hid (val (s.data.toList.take (k + 1))=10 * v + (s[k].toNat - 48)):=by
     show _=_;rw [val_next s k hlt,← hve.out]
    by_cases c1:9223372036854775808 < 10 * (v:Int)
    · have f1:∀ w,Calls Tryz.prog 163 #[.int .i64 (-(v:Int)),.int .i64 10] w fun e w'=>e=.returned (.tuple #[.int .i64 0,.bool false])∧w'=w:=fun w=>by
       have:=mul_any (-(v:Int)) 10 w (by omega) (by omega);rw [(fit_no (by omega)).1,(fit_no (by omega)).2] at this;exact this
      have F1:Hid _:=f1;clear f1
      go_wp2_with fail
      refine (F1.out _).mono ?_;rintro e w' ⟨rfl,rfl⟩;go_wp2
      go_ret2
      exact ⟨ret_nb (ltz_over (k:=k + 1) (by rw [hnx.out]; omega)),rfl⟩
    · have f1:∀ w,Calls Tryz.prog 163 #[.int .i64 (-(v:Int)),.int .i64 10] w fun e w'=>e=.returned (.tuple #[.int .i64 (-(v:Int) * 10),.bool true])∧w'=w:=fun w=>by
       have:=mul_any (-(v:Int)) 10 w (by omega) (by omega);rw [(fit_yes (by omega)).1,(fit_yes (by omega)).2] at this;exact this
      have F1:Hid _:=f1;clear f1
      by_cases c2:9223372036854775808 < 10 * (v:Int) + ((s[k].toNat:Int) - 48)
      · have f2:∀ w,Calls Tryz.prog 164 #[.int .i64 (-(v:Int) * 10),.int .i64 (-((s[k].toNat:Int) - 48))] w fun e w'=>e=.returned (.tuple #[.int .i64 0,.bool false])∧w'=w:=fun w=>by
         have:=add_any (-(v:Int) * 10) (-((s[k].toNat:Int) - 48)) w (by omega) (by omega);rw [(fit_no (by omega)).1,(fit_no (by omega)).2] at this;exact this
        have F2:Hid _:=f2;clear f2
        go_wp2_with fail
        refine (F1.out _).mono ?_;rintro e w' ⟨rfl,rfl⟩
        go_wp2_with fail
        refine (F2.out _).mono ?_;rintro e w' ⟨rfl,rfl⟩;go_wp2
        go_ret2
        exact ⟨ret_nb (ltz_over (k:=k + 1) (by rw [hnx.out]; omega)),rfl⟩
      · have f2:∀ w,Calls Tryz.prog 164 #[.int .i64 (-(v:Int) * 10),.int .i64 (-((s[k].toNat:Int) - 48))] w fun e w'=>e=.returned (.tuple #[.int .i64 (-(v:Int) * 10 + -((s[k].toNat:Int) - 48)),.bool true])∧w'=w:=fun w=>by
         have:=add_any (-(v:Int) * 10) (-((s[k].toNat:Int) - 48)) w (by omega) (by omega);rw [(fit_yes (by omega)).1,(fit_yes (by omega)).2] at this;exact this
        have F2:Hid _:=f2;clear f2
        go_wp2_with fail
        refine (F1.out _).mono ?_;rintro e w' ⟨rfl,rfl⟩
        go_wp2_with fail
        refine (F2.out _).mono ?_;rintro e w' ⟨rfl,rfl⟩;go_wp2
        go_round
        case rel=>exact ⟨k + 1,val (s.data.toList.take (k + 1)),by omega,by go_num,by rw [hnx.out]; congr 1; omega,by rw [hnx.out]; omega,rfl⟩
        case measure=>simp [intOf]; omega
  · have hf:Hid (v=val s.data.toList):=by
     have:=hve.out;rw [List.take_of_length_le (by simp; omega)] at this;exact this
    go_wp2
    go_ret2
    exact ⟨ret_nb (by rw [← hf.out]; exact ⟨(fit_yes (by omega)).2,(fit_yes (by omega)).1⟩),rfl⟩
theorem read_minus (s:ByteArray) (w:World) (hs:s.size≤maxLen) (h0:0 < s.size) (hm:((s[0].toNat:Int) == 45)=true) :
 Calls Tryz.prog 144 #[.string s] w fun e w'=>e=.returned (.tuple #[.int .i64 (coreV (s.data.toList.drop 1) true),.int .i64 (coreE (s.data.toList.drop 1) true)])∧w'=w:=by
 have ht:(s.extract 1 s.size).data.toList=s.data.toList.drop 1:=Lib.extract_to_end s 1;have hts:(s.extract 1 s.size).size≤maxLen:=by simp [maxLen] at hs ⊢; omega
 have hbe:=beq_list (s.extract 1 s.size);have hlz:Hid (allB (s.extract 1 s.size).data.toList=true→∀ w,Calls Tryz.prog 156 #[.string (s.extract 1 s.size)] w fun e w'=>e=.returned (.tuple #[.int .i64 (fitV (-(val (s.extract 1 s.size).data.toList:Int))),.bool (fitB (-(val (s.extract 1 s.size).data.toList:Int)))])∧w'=w):=fun h w=>ltz_any _ w hts h
 have hpl:Hid (∀ w,Calls Tryz.prog 155 #[.string (s.extract 1 s.size)] w fun e w'=>e=.returned (.bool (plainB (s.extract 1 s.size).data.toList))∧w'=w):=fun w=>wplain_any _ w hts
 unfold maxLen at hs;rw [ht] at hbe hlz hpl;clear ht hts;generalize s.data.toList.drop 1=l at *
 by_cases hp:plainB l=true
 · rw [hp] at hpl
   by_cases hz:(l == [48])=true
   · rw [hz] at hbe;have H:Hid (coreV l true=0∧coreE l true=6):=core_bad (by unfold badB; rw [hp,hz]; rfl);clear hlz
     go_enter Tryz.func144,Tryz.ntmps144
     go_wp2_with fail
     refine (hpl.out _).mono ?_;rintro e w' ⟨rfl,rfl⟩;clear hpl;go_wp2
     go_ret2
     exact ⟨ret_nn H.out,rfl⟩
   · replace hz:(l == [48])=false:=by simpa using hz
     rw [hz] at hbe;have hb:badB l true=false:=by unfold badB; rw [hp,hz]; rfl
     have F:=hlz.out (plain_all hp)
     by_cases hf:fitB (-(val l:Int))=true
     · have H:Hid (coreV l true=-(val l:Int)∧coreE l true=0):=core_fine hb hf;have e1:fitV (-(val l:Int))=-(val l:Int):=by unfold fitV; rw [if_pos hf]
       rw [hf,e1] at F;have F1:Hid _:=F;clear F hlz hf e1 hp hz hb;generalize (val l:Int)=v at *
       go_enter Tryz.func144,Tryz.ntmps144
       go_wp2_with fail
       refine (hpl.out _).mono ?_;rintro e w' ⟨rfl,rfl⟩
       go_wp2_with fail
       refine (F1.out _).mono ?_;rintro e w' ⟨rfl,rfl⟩;clear hpl F1;go_wp2
       go_ret2
       exact ⟨ret_nn H.out,rfl⟩
     · replace hf:fitB (-(val l:Int))=false:=by simpa using hf
       have H:Hid (coreV l true=0∧coreE l true=2):=core_over hb hf;have e1:fitV (-(val l:Int))=0:=by unfold fitV; rw [hf]; rfl
       rw [hf,e1] at F;have F1:Hid _:=F;clear F hlz hf e1 hp hz hb
       go_enter Tryz.func144,Tryz.ntmps144
       go_wp2_with fail
       refine (hpl.out _).mono ?_;rintro e w' ⟨rfl,rfl⟩
       go_wp2_with fail
       refine (F1.out _).mono ?_;rintro e w' ⟨rfl,rfl⟩;clear hpl F1;go_wp2
       go_ret2
       exact ⟨ret_nn H.out,rfl⟩
 · replace hp:plainB l=false:=by simpa using hp
   rw [hp] at hpl;have H:Hid (coreV l true=0∧coreE l true=6):=core_bad (by unfold badB; rw [hp]; rfl);clear hlz
   go_enter Tryz.func144,Tryz.ntmps144
   go_wp2_with fail
   refine (hpl.out _).mono ?_;rintro e w' ⟨rfl,rfl⟩;clear hpl;go_wp2
   go_ret2
   exact ⟨ret_nn H.out,rfl⟩
theorem read_plus (s:ByteArray) (w:World) (hs:s.size≤maxLen) (hm:(∃ h0:0 < s.size,((s[0].toNat:Int) == 45)=false) ∨ ¬ 0 < s.size) :
 Calls Tryz.prog 144 #[.string s] w fun e w'=>e=.returned (.tuple #[.int .i64 (coreV s.data.toList false),.int .i64 (coreE s.data.toList false)])∧w'=w:=by
 have hlz:Hid (allB s.data.toList=true→∀ w,Calls Tryz.prog 156 #[.string s] w fun e w'=>e=.returned (.tuple #[.int .i64 (fitV (-(val s.data.toList:Int))),.bool (fitB (-(val s.data.toList:Int)))])∧w'=w):=fun h w=>ltz_any _ w hs h
 have hpl:Hid (∀ w,Calls Tryz.prog 155 #[.string s] w fun e w'=>e=.returned (.bool (plainB s.data.toList))∧w'=w):=fun w=>wplain_any _ w hs
 unfold maxLen at hs;generalize s.data.toList=l at *
 by_cases hp:plainB l=true
 · rw [hp] at hpl;have hb:badB l false=false:=by unfold badB; rw [hp]; rfl
   have F:=hlz.out (plain_all hp)
   by_cases hf:fitB (-(val l:Int))=true
   · have e1:fitV (-(val l:Int))=-(val l:Int):=by unfold fitV; rw [if_pos hf]
     rw [hf,e1] at F;have F1:Hid _:=F;have hbd:=(fitB_iff _).1 hf
     by_cases hg:fitB (val l:Int)=true
     · have H:Hid (coreV l false=(val l:Int)∧coreE l false=0):=core_fine hb hg;have G:Hid (∀ w,Calls Tryz.prog 157 #[.int .i64 (-(val l:Int))] w fun e w'=>e=.returned (.tuple #[.int .i64 (val l:Int),.bool true])∧w'=w):=fun w=>by
        have:=neg_any (-(val l:Int)) w hbd;rw [Int.neg_neg,hg,show fitV (val l:Int)=(val l:Int) by unfold fitV; rw [if_pos hg]] at this;exact this
       clear F hlz hf e1 hp hb hg hbd;generalize (val l:Int)=v at *;rcases hm with ⟨h0,hm⟩ | hm
       all_goals
        go_enter Tryz.func144,Tryz.ntmps144
        go_wp2_with fail
        refine (hpl.out _).mono ?_;rintro e w' ⟨rfl,rfl⟩
        go_wp2_with fail
        refine (F1.out _).mono ?_;rintro e w' ⟨rfl,rfl⟩
        go_wp2_with fail
        refine (G.out _).mono ?_;rintro e w' ⟨rfl,rfl⟩;clear hpl F1 G;go_wp2
        go_ret2
        exact ⟨ret_nn H.out,rfl⟩
     · replace hg:fitB (val l:Int)=false:=by simpa using hg
       have H:Hid (coreV l false=0∧coreE l false=2):=core_over hb hg;have G:Hid (∀ w,Calls Tryz.prog 157 #[.int .i64 (-(val l:Int))] w fun e w'=>e=.returned (.tuple #[.int .i64 0,.bool false])∧w'=w):=fun w=>by
        have:=neg_any (-(val l:Int)) w hbd;rw [Int.neg_neg,hg,show fitV (val l:Int)=0 by unfold fitV; rw [hg]; rfl] at this;exact this
       clear F hlz hf e1 hp hb hg hbd;generalize (val l:Int)=v at *;rcases hm with ⟨h0,hm⟩ | hm
       all_goals
        go_enter Tryz.func144,Tryz.ntmps144
        go_wp2_with fail
        refine (hpl.out _).mono ?_;rintro e w' ⟨rfl,rfl⟩
        go_wp2_with fail
        refine (F1.out _).mono ?_;rintro e w' ⟨rfl,rfl⟩
        go_wp2_with fail
        refine (G.out _).mono ?_;rintro e w' ⟨rfl,rfl⟩;clear hpl F1 G;go_wp2
        go_ret2
        exact ⟨ret_nn H.out,rfl⟩
   · replace hf:fitB (-(val l:Int))=false:=by simpa using hf
     have hg:fitB (val l:Int)=false:=by
      cases e:fitB (val l:Int)
      · rfl
      · have h1:=(fitB_iff _).1 e;rw [(fit_yes (by omega)).1] at hf
        cases hf
     have H:Hid (coreV l false=0∧coreE l false=2):=core_over hb hg;have e1:fitV (-(val l:Int))=0:=by unfold fitV; rw [hf]; rfl
     rw [hf,e1] at F;have F1:Hid _:=F;clear F hlz hf e1 hp hb hg;rcases hm with ⟨h0,hm⟩ | hm
     all_goals
      go_enter Tryz.func144,Tryz.ntmps144
      go_wp2_with fail
      refine (hpl.out _).mono ?_;rintro e w' ⟨rfl,rfl⟩
      go_wp2_with fail
      refine (F1.out _).mono ?_;rintro e w' ⟨rfl,rfl⟩;clear hpl F1;go_wp2
      go_ret2
      exact ⟨ret_nn H.out,rfl⟩
 · replace hp:plainB l=false:=by simpa using hp
   rw [hp] at hpl;have H:Hid (coreV l false=0∧coreE l false=6):=core_bad (by unfold badB; rw [hp]; rfl);clear hlz;rcases hm with ⟨h0,hm⟩ | hm
   all_goals
    go_enter Tryz.func144,Tryz.ntmps144
    go_wp2_with fail
    refine (hpl.out _).mono ?_;rintro e w' ⟨rfl,rfl⟩;clear hpl;go_wp2
    go_ret2
    exact ⟨ret_nn H.out,rfl⟩
theorem read_any (s:ByteArray) (w:World) (hs:s.size≤maxLen) :
 Calls Tryz.prog 144 #[.string s] w fun e w'=>e=.returned (.tuple #[.int .i64 (readV s.data.toList),.int .i64 (readE s.data.toList)])∧w'=w:=by
 unfold readV readE
 by_cases h0:0 < s.size
 · rw [head_is s h0]
   by_cases hc:s[0]=45
   · rw [if_pos (by rw [hc]),if_pos (by rw [hc])];exact read_minus s w hs h0 (eq45.2 hc)
   · have hn:¬ some s[0]=some 45:=fun e=>hc (Option.some.inj e)
     rw [if_neg hn,if_neg hn];refine read_plus s w hs (.inl ⟨h0,?_⟩)
     cases e:((s[0].toNat:Int) == 45)
     · rfl
     · exact absurd (eq45.1 e) hc
 · rw [head_none s h0];rw [if_neg (by intro h; cases h),if_neg (by intro h; cases h)];exact read_plus s w hs (.inr h0)
theorem size_any (a:Int) (w:World) (ha:-9223372036854775808≤a∧a≤9223372036854775807) :
 Calls Tryz.prog 121 #[.int .i64 a] w fun e w'=>e=.returned (.int .u64 (a.natAbs:Int))∧w'=w:=by
 go_enter Tryz.func121,Tryz.ntmps121
 go_wp2
 all_goals
  go_ret;refine ⟨ret_n ?_,rfl⟩
  try simp only [IntKind.wrap_u64]
  omega
theorem rsize_any (a:Int) (w:World) (ha:-9223372036854775808≤a∧a≤9223372036854775807) :
 Calls Tryz.prog 64 #[.int .i64 a] w fun e w'=>e=.returned (.int .u64 (a.natAbs:Int))∧w'=w:=by
 go_enter Tryz.func64,Tryz.ntmps64
 go_wp2
 all_goals
  go_ret;refine ⟨ret_n ?_,rfl⟩
  try simp only [IntKind.wrap_u64]
  omega
theorem rgcd_any (a b:Nat) (w:World) (ha:(a:Int)≤18446744073709551615) (hb:(b:Int)≤18446744073709551615) :
 Calls Tryz.prog 93 #[.int .u64 (a:Int),.int .u64 (b:Int)] w fun e w'=>e=.returned (.int .u64 ((Nat.gcd a b:Nat):Int))∧∃ n,w'=w.drewN n:=by
 go_enter Tryz.func93,Tryz.ntmps93
 go_wp2
 go_loopw [0,1] (fun u v wx=>∃ x y n:Nat,u=.int .u64 (x:Int)∧v=.int .u64 (y:Int)∧(x:Int)≤18446744073709551615∧(y:Int)≤18446744073709551615∧Hid (Nat.gcd x y=Nat.gcd a b)∧wx=w.drewN n) (fun _ v _=>(intOf v).toNat)
 case atStart=>exact ⟨a,b,0,rfl,rfl,ha,hb,rfl,rfl⟩
 case round=>
  obtain ⟨x,y,n,rfl,rfl,hx,hy,hg,rfl⟩:=hrel
  by_cases h0:0 < y
  · have hy0:(0:Int) < (y:Int):=by omega
    have hr:(x:Int) % (y:Int) < (y:Int):=Int.emod_lt_of_pos _ hy0;have hr0:0≤(x:Int) % (y:Int):=Int.emod_nonneg _ (by omega);go_wp2
    go_quiet (fail)
    go_wp2
    go_roundw
    case rel=>exact ⟨y,x % y,_,rfl,by simp,hy,by simp; omega,by show _=_; rw [← hg.out,Nat.gcd_comm y,← Nat.gcd_rec,Nat.gcd_comm],by simp; rfl⟩
    case measure=>simp [intOf]; omega
  · have hy1:(y:Int)≤0:=by omega
    go_wp2;go_ret;refine ⟨ret_n ?_,_,rfl⟩;have:y=0:=by omega
    subst this;rw [← hg.out,Nat.gcd_zero_right]
theorem gcd_big {x:Nat} (h:(9223372036854775807:Int) < (x:Int)):fitV (x:Int)=0∧fitB (x:Int)=false:=⟨(fit_no (by omega)).2,(fit_no (by omega)).1⟩
theorem gcd_small {x:Nat} (h:(x:Int)≤9223372036854775807):fitV (x:Int)=(x:Int)∧fitB (x:Int)=true:=⟨(fit_yes (by omega)).2,(fit_yes (by omega)).1⟩
theorem gcd_any (a b:Int) (w:World) (ha:-9223372036854775808≤a∧a≤9223372036854775807) (hb:-9223372036854775808≤b∧b≤9223372036854775807) :
 Calls Tryz.prog 137 #[.int .i64 a,.int .i64 b] w fun e w'=>e=.returned (.tuple #[.int .i64 (fitV ((Nat.gcd a.natAbs b.natAbs:Nat):Int)),.bool (fitB ((Nat.gcd a.natAbs b.natAbs:Nat):Int))])∧∃ n,w'=w.drewN n:=by
 have fa:Hid (∀ w,Calls Tryz.prog 121 #[.int .i64 a] w fun e w'=>e=.returned (.int .u64 (a.natAbs:Int))∧w'=w):=fun w=>size_any a w ha
 have fb:Hid (∀ w,Calls Tryz.prog 121 #[.int .i64 b] w fun e w'=>e=.returned (.int .u64 (b.natAbs:Int))∧w'=w):=fun w=>size_any b w hb
 have hna:(a.natAbs:Int)≤9223372036854775808:=by omega
 have hnb:(b.natAbs:Int)≤9223372036854775808:=by omega
 generalize a.natAbs=p at *;generalize b.natAbs=q at *;clear ha hb
 go_enter Tryz.func137,Tryz.ntmps137
 go_wp2_with fail
 refine (fa.out _).mono ?_;rintro e w' ⟨rfl,rfl⟩
 go_wp2_with fail
 refine (fb.out _).mono ?_;rintro e w' ⟨rfl,rfl⟩;clear fa fb;go_wp2
 go_loopw [6,7] (fun u v wx=>∃ x y n:Nat,u=.int .u64 (x:Int)∧v=.int .u64 (y:Int)∧(x:Int)≤18446744073709551615∧(y:Int)≤18446744073709551615∧Hid (Nat.gcd x y=Nat.gcd p q)∧wx=w'.drewN n) (fun _ v _=>(intOf v).toNat)
 case atStart=>exact ⟨p,q,0,rfl,rfl,by omega,by omega,rfl,rfl⟩
 case round=>
  obtain ⟨x,y,n,rfl,rfl,hx,hy,hg,rfl⟩:=hrel
  by_cases h0:0 < y
  · have hy0:(0:Int) < (y:Int):=by omega
    have hr:(x:Int) % (y:Int) < (y:Int):=Int.emod_lt_of_pos _ hy0;have hr0:0≤(x:Int) % (y:Int):=Int.emod_nonneg _ (by omega);go_wp2
    go_quiet (fail)
    go_wp2
    go_roundw
    case rel=>exact ⟨y,x % y,_,rfl,by simp,hy,by simp; omega,by show _=_; rw [← hg.out,Nat.gcd_comm y,← Nat.gcd_rec,Nat.gcd_comm],by simp; rfl⟩
    case measure=>simp [intOf]; omega
  · have hy1:(y:Int)≤0:=by omega
    have he:Hid (Nat.gcd p q=x):=by
     show _=_;have:y=0:=by omega
     subst this;rw [← hg.out,Nat.gcd_zero_right]
    clear hg;go_wp2
    · go_ret2
      rw [he.out];exact ⟨ret_nb (gcd_big ‹_›),_,rfl⟩
    · go_ret2
      rw [he.out];exact ⟨ret_nb (gcd_small ‹_›),_,rfl⟩
end Go.Proofs.YthabffjgdhfbmaaGreatDoor
namespace Go.Proofs.YthabffjgdhfbmaaGreatDoor
open Go.RowKit (wrap64)
def I64 (n:Int):Prop:=-9223372036854775808≤n∧n≤9223372036854775807
def gcdN (n d:Int):Nat:=Nat.gcd n.natAbs d.natAbs
def rightB (n d:Int):Bool:=decide (0 < d) && decide (gcdN n d=1)
end Go.Proofs.YthabffjgdhfbmaaGreatDoor
namespace Go.Proofs.YthabffjgdhfbmaaGreatDoor
open Go.RowKit
abbrev rv (n d:Int):Value:=.agg #[.int .i64 n,.int .i64 d]
theorem below_drewN {B:Nat} {a w:World} (h:Below B a w) (n:Nat):Below B a (w.drewN n):=⟨h.os,h.tape,h.output,h.size,h.block⟩
theorem below_set2 {B:Nat} {a w:World} (h:Below B a w) {p q:Addr} {u v:Value} (hp:B≤p.block) (hq:B≤q.block):Below B a ((w.setCell p u).setCell q v):=(h.setCell hp u).setCell hq v
theorem ret_b {a b:Bool} (h:b=a):Ending.returned (.bool a)=.returned (.bool b):=by rw [h]
theorem right_any (n d:Int) (w:World) (hn:I64 n) (hd:I64 d) :
 Calls Tryz.prog 115 #[rv n d] w fun e w'=>e=.returned (.bool (rightB n d))∧Below w.heap.size w w':=by
 have fg:Hid (∀ w,Calls Tryz.prog 137 #[.int .i64 n,.int .i64 d] w fun e w'=>e=.returned (.tuple #[.int .i64 (fitV (gcdN n d:Int)),.bool (fitB (gcdN n d:Int))])∧∃ k,w'=w.drewN k):=fun w=>gcd_any n d w hn hd
 have fr:Hid ((rightB n d=(decide (0 < d) && decide (fitV (gcdN n d:Int)=1)))):=by
  show _=_;unfold rightB
  congr 1
  by_cases h:I64 (gcdN n d:Int)
  · rw [(fit_yes h).2]; simp only [decide_eq_decide]; omega
  · rw [(fit_no h).2];have:¬ gcdN n d=1:=by intro e; apply h; rw [e]; exact ⟨by omega,by omega⟩
    simp [this]
 clear hn hd;generalize rightB n d=r at *;generalize fitV (gcdN n d:Int)=g at *;generalize fitB (gcdN n d:Int)=gb at *
 go_enter Tryz.func115,Tryz.ntmps115
 go_wp2_with fail
 refine (fg.out _).mono ?_;rintro e w' ⟨rfl,k,rfl⟩;go_wp2
 all_goals
  go_ret;refine ⟨ret_b ?_,below_drewN (by go_grown) k⟩;rw [fr.out,Bool.eq_iff_iff];simp;omega
theorem natAbs_bd {n:Int} (h:I64 n):(n.natAbs:Int)≤18446744073709551615:=by unfold I64 at h; omega
theorem rright_any (n d:Int) (w:World) (hn:I64 n) (hd:I64 d) :
 Calls Tryz.prog 62 #[rv n d] w fun e w'=>e=.returned (.bool (rightB n d))∧Below w.heap.size w w':=by
 have fa:Hid (∀ w,Calls Tryz.prog 64 #[.int .i64 n] w fun e w'=>e=.returned (.int .u64 (n.natAbs:Int))∧w'=w):=fun w=>rsize_any n w hn
 have fb:Hid (∀ w,Calls Tryz.prog 64 #[.int .i64 d] w fun e w'=>e=.returned (.int .u64 (d.natAbs:Int))∧w'=w):=fun w=>rsize_any d w hd
 have fg:Hid (∀ w,Calls Tryz.prog 93 #[.int .u64 (n.natAbs:Int),.int .u64 (d.natAbs:Int)] w fun e w'=>e=.returned (.int .u64 (gcdN n d:Int))∧∃ k,w'=w.drewN k):=fun w=>rgcd_any _ _ w (natAbs_bd hn) (natAbs_bd hd)
 have H:Hid (rightB n d=(decide (0 < d) && ((gcdN n d:Int) == 1))):=by
  show _=_;unfold rightB
  congr 1
  rw [Bool.eq_iff_iff]; simp; omega
 generalize rightB n d=r at *;generalize (gcdN n d:Int)=g at *;generalize (n.natAbs:Int)=p at *;generalize (d.natAbs:Int)=q at *
 by_cases h:0 < d
 · replace H:Hid (r=(g == 1)):=by show _=_; rw [H.out]; simp [h]
   clear hn hd
   go_enter Tryz.func62,Tryz.ntmps62
   go_wp2_with fail
   go_quiet (first
    | (go_at_call_of 64 n; refine Calls.quiet_of_same (fa.out _))
    | (go_at_call_of 64 d; refine Calls.quiet_of_same (fb.out _))
    | (go_at_call 93; refine Calls.quiet_of (fg.out _)))
   go_wp2;go_ret;exact ⟨ret_b H.out,below_drewN (by go_grown) _⟩
 · replace H:Hid (r=false):=by show _=_; rw [H.out]; simp [h]
   have h2:decide (0 < d)=false:=by simp [h]
   clear hn hd
   go_enter Tryz.func62,Tryz.ntmps62
   go_wp2_with fail
   go_quiet (fail)
   go_wp2;go_ret;exact ⟨ret_b H.out,below_drewN (by go_grown) _⟩
theorem kept2 {w w':World} {x y:Value} {b:Nat} (h:Below w.heap.size w w') (h0:w.cell? ⟨b,0,none⟩=some x) (h1:w.cell? ⟨b,1,none⟩=some y)
 (f0:w.frozen? ⟨b,0,none⟩=false) (f1:w.frozen? ⟨b,1,none⟩=false) :
 w'.cell? ⟨b,0,none⟩=some x∧w'.cell? ⟨b,1,none⟩=some y∧w'.frozen? ⟨b,0,none⟩=false∧w'.frozen? ⟨b,1,none⟩=false∧b < w'.heap.size:=by
 have hb:b < w.heap.size:=block_lt_of_cell h0;exact ⟨(h.cell hb).trans h0,(h.cell hb).trans h1,(h.frozen hb).trans f0,(h.frozen hb).trans f1,Nat.lt_of_lt_of_le hb h.size⟩
def Has (w:World) (b:Nat) (x y:Value):Prop:=
 w.cell? ⟨b,0,none⟩=some x∧w.cell? ⟨b,1,none⟩=some y∧w.frozen? ⟨b,0,none⟩=false∧w.frozen? ⟨b,1,none⟩=false∧b < w.heap.size
theorem Has.below {w w':World} {b:Nat} {x y:Value} (h:Has w b x y) (hb:Below w.heap.size w w'):Has w' b x y:=kept2 hb h.1 h.2.1 h.2.2.1 h.2.2.2.1
theorem has_new (w:World) (x y:Value) (t:TypeId):Has (w.alloc (.cells #[x,y] t)) w.heap.size x y:=by
 refine ⟨?_,?_,?_,?_,?_⟩ <;> simp
theorem Has.alloc {w:World} {b:Nat} {x y:Value} (h:Has w b x y) (o:Obj):Has (w.alloc o) b x y:=
 h.below ((Below.refl _ _).alloc (Nat.le_refl _) _)
theorem below_trans {a b c:World} (h:Below a.heap.size a b) (k:Below b.heap.size b c):Below a.heap.size a c:=h.trans (k.mono h.size)
theorem res_pair {fn:Func} {p u:Tmp} (h:fn.results=#[.cell p 67,.tmp u]) {tmps:Array Value} {w:World} {b:Nat} {x y e:Value}
 (hp:tmps.getD p undef=.pointer (some ⟨b,0,none⟩)) (hu:tmps.getD u undef=e) (h0:w.cell? ⟨b,0,none⟩=some x) (h1:w.cell? ⟨b,1,none⟩=some y) :
 (results fn tmps).run Tryz.prog w=.ok (.tuple #[.agg #[x,y],e]) w:=by
 rw [results_cell_tmp h,hp,hu];simp only [asAddr];simp [go_sem,Result.andThen,h0,h1]
theorem wrote2 {w:World} {b:Nat} {x y u v:Value} (c0:w.cell? ⟨b,0,none⟩=some u) (c1:w.cell? ⟨b,1,none⟩=some v) :
 ((w.setCell ⟨b,0,none⟩ x).setCell ⟨b,1,none⟩ y).cell? ⟨b,0,none⟩=some x∧((w.setCell ⟨b,0,none⟩ x).setCell ⟨b,1,none⟩ y).cell? ⟨b,1,none⟩=some y:=by
 have n1:(⟨b,1,none⟩:Addr) ≠ ⟨b,0,none⟩:=by simp
 have n2:(⟨b,0,none⟩:Addr) ≠ ⟨b,1,none⟩:=by simp
 constructor
 · rw [World.cell?_setCell_other _ _ _ _ n1]; exact World.cell?_setCell_same _ _ _ c0
 · refine World.cell?_setCell_same _ _ _ (u:=v) ?_;rw [World.cell?_setCell_other _ _ _ _ n2]; exact c1
theorem has_lit {w:World} {b:Nat} (x y:Value) (t:TypeId) (h:b=w.heap.size):Has (w.alloc (.cells #[x,y] t)) b x y:=by subst h; exact has_new w x y t
theorem has_drewN {w:World} {b:Nat} {x y:Value} (h:Has w b x y) (k:Nat):Has (w.drewN k) b x y:=h.below (below_drewN (Below.refl _ _) k)
def rdE (s:ByteArray):Int:=
 if readE (cutU s).data.toList=6 ∨ readE (cutV s).data.toList=6 then 6 else if readE (cutU s).data.toList ≠ 0 ∨ readE (cutV s).data.toList ≠ 0 then 2 else if rightB (readV (cutU s).data.toList) (readV (cutV s).data.toList)=true then 0 else 1
def rdN (s:ByteArray):Int:=if rdE s=0 then readV (cutU s).data.toList else 0
def rdD (s:ByteArray):Int:=if rdE s=0 then readV (cutV s).data.toList else 0
theorem coreE_ways (t:List UInt8) (m:Bool):coreE t m=6 ∨ coreE t m=2 ∨ coreE t m=0:=by
 unfold coreE; split
 · exact .inl rfl
 · split
   · exact .inr (.inr rfl)
   · exact .inr (.inl rfl)
theorem readE_ways (t:List UInt8):readE t=6 ∨ readE t=2 ∨ readE t=0:=by
 unfold readE; split
 · exact coreE_ways _ _
 · exact coreE_ways _ _
theorem readV_i64 (t:List UInt8):I64 (readV t):=by
 unfold readV coreV I64
 split <;> split <;> first | exact fitV_bd _ | omega
theorem rd_ways (s:ByteArray):∃ (e1 e2:Int) (r:Bool),readE (cutU s).data.toList=e1∧readE (cutV s).data.toList=e2∧rightB (readV (cutU s).data.toList) (readV (cutV s).data.toList)=r ∧
 ((e1=6∧rdN s=0∧rdD s=0∧rdE s=6) ∨ (e1=2∧e2=6∧rdN s=0∧rdD s=0∧rdE s=6) ∨ (e1=0∧e2=6∧rdN s=0∧rdD s=0∧rdE s=6)
 ∨ (e1=2∧e2=2∧rdN s=0∧rdD s=0∧rdE s=2) ∨ (e1=2∧e2=0∧rdN s=0∧rdD s=0∧rdE s=2) ∨ (e1=0∧e2=2∧rdN s=0∧rdD s=0∧rdE s=2)
 ∨ (e1=0∧e2=0∧r=false∧rdN s=0∧rdD s=0∧rdE s=1)
 ∨ (e1=0∧e2=0∧r=true∧rdN s=readV (cutU s).data.toList∧rdD s=readV (cutV s).data.toList∧rdE s=0)):=by
 refine ⟨_,_,_,rfl,rfl,rfl,?_⟩;unfold rdN rdD rdE;rcases readE_ways (cutU s).data.toList with h1 | h1 | h1 <;> rcases readE_ways (cutV s).data.toList with h2 | h2 | h2 <;> cases h3:rightB (readV (cutU s).data.toList) (readV (cutV s).data.toList) <;> simp [h1,h2]
theorem ratRead_any (s:ByteArray) (w:World) (hs:s.size≤maxLen) :
 Calls Tryz.prog 129 #[.string s] w fun e w'=>e=.returned (.tuple #[rv (rdN s) (rdD s),.int .i64 (rdE s)])∧Below w.heap.size w w':=by
 have fc:Hid (∀ w,Calls Tryz.prog 98 #[.string s,.string ⟨#[47]⟩] w fun e w'=>e=.returned (.tuple #[.string (cutU s),.string (cutV s),.bool (cutB s)])∧∃ n,w'=w.drewN n):=fun w=>scut_any s w hs
 have cs:=cut_sizes s;have fu:Hid (∀ w,Calls Tryz.prog 144 #[.string (cutU s)] w fun e w'=>e=.returned (.tuple #[.int .i64 (readV (cutU s).data.toList),.int .i64 (readE (cutU s).data.toList)])∧w'=w):=fun w=>read_any _ w (Nat.le_trans cs.1 hs)
 have fv:Hid (∀ w,Calls Tryz.prog 144 #[.string (cutV s)] w fun e w'=>e=.returned (.tuple #[.int .i64 (readV (cutV s).data.toList),.int .i64 (readE (cutV s).data.toList)])∧w'=w):=fun w=>read_any _ w (Nat.le_trans cs.2 hs)
 have fr:Hid (∀ w,Calls Tryz.prog 115 #[rv (readV (cutU s).data.toList) (readV (cutV s).data.toList)] w fun e w'=>e=.returned (.bool (rightB (readV (cutU s).data.toList) (readV (cutV s).data.toList)))∧Below w.heap.size w w'):=fun w=>right_any _ _ w (readV_i64 _) (readV_i64 _)
 obtain ⟨e1,e2,r,q1,q2,q3,hw⟩:=rd_ways s;rw [q1] at fu;rw [q2] at fv;rw [q3] at fr;clear cs q1 q2 q3 hs;generalize readV (cutU s).data.toList=x at *;generalize readV (cutV s).data.toList=y at *;generalize cutU s=u at *;generalize cutV s=v at *;generalize cutB s=b at *;generalize rdN s=N at *;generalize rdD s=D at *;generalize rdE s=E at *;rcases hw with ⟨rfl,rfl,rfl,rfl⟩ | ⟨rfl,rfl,rfl,rfl,rfl⟩ | ⟨rfl,rfl,rfl,rfl,rfl⟩ | ⟨rfl,rfl,rfl,rfl,rfl⟩ | ⟨rfl,rfl,rfl,rfl,rfl⟩ | ⟨rfl,rfl,rfl,rfl,rfl⟩ | ⟨rfl,rfl,rfl,rfl,rfl,rfl⟩ | ⟨rfl,rfl,rfl,rfl,rfl,rfl⟩
 all_goals
  go_enter Tryz.func129,Tryz.ntmps129
  go_wp2_with fail
  refine (fc.out _).mono ?_;rintro e w' ⟨rfl,k,rfl⟩
  go_wp2_with fail
  refine (fu.out _).mono ?_;rintro e w' ⟨rfl,rfl⟩
  go_wp2_with fail
  refine (fv.out _).mono ?_;rintro e w' ⟨rfl,rfl⟩;clear fc fu fv
 · clear fr;go_wp2;go_returns;exact ⟨rfl,below_set2 (below_drewN (by go_grown) _) (by simp) (by simp)⟩
 · clear fr;go_wp2;go_returns;exact ⟨rfl,below_set2 (below_drewN (by go_grown) _) (by simp) (by simp)⟩
 · clear fr;go_wp2;go_returns;exact ⟨rfl,below_set2 (below_drewN (by go_grown) _) (by simp) (by simp)⟩
 · clear fr;go_wp2;go_returns;exact ⟨rfl,below_set2 (below_drewN (by go_grown) _) (by simp) (by simp)⟩
 · clear fr;go_wp2;go_returns;exact ⟨rfl,below_set2 (below_drewN (by go_grown) _) (by simp) (by simp)⟩
 · clear fr;go_wp2;go_returns;exact ⟨rfl,below_set2 (below_drewN (by go_grown) _) (by simp) (by simp)⟩
 all_goals
  go_wp2_with fail
  refine (fr.out _).mono ?_;rintro e w4 ⟨rfl,hb4⟩;have HB4:Hid (Below w.heap.size w w4):=below_trans (a:=w) (Below.alloc (below_drewN (by go_grown) _) (by simp) _) hb4;have R4:Has w4 w.heap.size (.int .i64 0) (.int .i64 0):=Has.below (Has.alloc (has_drewN (has_new _ _ _ _) _) _) hb4;have P4:=Has.below (b:=w.heap.size + 1) (has_lit _ _ _ (by simp)) hb4;clear hb4 fr;obtain ⟨r0,r1,r2,r3,r4⟩:=R4;obtain ⟨p0,p1,p2,p3,p4⟩:=P4;go_wp2;have hq:=fun x y=>wrote2 (x:=x) (y:=y) r0 r1
  refine bodyPost_ret (res_pair Tryz.results129 rfl rfl (hq _ _).1 (hq _ _).2) rfl ?_;exact ⟨rfl,HB4.out.setCell (by simp) _ |>.setCell (by simp) _⟩
def frB (w:Wd):Bool:=decide (rdE (txt w)=0)
def frN (w:Wd):Int:=readV (cutU (txt w)).data.toList
def frD (w:Wd):Int:=readV (cutV (txt w)).data.toList
theorem fr_yes {w:Wd} (h:frB w=true):rdE (txt w)=0∧rdN (txt w)=frN w∧rdD (txt w)=frD w:=by
 have h0:rdE (txt w)=0:=by simpa [frB] using h
 exact ⟨h0,by unfold rdN frN; rw [if_pos h0],by unfold rdD frD; rw [if_pos h0]⟩
end Go.Proofs.YthabffjgdhfbmaaGreatDoor
