/-
  Texts that belong together, one behind the other: CrcMath, CrcRefA, CrcKind, CrcRefC, CrcRefD, SumMath. Conditions: as each says.
-/
import Derived.Below
import Derived.BigQuiet
import Derived.BigRegion
import Derived.ChangeOld
import Derived.Deep.CutRange
import Derived.Deep.QuietTactic
import Derived.Handy
import Derived.Laws.BitsAllLaws
import Derived.Laws.OwnMore
import Derived.Laws.Tables
import Derived.Maps.AppendAt
import Derived.OpenShut
import Derived.OwnWalk
import Derived.ProofKit
import Derived.RangeFuncBox
import Derived.RowKit
import Derived.ShutString
import Derived.Test.YthabffjgdhfbmaaGreatDoorProg
import Derived.WalkKit
import Derived.WalkLawsBesides
import Derived.WalkSpells
import Derived.Test.YthabffjgdhfbmaaGreatDoorJm1
set_option maxRecDepth 100000
set_option maxHeartbeats 32000000
set_option linter.unusedVariables false
namespace Go.Proofs.YthabffjgdhfbmaaGreatDoor
open Go.RowKit
def xl:List Bool→List Bool→List Bool
 | a :: asz,b :: bs=>(a ^^ b) :: xl asz bs
 | _,_=>[]
def numL (l:List Bool):Nat:=l.foldl (fun v b=>2 * v + b.toNat) 0
def bitsL (v:Nat):Nat→List Bool
 | 0=>[]
 | n + 1=>bitsL (v / 2) n ++ [decide (v % 2=1)]
theorem numL_nil:numL []=0:=rfl
theorem numL_snoc (l:List Bool) (b:Bool):numL (l ++ [b])=2 * numL l + b.toNat:=by simp [numL]
theorem foldl_num (l:List Bool):∀ v:Nat,l.foldl (fun v b=>2 * v + b.toNat) v=v * 2 ^ l.length + numL l:=by
 unfold numL
 induction l with
 | nil=>intro v; simp
 | cons b l ih=>
  intro v;simp only [List.foldl_cons,List.length_cons];rw [ih,ih (2 * 0 + b.toNat),Nat.pow_succ]
  grind
theorem numL_cons (b:Bool) (l:List Bool):numL (b :: l)=b.toNat * 2 ^ l.length + numL l:=by
 have:=foldl_num l (2 * 0 + b.toNat);unfold numL at *;rw [List.foldl_cons,this];simp
theorem numL_lt (l:List Bool):numL l < 2 ^ l.length:=by
 induction l with
 | nil=>decide
 | cons b l ih=>
  rw [numL_cons,List.length_cons,Nat.pow_succ]
  cases b
  · simp; omega
  · simp; omega
theorem bitsL_len (n:Nat):∀ v,(bitsL v n).length=n:=by
 induction n with
 | zero=>intro v; rfl
 | succ n ih=>intro v; simp [bitsL,ih]
theorem numL_bits (n:Nat):∀ v,numL (bitsL v n)=v % 2 ^ n:=by
 induction n with
 | zero=>intro v; simp [bitsL,numL_nil,Nat.mod_one]
 | succ n ih=>
  intro v;rw [bitsL,numL_snoc,ih];have h:(decide (v % 2=1)).toNat=v % 2:=by
   rcases Nat.mod_two_eq_zero_or_one v with h | h <;> simp [h]
  rw [h,Nat.pow_succ,Nat.mul_comm (2 ^ n) 2,Nat.mod_mul];omega
theorem snoc_of_len {l:List Bool} {n:Nat} (h:l.length=n + 1):∃ m b,l=m ++ [b]∧m.length=n:=by
 refine ⟨l.dropLast,l.getLast (by intro e; rw [e] at h; cases h),(List.dropLast_concat_getLast _).symm,by simp [h]⟩
theorem bits_num (n:Nat):∀ l:List Bool,l.length=n→bitsL (numL l) n=l:=by
 induction n with
 | zero=>intro l h; rw [List.length_eq_zero_iff.1 h]; rfl
 | succ n ih=>
  intro l h;obtain ⟨m,b,rfl,hm⟩:=snoc_of_len h;rw [bitsL,numL_snoc];have e1:(2 * numL m + b.toNat) / 2=numL m:=by cases b <;> simp <;> omega
  have e2:decide ((2 * numL m + b.toNat) % 2=1)=b:=by cases b <;> simp <;> omega
  rw [e1,e2,ih m hm]
theorem numL_inj {a b:List Bool} (h:a.length=b.length) (e:numL a=numL b):a=b:=by
 have h1:=bits_num b.length a h;have h2:=bits_num b.length b rfl;rw [← h1,e,h2]
theorem xl_len {a:List Bool}:∀ {b:List Bool},a.length=b.length→(xl a b).length=b.length:=by
 induction a with
 | nil=>intro b h; cases b with | nil=>rfl | cons _ _=>cases h
 | cons x a ih=>
  intro b h
  cases b with
  | nil=>cases h
  | cons y b=>simp [xl,ih (Nat.succ.inj h)]
theorem xl_app {a:List Bool}:∀ {b c d:List Bool},a.length=b.length→xl (a ++ c) (b ++ d)=xl a b ++ xl c d:=by
 induction a with
 | nil=>intro b c d h; cases b with | nil=>rfl | cons _ _=>cases h
 | cons x a ih=>
  intro b c d h
  cases b with
  | nil=>cases h
  | cons y b=>simp [xl,ih (Nat.succ.inj h)]
def stL (p:List Bool):List Bool→List Bool
 | []=>[]
 | h :: t=>if h=true then xl (t ++ [false]) p else t ++ [false]
theorem stL_len {p r:List Bool} (h:p.length=r.length):(stL p r).length=r.length:=by
 cases r with
 | nil=>rfl
 | cons b t=>
  cases b
  · show (t ++ [false]).length=t.length + 1;simp
  · show (xl (t ++ [false]) p).length=t.length + 1;rw [xl_len (by simpa using h.symm)]; exact h
def itL (p:List Bool):Nat→List Bool→List Bool
 | 0,r=>r
 | k + 1,r=>itL p k (stL p r)
theorem itL_len {p:List Bool} (k:Nat):∀ {r:List Bool},p.length=r.length→(itL p k r).length=r.length:=by
 induction k with
 | zero=>intro r h; rfl
 | succ k ih=>intro r h; rw [itL,ih (by rw [stL_len h]; exact h),stL_len h]
def mixL (r c:List Bool):List Bool:=xl (r.take 8) c ++ r.drop 8
theorem mixL_len {r c:List Bool} (h:8≤r.length) (k:c.length=8):(mixL r c).length=r.length:=by
 unfold mixL;rw [List.length_append,xl_len (by rw [List.length_take,k]; omega),List.length_drop,k];omega
def byL (p r c:List Bool):List Bool:=itL p 8 (mixL r c)
def foldB (p:List Bool) (r:List Bool) (cs:List (List Bool)):List Bool:=cs.foldl (byL p) r
structure Fits (w:Nat) (p r:List Bool):Prop where
 w8:8≤w
 pl:p.length=w
 rl:r.length=w
theorem Fits.byte {w:Nat} {p r c:List Bool} (h:Fits w p r) (hc:c.length=8):Fits w p (byL p r c):=by
 have m:(mixL r c).length=r.length:=mixL_len (by rw [h.rl]; exact h.w8) hc;refine ⟨h.w8,h.pl,?_⟩;unfold byL;rw [itL_len 8 (by rw [m,h.rl,h.pl]),m,h.rl]
theorem foldB_len {w:Nat} {p:List Bool} (cs:List (List Bool)):∀ {r:List Bool},Fits w p r→(∀ c ∈ cs,c.length=8)→Fits w p (foldB p r cs):=by
 induction cs with
 | nil=>intro r h _; exact h
 | cons c cs ih=>intro r h k; exact ih (h.byte (k c (by simp))) (fun x hx=>k x (by simp [hx]))
def bcL (t:Bool) (c:Nat):List Bool:=if t=true then (bitsL c 8).reverse else bitsL c 8
def revL (t:Bool) (r:List Bool):List Bool:=if t=true then r.reverse else r
theorem bcL_len (t:Bool) (c:Nat):(bcL t c).length=8:=by unfold bcL; cases t <;> simp [bitsL_len]
theorem bcL_all (t:Bool) (cs:List Nat):∀ c ∈ cs.map (bcL t),c.length=8:=by
 intro c h;obtain ⟨x,_,rfl⟩:=List.mem_map.1 h;exact bcL_len t x
theorem revL_len (t:Bool) (r:List Bool):(revL t r).length=r.length:=by unfold revL; cases t <;> simp
def sumL (w p f:Nat) (t:Bool) (z:Nat) (cs:List Nat):Nat:=numL (revL t (foldB (bitsL p w) (bitsL f w) (cs.map (bcL t)))) ^^^ z
theorem sum_fits {w:Nat} (p f:Nat) (t:Bool) (cs:List Nat) (hw:8≤w):Fits w (bitsL p w) (foldB (bitsL p w) (bitsL f w) (cs.map (bcL t))):=
 foldB_len _ ⟨hw,bitsL_len _ _,bitsL_len _ _⟩ (bcL_all t cs)
theorem sumL_lt {w p f:Nat} {t:Bool} {z:Nat} {cs:List Nat} (hw:8≤w) (hz:z < 2 ^ w):sumL w p f t z cs < 2 ^ w:=by
 have G:=sum_fits p f t cs hw;unfold sumL;refine Nat.xor_lt_two_pow ?_ hz;have:=numL_lt (revL t (foldB (bitsL p w) (bitsL f w) (cs.map (bcL t))))
 rwa [revL_len,G.rl] at this
theorem info_bool:(Tryz.prog.info? 4).map (fun i=>(i.zero,i.size,i.bytes))=some (some (.bool false),1,1):=by kernel_rfl
def Row (w:World) (base:Nat) (x:Value) (l:List Bool):Prop:=w.ownsRow base 4 1 x l.length (l.map Value.bool)
theorem Row.form {w:World} {base:Nat} {x:Value} {l:List Bool} (h:Row w base x l):(x=.slice none 0 0∧l=[]) ∨ ∃ g cap,x=.slice (some ⟨g,0,none⟩) l.length cap∧l.length≤cap∧base≤g∧g < w.heap.size:=by
 rcases h.2 with ⟨h1,h2⟩ | ⟨g,cap,cur,h1,h2,h3,h4,_⟩
 · exact .inl ⟨h1,List.length_eq_zero_iff.1 h2⟩
 · exact .inr ⟨g,cap,h1,h4,h2,(Array.getElem?_eq_some_iff.1 h3).1⟩
theorem Row.cell {w:World} {base g cap:Nat} {l:List Bool} (h:Row w base (.slice (some ⟨g,0,none⟩) l.length cap) l) (j:Nat) (hj:j < l.length):w.cell? ⟨g,j,none⟩=some (.bool l[j]):=by
 rw [World.ownsRow.cellAt h j (by omega),List.getElem?_map,List.getElem?_eq_getElem hj]; rfl
theorem Row.below {w w':World} {base:Nat} {x:Value} {l:List Bool} (h:Row w base x l) (hb:Below w.heap.size w w'):Row w' base x l:=by
 refine ⟨h.1,?_⟩;rcases h.2 with k | ⟨g,cap,cur,h1,h2,h3,h4⟩
 · exact .inl k
 · exact .inr ⟨g,cap,cur,h1,h2,(hb.block g (Array.getElem?_eq_some_iff.1 h3).1).trans h3,h4⟩
theorem numL_take (l:List Bool) {k:Nat} (h:k < l.length):numL (l.take (k + 1))=2 * numL (l.take k) + l[k].toNat:=by
 rw [← List.take_append_getElem h,numL_snoc]
theorem number_any (l:List Bool) (x:Value) (base:Nat) (w:World) (h:Row w base x l) (hl:l.length≤32) :
 Calls Tryz.prog 92 #[x] w fun e w'=>e=.returned (.int .u32 (numL l:Int))∧w'=w:=by
 rcases h.form with ⟨rfl,rfl⟩ | ⟨g,cap,rfl,hc,_,_⟩
 · go_enter Tryz.func92,Tryz.ntmps92
   go_wp2
   go_loop [3,4] (fun v i=>v=.int .u32 0∧i=.int .i64 0) (fun _ _=>0)
   case atStart=>exact ⟨rfl,rfl⟩
   case round=>
    obtain ⟨rfl,rfl⟩:=hrel;go_wp2;go_ret;exact ⟨rfl,rfl⟩
 · have HC:Hid (∀ j (hj:j < l.length),w.cell? ⟨g,j,none⟩=some (.bool l[j])):=fun j hj=>h.cell j hj
   have hl1:(l.length:Int)≤32:=by omega
   clear h
   go_enter Tryz.func92,Tryz.ntmps92
   go_wp2
   go_loop [3,4] (fun v i=>∃ k:Nat,k≤l.length∧i=.int .i64 (k:Int)∧v=.int .u32 ((numL (l.take k):Nat):Int)) (fun _ i=>l.length - (intOf i).toNat)
   case atStart=>exact ⟨0,by omega,rfl,rfl⟩
   case round=>
    obtain ⟨k,hk,rfl,rfl⟩:=hrel
    by_cases hlt:k < l.length
    · have hcell:=HC.out k hlt;have hnx:Hid (numL (l.take (k + 1))=2 * numL (l.take k) + l[k].toNat):=numL_take l hlt;have hbd:numL (l.take k) < 2147483648:=by
       have h1:=numL_lt (l.take k);have h2:(l.take k).length≤31:=by rw [List.length_take]; omega
       have h3:2 ^ (l.take k).length≤2 ^ 31:=Nat.pow_le_pow_right (by omega) h2;omega
      have hb0:(0:Int)≤((numL (l.take k):Nat):Int)∧((numL (l.take k):Nat):Int) < 2147483648:=⟨by omega,by omega⟩;have hki:(k:Int) < (l.length:Int):=by omega
      generalize l[k]=b at *;generalize numL (l.take k)=m at *;obtain ⟨m',hm'⟩:∃ m',numL (l.take (k + 1))=m':=⟨_,rfl⟩;have hm:numL (l.take (k + 1))=m':=hm';rw [hm'] at hnx;replace hm:Hid (numL (l.take (k + 1))=m'):=hm;clear hm';have w1:IntKind.u32.wrap (2 * (m:Int))=2 * (m:Int):=by
       simp only [IntKind.wrap_u32]; omega
      have w2:IntKind.u32.wrap (2 * (m:Int) + 1)=2 * (m:Int) + 1:=by
       simp only [IntKind.wrap_u32]; omega
      cases b
      · go_wp2;exact ⟨⟨k + 1,by omega,by simp,by rw [hm.out,hnx.out]; simp⟩,by simp [intOf]; omega⟩
      · go_wp2;exact ⟨⟨k + 1,by omega,by simp,by rw [hm.out,hnx.out]; simp⟩,by simp [intOf]; omega⟩
    · obtain rfl:k=l.length:=by omega
      go_wp2;go_ret;exact ⟨rfl,rfl⟩
theorem bits_cons (v k:Nat):bitsL v (k + 1)=decide (v / 2 ^ k % 2=1) :: bitsL v k:=by
 refine numL_inj (by simp [bitsL_len]) ?_;rw [numL_bits,numL_cons,bitsL_len,numL_bits];have h:(decide (v / 2 ^ k % 2=1)).toNat=v / 2 ^ k % 2:=by
  rcases Nat.mod_two_eq_zero_or_one (v / 2 ^ k) with h | h <;> simp [h]
 rw [h,Nat.pow_succ,Nat.mod_mul]
 grind
theorem row_one (w:World) (base:Nat) (b:Bool) (h:base≤w.heap.size):(w.alloc (.cells #[.bool b] 4)).ownsRow base 4 1 (.slice (some ⟨w.heap.size,0,none⟩) 1 1) 1 [.bool b]:=
 ⟨rfl,.inr ⟨w.heap.size,1,#[.bool b],rfl,h,World.alloc_heap_new w _,by omega,by unfold maxLen; omega,rfl,rfl⟩⟩
theorem bits_any (v n:Nat) (w:World) (hv:v < 4294967296) (hn:n≤40) :
 Calls Tryz.prog 90 #[.int .u32 (v:Int),.int .i64 (n:Int)] w fun e w'=>∃ x,e=.returned x∧Row w' w.heap.size x (bitsL v n)∧Below w.heap.size w w':=by
 obtain ⟨i0,hi,hz0,hz1,hz2⟩:=info_parts info_bool;have hni:(n:Int)≤40:=by omega
 go_enter Tryz.func90,Tryz.ntmps90
 go_wp2
 go_loopw [0,5,6] (fun a o i wr=>∃ k m:Nat,k≤n∧i=.int .i64 (k:Int)∧a=.int .u32 (m:Int)∧Hid (m=v / 2 ^ k)∧Hid (Row wr w.heap.size o (bitsL v k))∧Hid (Below w.heap.size w wr)) (fun _ _ i _=>n - (intOf i).toNat)
 case atStart=>exact ⟨0,v,by omega,rfl,rfl,by show _=_; simp,World.ownsRow_nil _ _ _ _,Below.refl _ _⟩
 case round=>
  obtain ⟨k,m,hk,rfl,rfl,hm,hrow,hB⟩:=hrel;have hmb:(0:Int)≤(m:Int)∧(m:Int) < 4294967296:=by
   have:v / 2 ^ k≤v:=Nat.div_le_self _ _;have:=hm.out;exact ⟨by omega,by omega⟩
  by_cases hlt:k < n
  · have hki:(k:Int) < (n:Int):=by omega
    have hbit:Hid (bitsL v (k + 1)=decide (m % 2=1) :: bitsL v k):=by
     show _=_;rw [hm.out]; exact bits_cons v k
    have hdiv:Hid (m / 2=v / 2 ^ (k + 1)):=by
     show _=_;rw [hm.out,Nat.div_div_eq_div_mul,Nat.pow_succ]
    have hbb:((m:Int) % 2 == 1)=decide (m % 2=1):=by
     rw [Bool.eq_iff_iff]; simp; omega
    rcases hrow.out.form with ⟨rfl,hz⟩ | ⟨g,cap,rfl,hc,hg,hgl⟩
    · have hr1:Hid (Row (wr.alloc (.cells #[.bool (decide (m % 2=1))] 4)) w.heap.size (.slice (some ⟨wr.heap.size,0,none⟩) 1 1) (bitsL v (k + 1))):=by
       unfold Hid Row;rw [hbit.out,hz]; exact row_one wr _ _ hB.out.size
      have hB1:Hid (Below w.heap.size w (wr.alloc (.cells #[.bool (decide (m % 2=1))] 4))):=hB.out.alloc hB.out.size _;clear hbit hm;go_wp2;exact ⟨⟨k + 1,m / 2,by omega,by simp,by simp,hdiv,hr1,hB1⟩,by simp [intOf]; omega⟩
    · have hkl:(bitsL v k).length=k:=bitsL_len k v;have hone:∀ u ∈ (bitsL v k).map Value.bool,u.oneCell'=true:=fun u hu=>by
       obtain ⟨b,_,rfl⟩:=List.mem_map.1 hu; rfl
      have h63:1 + (bitsL v k).length≤maxLen:=by unfold maxLen; omega
      have hby:(1 + (bitsL v k).length) * 1≤140737488355328:=by omega
      have hsz:=hB.out.size
      go_wp2_with (at_builtin; refine wpList_append_own _ rfl _ _ 154 rfl w.heap.size 4 i0 (.bool false) 1 1 Tryz.underlying154 hi hz0 hz1 hz2 rfl (by decide) _ _ _ rfl (row_one wr w.heap.size (decide (m % 2=1)) hsz) ⟨g,0,none⟩ (bitsL v k).length cap ((bitsL v k).map Value.bool) rfl (by simp) ((World.ownsRow.alloc hrow.out _).cells rfl) hone h63 hby (by simp; omega) ?_; intro v' w1 hown' hgrow _)
      have hr1:Row w1 w.heap.size v' (bitsL v (k + 1)):=by
       unfold Row;rw [hbit.out,List.length_cons,Nat.add_comm];exact hown'
      have hB1:Below w.heap.size w w1:=by
       refine (hB.out.alloc hsz _).grown hgrow (by simp; omega) (fun j ej=>?_);exact (World.ownsRow.lt (row_one wr w.heap.size (decide (m % 2=1)) hsz) j ej).1
      exact ⟨⟨k + 1,m / 2,by omega,by simp,by simp,hdiv,hr1,hB1⟩,by simp [intOf]; omega⟩
  · obtain rfl:k=n:=by omega
    go_wp2;go_ret;exact ⟨_,rfl,hrow.out,hB.out⟩
theorem drop_rev (l:List Bool) {j:Nat} (h:j < l.length):(l.drop j).reverse=(l.drop (j + 1)).reverse ++ [l[j]]:=by
 rw [List.drop_eq_getElem_cons h,List.reverse_cons]
theorem turned_any (l:List Bool) (x:Value) (base:Nat) (w:World) (h:Row w base x l) (hl:l.length≤40) :
 Calls Tryz.prog 91 #[x] w fun e w'=>∃ y,e=.returned y∧Row w' w.heap.size y l.reverse∧Below w.heap.size w w':=by
 obtain ⟨i0,hi,hz0,hz1,hz2⟩:=info_parts info_bool;rcases h.form with ⟨rfl,rfl⟩ | ⟨g,cap,rfl,hc,_,hgl⟩
 · go_enter Tryz.func91,Tryz.ntmps91
   go_wp2
   go_loop [3,4] (fun o i=>o=.slice none 0 0∧i=.int .i64 (-1)) (fun _ _=>0)
   case atStart=>exact ⟨rfl,rfl⟩
   case round=>
    obtain ⟨rfl,rfl⟩:=hrel;go_wp2;go_ret;exact ⟨_,rfl,World.ownsRow_nil _ _ _ _,Below.refl _ _⟩
 · have HC:Hid (∀ j (hj:j < l.length),w.cell? ⟨g,j,none⟩=some (.bool l[j])):=fun j hj=>h.cell j hj
   have hl1:(l.length:Int)≤40:=by omega
   clear h
   go_enter Tryz.func91,Tryz.ntmps91
   go_wp2
   go_loopw [3,4] (fun o i wr=>∃ j:Nat,j≤l.length∧i=.int .i64 ((j:Int) - 1)∧Hid (Row wr w.heap.size o (l.drop j).reverse)∧Hid (Below w.heap.size w wr)) (fun _ i _=>(intOf i + 1).toNat)
   case atStart=>exact ⟨l.length,by omega,by simp,by unfold Hid; rw [List.drop_length]; exact World.ownsRow_nil _ _ _ _,Below.refl _ _⟩
   case round=>
    obtain ⟨j,hj,rfl,hrow,hB⟩:=hrel
    cases j with
    | zero=>
     go_wp2;go_ret;exact ⟨_,rfl,hrow.out,hB.out⟩
    | succ j=>
     have ej:((j + 1:Nat):Int) - 1=(j:Int):=by omega
     have hji:(j:Int) < (l.length:Int):=by omega
     have hcell:wr.cell? ⟨g,j,none⟩=some (.bool l[j]):=(hB.out.cell (p:=⟨g,j,none⟩) hgl).trans (HC.out j (by omega));have hrev:Hid ((l.drop j).reverse=(l.drop (j + 1)).reverse ++ [l[j]]):=drop_rev l (by omega);have hlen:(l.drop (j + 1)).reverse.length≤40:=by simp; omega
     have h63:(l.drop (j + 1)).reverse.length + 1≤maxLen:=by unfold maxLen; omega
     have hby:((l.drop (j + 1)).reverse.length + 1) * 1≤140737488355328:=by omega
     have hsz:=hB.out.size;generalize l[j]=b at *;rw [ej]
     go_wp2_with (at_builtin; refine wpList_append_own _ rfl _ _ 154 rfl w.heap.size 4 i0 (.bool false) 1 1 Tryz.underlying154 hi hz0 hz1 hz2 rfl (by decide) _ _ _ rfl (World.ownsRow.alloc hrow.out _) ⟨wr.heap.size,0,none⟩ 1 1 [.bool b] rfl rfl (cell_one_new _ _ _) (by simp [Value.oneCell']) h63 hby (by simp; omega) ?_; intro v' w1 hown' hgrow _)
     have hr1:Row w1 w.heap.size v' (l.drop j).reverse:=by
      unfold Row;rw [hrev.out,List.length_append,List.map_append];exact hown'
     have hB1:Below w.heap.size w w1:=by
      refine (hB.out.alloc hsz _).grown hgrow (by simp; omega) (fun q eq=>?_);exact (World.ownsRow.lt hrow.out q eq).1
     exact ⟨⟨j,by omega,by simp,hr1,hB1⟩,by simp [intOf]⟩
abbrev kv (W:Int) (p f:Nat) (t:Bool) (z:Nat):Value:=.agg #[.int .i64 W,.int .u32 (p:Int),.int .u32 (f:Int),.bool t,.int .u32 (z:Int)]
def kindB (W:Int) (p f z:Nat):Bool:=decide (W=8 ∨ W=16 ∨ W=32) && (decide (p < 2 ^ W.toNat) && (decide (f < 2 ^ W.toNat) && decide (z < 2 ^ W.toNat)))
def RowW (x:World) (g cap W:Nat) (l:List Bool):Prop:=
 l.length=W∧W≤cap∧cap≤maxLen∧∃ cur:Array Value,x.heap[g]?=some (.cells cur 4 (0,0))∧cur.size=cap∧cur.toList.take W=l.map Value.bool
theorem RowW.lt {x:World} {g cap W:Nat} {l:List Bool} (h:RowW x g cap W l):g < x.heap.size:=by
 obtain ⟨_,_,_,cur,h4,_⟩:=h;exact (Array.getElem?_eq_some_iff.1 h4).1
theorem RowW.row {x:World} {g cap W base:Nat} {l:List Bool} (h:RowW x g cap W l) (hb:base≤g):Row x base (.slice (some ⟨g,0,none⟩) W cap) l:=by
 obtain ⟨h1,h2,h3,cur,h4,h5,h6⟩:=h;subst h1;exact ⟨by simp,.inr ⟨g,cap,cur,rfl,hb,h4,h2,h3,by omega,by simpa using h6⟩⟩
theorem RowW.of {x:World} {base:Nat} {v:Value} {l:List Bool} (h:Row x base v l) (hl:0 < l.length):∃ g cap,v=.slice (some ⟨g,0,none⟩) l.length cap∧base≤g∧RowW x g cap l.length l:=by
 rcases h.2 with ⟨_,k⟩ | ⟨g,cap,cur,h1,h2,h3,h4,h5,h6,h7⟩
 · omega
 · exact ⟨g,cap,h1,h2,rfl,h4,h5,cur,h3,by omega,by simpa using h7⟩
theorem RowW.cell {x:World} {g cap W:Nat} {l:List Bool} (h:RowW x g cap W l) (j:Nat) (hj:j < l.length):x.cell? ⟨g,j,none⟩=some (.bool l[j])∧x.frozen? ⟨g,j,none⟩=false:=by
 obtain ⟨h1,h2,h3,cur,h4,h5,h6⟩:=h;refine ⟨?_,?_⟩
 · have:cur[j]?=some (.bool l[j]):=by
    rw [← Array.getElem?_toList];have e:(cur.toList.take W)[j]?=some (.bool l[j]):=by rw [h6,List.getElem?_map,List.getElem?_eq_getElem hj]; rfl
    rwa [List.getElem?_take_of_lt (by omega)] at e
   simp [World.cell?,h4,this]
 · simp [World.frozen?,h4]
theorem RowW.block {x y:World} {g cap W:Nat} {l:List Bool} (h:RowW x g cap W l) (e:y.heap[g]?=x.heap[g]?):RowW y g cap W l:=by
 obtain ⟨h1,h2,h3,cur,h4,h5⟩:=h;exact ⟨h1,h2,h3,cur,e.trans h4,h5⟩
theorem RowW.below {x y:World} {g cap W:Nat} {l:List Bool} (h:RowW x g cap W l) (hb:Below x.heap.size x y):RowW y g cap W l:=h.block (hb.block g h.lt)
theorem RowW.set {x:World} {g cap W:Nat} {l:List Bool} (h:RowW x g cap W l) (j:Nat) (b:Bool):RowW (x.setCell ⟨g,j,none⟩ (.bool b)) g cap W (l.set j b):=by
 obtain ⟨h1,h2,h3,cur,h4,h5,h6⟩:=h;refine ⟨by rw [List.length_set]; exact h1,h2,h3,cur.setIfInBounds j (.bool b),?_,by simp [h5],?_⟩
 · rw [setCell_eq_setRow x g j cur _ (0,0) _ h4]; exact setRow_heap x g cur _ _ (0,0) h4
 · rw [Array.toList_setIfInBounds,List.take_set,h6,List.map_set]
structure SumSt (w x:World) (kc:Array Value) (g cap gp capp W:Nat) (rl pl:List Bool):Prop where
 r:RowW x g cap W rl
 p:RowW x gp capp W pl
 ne:g ≠ gp
 gl:w.heap.size < g
 gpl:w.heap.size < gp
 k:x.heap[w.heap.size]?=some (.cells kc 110 (0,0))
 b:Below w.heap.size w x
theorem SumSt.below {w x y:World} {kc:Array Value} {g cap gp capp W:Nat} {rl pl:List Bool} (h:SumSt w x kc g cap gp capp W rl pl) (hb:Below x.heap.size x y):SumSt w y kc g cap gp capp W rl pl:=
 ⟨h.r.below hb,h.p.below hb,h.ne,h.gl,h.gpl,(hb.block _ (Array.getElem?_eq_some_iff.1 h.k).1).trans h.k,belowT h.b hb⟩
theorem SumSt.set {w x:World} {kc:Array Value} {g cap gp capp W:Nat} {rl pl:List Bool} (h:SumSt w x kc g cap gp capp W rl pl) (j:Nat) (b:Bool) :
 SumSt w (x.setCell ⟨g,j,none⟩ (.bool b)) kc g cap gp capp W (rl.set j b) pl:=
 ⟨h.r.set j b,h.p.block (blk_far _ _ _ _ h.ne.symm),h.ne,h.gl,h.gpl,(blk_far _ _ _ _ (by have:=h.gl; simp; omega)).trans h.k,h.b.setCell (p:=⟨g,j,none⟩) (Nat.le_of_lt h.gl) _⟩
def partL (j:Nat) (r c:List Bool):List Bool:=xl (r.take j) (c.take j) ++ r.drop j
theorem partL_zero (r c:List Bool):partL 0 r c=r:=by simp [partL,xl]
theorem partL_len {j:Nat} {r c:List Bool} (h:j≤c.length) (k:j≤r.length):(partL j r c).length=r.length:=by
 unfold partL;rw [List.length_append,xl_len (by simp; omega),List.length_take,List.length_drop]; omega
theorem partL_get {j:Nat} {r c:List Bool} (h:j≤c.length) (k:j < r.length) (l:j < (partL j r c).length):(partL j r c)[j]=r[j]:=by
 have e:(xl (r.take j) (c.take j)).length=j:=by rw [xl_len (by simp; omega),List.length_take]; omega
 have g:(partL j r c)[j]?=some r[j]:=by
  unfold partL;rw [List.getElem?_append_right (by omega),e,Nat.sub_self,List.getElem?_drop,Nat.add_zero,List.getElem?_eq_getElem k]
 rw [List.getElem?_eq_getElem l] at g;exact Option.some.inj g
theorem partL_next {j:Nat} {r c:List Bool} (h:j < c.length) (k:j < r.length):(partL j r c).set j (r[j] ^^ c[j])=partL (j + 1) r c:=by
 have e:(xl (r.take j) (c.take j)).length=j:=by rw [xl_len (by simp; omega),List.length_take]; omega
 unfold partL;rw [List.set_append_right _ _ (by omega),e,Nat.sub_self,List.drop_eq_getElem_cons k,List.set_cons_zero];rw [← List.take_append_getElem k,← List.take_append_getElem h,xl_app (by simp; omega),List.append_assoc];rfl
theorem partL_mix {r c:List Bool} (h:c.length=8):partL 8 r c=mixL r c:=by
 unfold partL mixL; rw [show c.take 8=c from List.take_of_length_le (by omega)]
theorem partL_all {r c:List Bool} (h:c.length=r.length):partL r.length r c=xl r c:=by
 unfold partL; rw [List.take_length,← h,List.take_length,h,List.drop_length,List.append_nil]
def BitsC (v n:Nat):Prop:=∀ w,Calls Tryz.prog 90 #[.int .u32 (v:Int),.int .i64 (n:Int)] w fun e w'=>∃ x,e=.returned x∧Row w' w.heap.size x (bitsL v n)∧Below w.heap.size w w'
theorem bitsC {v n:Nat} (hv:v < 4294967296) (hn:n≤40):BitsC v n:=fun w=>bits_any v n w hv hn
def LeftB (pl rl:List Bool) (t:Bool) (bs:List Nat) (k:Nat) (T:List Bool):Prop:=foldB pl rl ((bs.drop k).map (bcL t))=T
def LeftS (pl cur:List Bool) (j:Nat) (T:List Bool):Prop:=itL pl (8 - j) cur=T
theorem LeftB.next {pl rl:List Bool} {t:Bool} {bs:List Nat} {k:Nat} {T:List Bool} (h:LeftB pl rl t bs k T) (hk:k < bs.length):LeftB pl (byL pl rl (bcL t bs[k])) t bs (k + 1) T:=by
 unfold LeftB at *;rw [List.drop_eq_getElem_cons hk] at h;exact h
theorem LeftB.done {pl rl:List Bool} {t:Bool} {bs:List Nat} {T:List Bool} (h:LeftB pl rl t bs bs.length T):rl=T:=by
 unfold LeftB at h; rw [List.drop_length] at h; exact h
theorem LeftS.next {pl cur:List Bool} {j:Nat} {T:List Bool} (h:LeftS pl cur j T) (hj:j < 8):LeftS pl (stL pl cur) (j + 1) T:=by
 unfold LeftS at *;rw [show 8 - j=(8 - (j + 1)) + 1 by omega] at h;exact h
theorem LeftS.done {pl cur T:List Bool} (h:LeftS pl cur 8 T):cur=T:=h
theorem SumSt.drew {w x:World} {kc:Array Value} {g cap gp capp W:Nat} {rl pl:List Bool} (h:SumSt w x kc g cap gp capp W rl pl):SumSt w x.drew kc g cap gp capp W rl pl:=h.below (Below.refl _ _).drew
theorem RowW.drew {x:World} {g cap W:Nat} {l:List Bool} (h:RowW x g cap W l):RowW x.drew g cap W l:=h.below (Below.refl _ _).drew
abbrev kcs (W p f:Nat) (t:Bool) (z:Nat):Array Value:=#[.int .i64 (W:Int),.int .u32 (p:Int),.int .u32 (f:Int),.bool t,.int .u32 (z:Int)]
theorem SumSt.kind {w x:World} {W' p f:Nat} {t:Bool} {z g cap gp capp W:Nat} {rl pl:List Bool} (h:SumSt w x (kcs W' p f t z) g cap gp capp W rl pl):x.cell? ⟨w.heap.size,3,none⟩=some (.bool t)∧x.cell? ⟨w.heap.size,4,none⟩=some (.int .u32 (z:Int)):=by
 simp [World.cell?,h.k]
theorem sum_start {w w1 w2:World} {kc:Array Value} {x y:Value} {fl pl:List Bool} {W:Nat} (hW:0 < W) (lf:fl.length=W) (lp:pl.length=W) (hx:Row w1 (w.alloc (.cells kc 110)).heap.size x fl) (hb1:Below (w.alloc (.cells kc 110)).heap.size (w.alloc (.cells kc 110)) w1)
 (hy:Row w2 w1.heap.size y pl) (hb2:Below w1.heap.size w1 w2):∃ g cap gp capp,x=.slice (some ⟨g,0,none⟩) W cap∧y=.slice (some ⟨gp,0,none⟩) W capp∧SumSt w w2 kc g cap gp capp W fl pl:=by
 obtain ⟨g,cap,ex,gb,rx⟩:=RowW.of hx (by omega);obtain ⟨gp,capp,ey,gpb,ry⟩:=RowW.of hy (by omega);rw [lf] at ex rx;rw [lp] at ey ry;have l1:=rx.lt;simp only [World.size_alloc] at gb;have k0:(w.alloc (.cells kc 110)).heap[w.heap.size]?=some (.cells kc 110 (0,0)):=World.alloc_heap_new w _;have k1:=(hb1.block w.heap.size (by simp)).trans k0;have k2:=(hb2.block w.heap.size (Array.getElem?_eq_some_iff.1 k1).1).trans k1;refine ⟨g,cap,gp,capp,ex,ey,rx.below hb2,ry,by omega,by omega,by omega,k2,?_⟩;exact belowT (belowT ((Below.refl _ _).alloc (Nat.le_refl _) _) hb1) hb2
theorem below_drN {B:Nat} {a w:World} (h:Below B a w) (n:Nat):Below B a (w.drewN n):=⟨h.os,h.tape,h.output,h.size,h.block⟩
theorem num32 {l:List Bool} (h:l.length≤32):numL l < 4294967296:=by
 have h1:=numL_lt l;have h2:2 ^ l.length≤2 ^ 32:=Nat.pow_le_pow_right (by omega) h;omega
theorem ret_x {M z S:Nat} (hM:M < 4294967296) (hz:z < 4294967296) (h:M ^^^ z=S):Ending.returned (.int .u32 (bits .xor .u32 (M:Int) (z:Int)))=.returned (.int .u32 (S:Int)):=by rw [u32_xor_nat M z hM hz,h]
theorem row_zero (w:World) (base:Nat) (h:base≤w.heap.size):(w.alloc (.cells #[] 4)).ownsRow base 4 1 (.slice (some ⟨w.heap.size,0,none⟩) 0 0) 0 []:=
 ⟨rfl,.inr ⟨w.heap.size,0,#[],rfl,h,World.alloc_heap_new w _,by omega,by omega,rfl,rfl⟩⟩
theorem tail_cells {w x:World} {kc:Array Value} {g cap gp capp W:Nat} {h:Bool} {tl pl:List Bool} (st:SumSt w x kc g cap gp capp W (h :: tl) pl) (o:Obj):∀ j u,(tl.map Value.bool)[j]?=some u→(x.alloc o).cell? ((⟨g,1,none⟩:Addr).add j)=some u:=by
 intro j u hu;rw [List.getElem?_map] at hu;have hj:j < tl.length:=by
  rcases Nat.lt_or_ge j tl.length with h | h
  · exact h
  · rw [List.getElem?_eq_none h] at hu; cases hu
 rw [List.getElem?_eq_getElem hj] at hu;have e:Value.bool tl[j]=u:=by simpa using hu
 have c:=(st.r.cell (j + 1) (by simp; omega)).1;have c2:=(((Below.refl x.heap.size x).alloc (Nat.le_refl _) o).cell (p:=⟨g,j + 1,none⟩) st.r.lt).trans c;rw [← e];have a:(⟨g,1,none⟩:Addr).add j=⟨g,j + 1,none⟩:=by simp [Addr.add,Nat.add_comm]
 rw [a,c2];rfl
theorem bools_one (l:List Bool):∀ u ∈ l.map Value.bool,u.oneCell'=true:=fun u hu=>by
 obtain ⟨b,_,rfl⟩:=List.mem_map.1 hu; rfl
theorem step_row {w wr wA wB:World} {kc:Array Value} {g cap gp capp W:Nat} {h:Bool} {tl pl:List Bool} {v1 v2:Value} (hW:8≤(W:Int)) (st:SumSt w wr kc g cap gp capp W (h :: tl) pl)
 (hA:wA.ownsRow wr.heap.size 4 1 v1 (0 + (W - 1)) ([] ++ tl.map Value.bool)) (gA:(wr.alloc (.cells #[] 4)).grownBy wA (Value.slice (some ⟨wr.heap.size,0,none⟩) 0 0).ownBlock)
 (hB:wB.ownsRow wr.heap.size 4 1 v2 (0 + (W - 1) + 1) ([] ++ tl.map Value.bool ++ [.bool false])) (gB:(wA.alloc (.cells #[.bool false] 4)).grownBy wB v1.ownBlock) :
 ∃ g2 cap2,v2=.slice (some ⟨g2,0,none⟩) W cap2∧SumSt w wB kc g2 cap2 gp capp W (tl ++ [false]) pl:=by
 have bA:Below wr.heap.size wr wA:=((Below.refl _ wr).alloc (Nat.le_refl _) _).grown gA (by simp) (fun j e=>by simp [Value.ownBlock] at e; omega);have bB:Below wr.heap.size wr wB:=(bA.alloc bA.size _).grown gB (by have:=bA.size; simp; omega) (fun j e=>(World.ownsRow.lt hA j e).1);have ll:(tl ++ [false]).length=W:=by have:=st.r.1; simp at *; omega
 have hr:Row wB wr.heap.size v2 (tl ++ [false]):=by
  unfold Row;rw [ll];have e:0 + (W - 1) + 1=W:=by omega
  rw [e] at hB
  simpa using hB
 obtain ⟨g2,cap2,ev,gb,r2⟩:=RowW.of hr (by omega);rw [ll] at ev r2;have s:=st.below bB;have l1:=st.p.lt;have l2:=st.r.lt;have l3:=st.gl;exact ⟨g2,cap2,ev,r2,s.p,by omega,by omega,st.gpl,s.k,s.b⟩
theorem rsum_true (W p f:Nat) (z:Nat) (bs:List Nat) (gb ob capb:Nat) (w:World) (hW:8≤(W:Int)∧(W:Int)≤32) (hz:z < 4294967296) (cf:BitsC f W) (cp:BitsC p W) (hbs:AllBytes bs) (hlen:(bs.length:Int)≤9223372036854775807)
 (hb:BytesIn w gb ob bs) (hgb:gb < w.heap.size) (S:Nat) (hS:Hid (sumL W p f true z bs=S)) :
 Calls Tryz.prog 60 #[kv (W:Int) p f true z,.slice (some ⟨gb,ob,none⟩) bs.length capb] w fun e w'=>e=.returned (.int .u32 (S:Int))∧Below w.heap.size w w':=by
 obtain ⟨i0,hi,hz0,hz1,hz2⟩:=info_parts info_bool
 go_enter Tryz.func60,Tryz.ntmps60
 go_wp2_with fail
 refine (cf _).mono ?_;rintro e w1 ⟨x,rfl,hx,hb1⟩;have X:Hid (Row w1 (w.alloc (.cells (kcs W p f true z) 110)).heap.size x (bitsL f W)∧Below (w.alloc (.cells (kcs W p f true z) 110)).heap.size (w.alloc (.cells (kcs W p f true z) 110)) w1):=⟨hx,hb1⟩;have k0:w1.cell? ⟨w.heap.size,0,none⟩=some (.int .i64 (W:Int)):=(hb1.cell (p:=⟨w.heap.size,0,none⟩) (by simp)).trans (by simp);have k1:w1.cell? ⟨w.heap.size,1,none⟩=some (.int .u32 (p:Int)):=(hb1.cell (p:=⟨w.heap.size,1,none⟩) (by simp)).trans (by simp);clear hx hb1 cf
 go_wp2_with fail
 refine (cp _).mono ?_;rintro e w2 ⟨y,rfl,hy,hb2⟩;obtain ⟨g0,cap0,gp,capp,rfl,rfl,st0⟩:=sum_start (w:=w) (by omega) (bitsL_len W f) (bitsL_len W p) X.out.1 X.out.2 hy hb2;replace st0:Hid (SumSt w w2 (kcs W p f true z) g0 cap0 gp capp W (bitsL f W) (bitsL p W)):=st0;have lp:Hid ((bitsL p W).length=W):=bitsL_len W p;have lf:Hid ((bitsL f W).length=W):=bitsL_len W f;have L0:LeftB (bitsL p W) (bitsL f W) true bs 0 (foldB (bitsL p W) (bitsL f W) (bs.map (bcL true))):=rfl;have hS2:Hid (numL (revL true (foldB (bitsL p W) (bitsL f W) (bs.map (bcL true)))) ^^^ z=S):=hS;clear hy hb2 X k0 k1 cp hS;generalize foldB (bitsL p W) (bitsL f W) (bs.map (bcL true))=T at *;generalize bitsL p W=pl at *;generalize bitsL f W=fl at *;go_wp2
 go_loopw [5,7] (fun r i wr=>∃ k g cap:Nat,∃ rl:List Bool,k≤bs.length∧r=.slice (some ⟨g,0,none⟩) W cap∧i=.int .i64 (k:Int)∧Hid (SumSt w wr (kcs W p f true z) g cap gp capp W rl pl)∧LeftB pl rl true bs k T) (fun _ i _=>bs.length - (intOf i).toNat)
 case atStart=>exact ⟨0,g0,cap0,fl,by omega,rfl,rfl,st0,L0⟩
 case round=>
  obtain ⟨k,g,cap,rl,hk,rfl,rfl,st,LB⟩:=hrel;clear st0 L0 lf
  by_cases hlt:k < bs.length
  · have hki:(k:Int) < (bs.length:Int):=by omega
    have hbk:=hb.at hgb st.out.b k hlt;have hc256:(0:Int)≤(bs[k]:Int)∧(bs[k]:Int) < 256:=by
     have:=hbs bs[k] (List.getElem_mem hlt);exact ⟨by omega,by omega⟩
    have cb:BitsC bs[k] 8:=bitsC (by omega) (by omega);replace LB:=LB.next hlt;generalize bs[k]=c at *;have gwr:Hid (g < wr.heap.size∧w.heap.size < g):=⟨st.out.r.lt,st.out.gl⟩
    go_wp2_with fail
    refine (cb _).mono ?_;rintro e w3 ⟨y,rfl,hy,hb3⟩;obtain ⟨gc,capc,ey,gcb,rc⟩:=RowW.of hy (by rw [bitsL_len]; omega);rw [bitsL_len] at ey rc;subst ey;replace st:Hid (SumSt w w3 (kcs W p f true z) g cap gp capp W rl pl):=st.out.below hb3;have kt:=st.out.kind.1;have sz3:Hid (wr.heap.size≤w3.heap.size):=hb3.size;replace hy:Hid (Row w3 wr.heap.size (.slice (some ⟨gc,0,none⟩) 8 capc) (bitsL c 8)):=hy;clear hb3 rc gcb cb hbk
    go_wp2_with fail
    refine (turned_any (bitsL c 8) _ wr.heap.size w3 hy.out (by rw [bitsL_len]; omega)).mono ?_;rintro e w4 ⟨y2,rfl,hy2,hb4⟩;obtain ⟨gd,capd,ey,gdb,rc⟩:=RowW.of hy2 (by rw [List.length_reverse,bitsL_len]; omega);rw [List.length_reverse,bitsL_len] at ey rc;subst ey;replace st:Hid (SumSt w w4 (kcs W p f true z) g cap gp capp W rl pl):=st.out.below hb4;replace rc:Hid (RowW w4 gd capd 8 (bcL true c)):=rc;have gne:Hid (gd ≠ g∧w.heap.size < gd):=by
     have h1:=gwr.out;have h2:=sz3.out;exact ⟨by omega,by omega⟩
    clear hy hy2 hb4 gdb kt sz3 gwr;generalize w4=w9 at *;have lc:(bcL true c).length=8:=bcL_len _ _;have lr:rl.length=W:=st.out.r.1;clear hc256;generalize bcL true c=cl at *;go_wp2
    go_loopw [9] (fun i wq=>∃ j:Nat,j≤8∧i=.int .i64 (j:Int)∧Hid (SumSt w wq (kcs W p f true z) g cap gp capp W (partL j rl cl) pl)∧Hid (RowW wq gd capd 8 cl)) (fun i _=>8 - (intOf i).toNat)
    case atStart=>exact ⟨0,by omega,rfl,by unfold Hid; rw [partL_zero]; exact st.out,rc⟩
    case round=>
     obtain ⟨j,hj,rfl,st5,rc5⟩:=hrel;clear st rc
     by_cases hj8:(j:Int) < 8
     · have jr:j < rl.length:=by omega
       have jc:j < cl.length:=by omega
       have jp:j < (partL j rl cl).length:=by rw [partL_len (by omega) (by omega)]; omega
       obtain ⟨q0,q1⟩:=st5.out.r.cell j jp;rw [partL_get (by omega) jr] at q0;have q2:=(rc5.out.cell j jc).1;have nx:=partL_next jc jr;have hjW:(j:Int) < (W:Int):=by omega
       have S6:Hid (SumSt w (wr.setCell ⟨g,j,none⟩ (.bool (rl[j] ^^ cl[j]))) (kcs W p f true z) g cap gp capp W (partL (j + 1) rl cl) pl):=by
        unfold Hid; rw [← nx]; exact st5.out.set j _
       have R6:Hid (RowW (wr.setCell ⟨g,j,none⟩ (.bool (rl[j] ^^ cl[j]))) gd capd 8 cl):=rc5.out.block (blk_far _ _ _ _ gne.out.1);clear nx jp st5 rc5;generalize rl[j]=a1 at *;generalize cl[j]=a2 at *
       cases a1 <;> cases a2
       all_goals
        go_wp2_with fail
        go_region
        go_wp2
       all_goals exact ⟨⟨j + 1,by omega,by simp,S6.out.drew,R6.out.drew⟩,by simp [intOf]; omega⟩
     · obtain rfl:j=8:=by omega
       have st6:Hid (SumSt w wr (kcs W p f true z) g cap gp capp W (mixL rl cl) pl):=by unfold Hid; rw [← partL_mix lc]; exact st5.out
       have LS0:LeftS pl (mixL rl cl) 0 (byL pl rl cl):=rfl;clear st5 rc5 lr lc gne hj;generalize byL pl rl cl=T2 at *;generalize mixL rl cl=ml at *;go_wp2
       go_loopw [5,10] (fun r i wq=>∃ j g cap:Nat,∃ cur:List Bool,j≤8∧r=.slice (some ⟨g,0,none⟩) W cap∧i=.int .i64 (j:Int)∧Hid (SumSt w wq (kcs W p f true z) g cap gp capp W cur pl)∧LeftS pl cur j T2) (fun _ i _=>8 - (intOf i).toNat)
       case atStart=>exact ⟨0,g,cap,ml,by omega,rfl,rfl,st6,LS0⟩
       case round=>
        obtain ⟨j,g1,cap1,cur,hj,rfl,rfl,st7,LS⟩:=hrel;clear st6 LS0
        by_cases hj8:(j:Int) < 8
        · have lcur:cur.length=W:=st7.out.r.1;have hcap:(W:Int)≤(cap1:Int):=by have:=st7.out.r.2.1; omega
          obtain ⟨h,tl,rfl⟩:∃ h tl,cur=h :: tl:=by
           cases cur with
           | nil=>rw [List.length_nil] at lcur; omega
           | cons h tl=>exact ⟨h,tl,rfl⟩
          have q0:wr.cell? ⟨g1,0,none⟩=some (.bool h):=(st7.out.r.cell 0 (by simp)).1;have hsz:Hid (w.heap.size≤wr.heap.size):=st7.out.b.size;have ltl:Hid (tl.length=W - 1):=by show _=_; rw [List.length_cons] at lcur; omega
          replace LS:=LS.next (by omega);clear lcur;have hl1:(tl.map Value.bool).length=(W - 1) * 1:=by rw [List.length_map,ltl.out]; omega
          have h63:0 + (W - 1)≤maxLen:=by unfold maxLen; omega
          have hby:(0 + (W - 1)) * 1≤140737488355328:=by omega
          have h63b:0 + (W - 1) + 1≤maxLen:=by unfold maxLen; omega
          have hbyb:(0 + (W - 1) + 1) * 1≤140737488355328:=by omega
          cases h
          · have e0:stL pl (false :: tl)=tl ++ [false]:=rfl;rw [e0] at LS
            go_wp2_with (first
             | (at_builtin; refine wpList_append_own _ rfl _ _ 154 rfl wr.heap.size 4 i0 (.bool false) 1 1 Tryz.underlying154 hi hz0 hz1 hz2 rfl (by decide) _ _ _ rfl (row_zero wr wr.heap.size (Nat.le_refl _)) ⟨g1,1,none⟩ (W - 1) (cap1 - 1) (tl.map Value.bool) rfl hl1 (tail_cells st7.out _) (bools_one tl) h63 hby (by simp) ?_; intro v1 wA hA gA _)
             | (at_builtin; refine wpList_append_own _ rfl _ _ 154 rfl wr.heap.size 4 i0 (.bool false) 1 1 Tryz.underlying154 hi hz0 hz1 hz2 rfl (by decide) _ _ _ rfl (World.ownsRow.alloc hA _) ⟨wA.heap.size,0,none⟩ 1 1 [.bool false] rfl rfl (cell_one_new _ _ _) (by simp [Value.oneCell']) h63b hbyb (by have:=gA.size; simp at *; omega) ?_; intro v2 wB hBo gB _; obtain ⟨g2,cap2,rfl,stB⟩:=step_row hW.1 st7.out hA gA hBo gB; replace stB:Hid _:=stB))
            go_wp2
            go_loop [12] (fun i=>i=.int .i64 0) (fun _=>0)
            case atStart=>rfl
            case round=>
             subst hrel;go_wp2;exact ⟨⟨j + 1,g2,cap2,tl ++ [false],by omega,rfl,by simp,stB,LS⟩,by simp [intOf]; omega⟩
          · have ll:(tl ++ [false]).length=W:=by have:=ltl.out; simp; omega
            have e0:stL pl (true :: tl)=partL W (tl ++ [false]) pl:=by
             rw [← ll,partL_all (by rw [ll]; exact lp.out)]; rfl
            rw [e0] at LS
            go_wp2_with (first
             | (at_builtin; refine wpList_append_own _ rfl _ _ 154 rfl wr.heap.size 4 i0 (.bool false) 1 1 Tryz.underlying154 hi hz0 hz1 hz2 rfl (by decide) _ _ _ rfl (row_zero wr wr.heap.size (Nat.le_refl _)) ⟨g1,1,none⟩ (W - 1) (cap1 - 1) (tl.map Value.bool) rfl hl1 (tail_cells st7.out _) (bools_one tl) h63 hby (by simp) ?_; intro v1 wA hA gA _)
             | (at_builtin; refine wpList_append_own _ rfl _ _ 154 rfl wr.heap.size 4 i0 (.bool false) 1 1 Tryz.underlying154 hi hz0 hz1 hz2 rfl (by decide) _ _ _ rfl (World.ownsRow.alloc hA _) ⟨wA.heap.size,0,none⟩ 1 1 [.bool false] rfl rfl (cell_one_new _ _ _) (by simp [Value.oneCell']) h63b hbyb (by have:=gA.size; simp at *; omega) ?_; intro v2 wB hBo gB _; obtain ⟨g2,cap2,rfl,stB⟩:=step_row hW.1 st7.out hA gA hBo gB; replace stB:Hid _:=stB))
            clear st7 q0 hl1 h63 hby h63b hbyb hA gA hBo gB e0;go_wp2;generalize tl ++ [false]=tz at *
            go_loopw [12] (fun i wq=>∃ n:Nat,n≤W∧i=.int .i64 (n:Int)∧Hid (SumSt w wq (kcs W p f true z) g2 cap2 gp capp W (partL n tz pl) pl)) (fun i _=>W - (intOf i).toNat)
            case atStart=>exact ⟨0,by omega,rfl,by unfold Hid; rw [partL_zero]; exact stB.out⟩
            case round=>
             obtain ⟨n,hn,rfl,st8⟩:=hrel;clear stB
             by_cases hnW:(n:Int) < (W:Int)
             · have jr:n < tz.length:=by omega
               have jc:n < pl.length:=by rw [lp.out]; omega
               have jp:n < (partL n tz pl).length:=by rw [partL_len (by omega) (by omega)]; omega
               obtain ⟨q0,q1⟩:=st8.out.r.cell n jp;rw [partL_get (by omega) jr] at q0;have q2:=(st8.out.p.cell n jc).1;have nx:=partL_next jc jr;have S9:Hid (SumSt w (wr.setCell ⟨g2,n,none⟩ (.bool (tz[n] ^^ pl[n]))) (kcs W p f true z) g2 cap2 gp capp W (partL (n + 1) tz pl) pl):=by
                unfold Hid; rw [← nx]; exact st8.out.set n _
               clear nx jp st8;generalize tz[n]=a1 at *;generalize pl[n]=a2 at *
               cases a1 <;> cases a2
               all_goals
                go_wp2_with fail
                go_region
                go_wp2
               all_goals exact ⟨⟨n + 1,by omega,by simp,S9.out.drew⟩,by simp [intOf]; omega⟩
             · obtain rfl:n=W:=by omega
               go_wp2;exact ⟨⟨j + 1,g2,cap2,_,by omega,rfl,by simp,st8,LS⟩,by simp [intOf]; omega⟩
        · obtain rfl:j=8:=by omega
          have hT:=LS.done;subst hT;go_wp2;exact ⟨⟨k + 1,g1,cap1,_,by omega,rfl,by simp,st7,LB⟩,by simp [intOf]; omega⟩
  · obtain rfl:k=bs.length:=by omega
    have hT:=LB.done;subst hT;have kt:=st.out.kind.1;have kz:=st.out.kind.2;have lr:rl.length=W:=st.out.r.1;have R0:Hid (Row wr w.heap.size (.slice (some ⟨g,0,none⟩) W cap) rl):=st.out.r.row (Nat.le_of_lt st.out.gl)
    go_wp2_with fail
    refine (turned_any rl _ w.heap.size wr R0.out (by omega)).mono ?_;rintro e w4 ⟨y2,rfl,hy2,hb4⟩;have Y:Hid (Row w4 wr.heap.size y2 rl.reverse):=hy2;replace st:Hid (SumSt w w4 (kcs W p f true z) g cap gp capp W rl pl):=st.out.below hb4;clear kt kz hy2 hb4 R0;have kz:=st.out.kind.2;have B4:Hid (Below w.heap.size w w4):=st.out.b;have hfin:Hid (numL rl.reverse ^^^ z=S):=hS2;have fn:Hid (∀ n,Calls Tryz.prog 92 #[y2] (w4.drewN n) fun e w'=>e=.returned (.int .u32 ((numL rl.reverse:Nat):Int))∧w'=w4.drewN n):=fun n=>number_any rl.reverse y2 wr.heap.size (w4.drewN n) (Y.out.below (below_drN (Below.refl _ _) n)) (by rw [List.length_reverse]; omega)
    have nb:numL rl.reverse < 4294967296:=num32 (by rw [List.length_reverse]; omega);clear st hS2 lr lp Y;generalize numL rl.reverse=M at *
    go_wp2_with fail
    go_quiet (first | (go_at_call 92; refine Calls.quiet_of_same (fn.out _)))
    clear fn;go_wp2;go_ret;exact ⟨ret_x nb hz hfin.out,below_drN B4.out _⟩
theorem rsum_false (W p f:Nat) (z:Nat) (bs:List Nat) (gb ob capb:Nat) (w:World) (hW:8≤(W:Int)∧(W:Int)≤32) (hz:z < 4294967296) (cf:BitsC f W) (cp:BitsC p W) (hbs:AllBytes bs) (hlen:(bs.length:Int)≤9223372036854775807)
 (hb:BytesIn w gb ob bs) (hgb:gb < w.heap.size) (S:Nat) (hS:Hid (sumL W p f false z bs=S)) :
 Calls Tryz.prog 60 #[kv (W:Int) p f false z,.slice (some ⟨gb,ob,none⟩) bs.length capb] w fun e w'=>e=.returned (.int .u32 (S:Int))∧Below w.heap.size w w':=by
 obtain ⟨i0,hi,hz0,hz1,hz2⟩:=info_parts info_bool
 go_enter Tryz.func60,Tryz.ntmps60
 go_wp2_with fail
 refine (cf _).mono ?_;rintro e w1 ⟨x,rfl,hx,hb1⟩;have X:Hid (Row w1 (w.alloc (.cells (kcs W p f false z) 110)).heap.size x (bitsL f W)∧Below (w.alloc (.cells (kcs W p f false z) 110)).heap.size (w.alloc (.cells (kcs W p f false z) 110)) w1):=⟨hx,hb1⟩;have k0:w1.cell? ⟨w.heap.size,0,none⟩=some (.int .i64 (W:Int)):=(hb1.cell (p:=⟨w.heap.size,0,none⟩) (by simp)).trans (by simp);have k1:w1.cell? ⟨w.heap.size,1,none⟩=some (.int .u32 (p:Int)):=(hb1.cell (p:=⟨w.heap.size,1,none⟩) (by simp)).trans (by simp);clear hx hb1 cf
 go_wp2_with fail
 refine (cp _).mono ?_;rintro e w2 ⟨y,rfl,hy,hb2⟩;obtain ⟨g0,cap0,gp,capp,rfl,rfl,st0⟩:=sum_start (w:=w) (by omega) (bitsL_len W f) (bitsL_len W p) X.out.1 X.out.2 hy hb2;replace st0:Hid (SumSt w w2 (kcs W p f false z) g0 cap0 gp capp W (bitsL f W) (bitsL p W)):=st0;have lp:Hid ((bitsL p W).length=W):=bitsL_len W p;have lf:Hid ((bitsL f W).length=W):=bitsL_len W f;have L0:LeftB (bitsL p W) (bitsL f W) false bs 0 (foldB (bitsL p W) (bitsL f W) (bs.map (bcL false))):=rfl;have hS2:Hid (numL (revL false (foldB (bitsL p W) (bitsL f W) (bs.map (bcL false)))) ^^^ z=S):=hS;clear hy hb2 X k0 k1 cp hS;generalize foldB (bitsL p W) (bitsL f W) (bs.map (bcL false))=T at *;generalize bitsL p W=pl at *;generalize bitsL f W=fl at *;go_wp2
 go_loopw [5,7] (fun r i wr=>∃ k g cap:Nat,∃ rl:List Bool,k≤bs.length∧r=.slice (some ⟨g,0,none⟩) W cap∧i=.int .i64 (k:Int)∧Hid (SumSt w wr (kcs W p f false z) g cap gp capp W rl pl)∧LeftB pl rl false bs k T) (fun _ i _=>bs.length - (intOf i).toNat)
 case atStart=>exact ⟨0,g0,cap0,fl,by omega,rfl,rfl,st0,L0⟩
 case round=>
  obtain ⟨k,g,cap,rl,hk,rfl,rfl,st,LB⟩:=hrel;clear st0 L0 lf
  by_cases hlt:k < bs.length
  · have hki:(k:Int) < (bs.length:Int):=by omega
    have hbk:=hb.at hgb st.out.b k hlt;have hc256:(0:Int)≤(bs[k]:Int)∧(bs[k]:Int) < 256:=by
     have:=hbs bs[k] (List.getElem_mem hlt);exact ⟨by omega,by omega⟩
    have cb:BitsC bs[k] 8:=bitsC (by omega) (by omega);replace LB:=LB.next hlt;generalize bs[k]=c at *;have gwr:Hid (g < wr.heap.size∧w.heap.size < g):=⟨st.out.r.lt,st.out.gl⟩
    go_wp2_with fail
    refine (cb _).mono ?_;rintro e w3 ⟨y,rfl,hy,hb3⟩;obtain ⟨gc,capc,ey,gcb,rc⟩:=RowW.of hy (by rw [bitsL_len]; omega);rw [bitsL_len] at ey rc;subst ey;replace st:Hid (SumSt w w3 (kcs W p f false z) g cap gp capp W rl pl):=st.out.below hb3;have kt:=st.out.kind.1;have sz3:Hid (wr.heap.size≤w3.heap.size):=hb3.size;replace rc:Hid (RowW w3 gc capc 8 (bcL false c)):=rc;have gne:Hid (gc ≠ g∧w.heap.size < gc):=by
     have h1:=gwr.out;have h2:=sz3.out;exact ⟨by omega,by omega⟩
    clear hy hb3 gcb cb hbk sz3 gwr;generalize gc=gd at *;generalize capc=capd at *;generalize w3=w9 at *;have lc:(bcL false c).length=8:=bcL_len _ _;have lr:rl.length=W:=st.out.r.1;clear hc256;generalize bcL false c=cl at *;go_wp2
    go_loopw [9] (fun i wq=>∃ j:Nat,j≤8∧i=.int .i64 (j:Int)∧Hid (SumSt w wq (kcs W p f false z) g cap gp capp W (partL j rl cl) pl)∧Hid (RowW wq gd capd 8 cl)) (fun i _=>8 - (intOf i).toNat)
    case atStart=>exact ⟨0,by omega,rfl,by unfold Hid; rw [partL_zero]; exact st.out,rc⟩
    case round=>
     obtain ⟨j,hj,rfl,st5,rc5⟩:=hrel;clear st rc
     by_cases hj8:(j:Int) < 8
     · have jr:j < rl.length:=by omega
       have jc:j < cl.length:=by omega
       have jp:j < (partL j rl cl).length:=by rw [partL_len (by omega) (by omega)]; omega
       obtain ⟨q0,q1⟩:=st5.out.r.cell j jp;rw [partL_get (by omega) jr] at q0;have q2:=(rc5.out.cell j jc).1;have nx:=partL_next jc jr;have hjW:(j:Int) < (W:Int):=by omega
       have S6:Hid (SumSt w (wr.setCell ⟨g,j,none⟩ (.bool (rl[j] ^^ cl[j]))) (kcs W p f false z) g cap gp capp W (partL (j + 1) rl cl) pl):=by
        unfold Hid; rw [← nx]; exact st5.out.set j _
       have R6:Hid (RowW (wr.setCell ⟨g,j,none⟩ (.bool (rl[j] ^^ cl[j]))) gd capd 8 cl):=rc5.out.block (blk_far _ _ _ _ gne.out.1);clear nx jp st5 rc5;generalize rl[j]=a1 at *;generalize cl[j]=a2 at *
       cases a1 <;> cases a2
       all_goals
        go_wp2_with fail
        go_region
        go_wp2
       all_goals exact ⟨⟨j + 1,by omega,by simp,S6.out.drew,R6.out.drew⟩,by simp [intOf]; omega⟩
     · obtain rfl:j=8:=by omega
       have st6:Hid (SumSt w wr (kcs W p f false z) g cap gp capp W (mixL rl cl) pl):=by unfold Hid; rw [← partL_mix lc]; exact st5.out
       have LS0:LeftS pl (mixL rl cl) 0 (byL pl rl cl):=rfl;clear st5 rc5 lr lc gne hj;generalize byL pl rl cl=T2 at *;generalize mixL rl cl=ml at *;go_wp2
       go_loopw [5,10] (fun r i wq=>∃ j g cap:Nat,∃ cur:List Bool,j≤8∧r=.slice (some ⟨g,0,none⟩) W cap∧i=.int .i64 (j:Int)∧Hid (SumSt w wq (kcs W p f false z) g cap gp capp W cur pl)∧LeftS pl cur j T2) (fun _ i _=>8 - (intOf i).toNat)
       case atStart=>exact ⟨0,g,cap,ml,by omega,rfl,rfl,st6,LS0⟩
       case round=>
        obtain ⟨j,g1,cap1,cur,hj,rfl,rfl,st7,LS⟩:=hrel;clear st6 LS0
        by_cases hj8:(j:Int) < 8
        · have lcur:cur.length=W:=st7.out.r.1;have hcap:(W:Int)≤(cap1:Int):=by have:=st7.out.r.2.1; omega
          obtain ⟨h,tl,rfl⟩:∃ h tl,cur=h :: tl:=by
           cases cur with
           | nil=>rw [List.length_nil] at lcur; omega
           | cons h tl=>exact ⟨h,tl,rfl⟩
          have q0:wr.cell? ⟨g1,0,none⟩=some (.bool h):=(st7.out.r.cell 0 (by simp)).1;have hsz:Hid (w.heap.size≤wr.heap.size):=st7.out.b.size;have ltl:Hid (tl.length=W - 1):=by show _=_; rw [List.length_cons] at lcur; omega
          replace LS:=LS.next (by omega);clear lcur;have hl1:(tl.map Value.bool).length=(W - 1) * 1:=by rw [List.length_map,ltl.out]; omega
          have h63:0 + (W - 1)≤maxLen:=by unfold maxLen; omega
          have hby:(0 + (W - 1)) * 1≤140737488355328:=by omega
          have h63b:0 + (W - 1) + 1≤maxLen:=by unfold maxLen; omega
          have hbyb:(0 + (W - 1) + 1) * 1≤140737488355328:=by omega
          cases h
          · have e0:stL pl (false :: tl)=tl ++ [false]:=rfl;rw [e0] at LS
            go_wp2_with (first
             | (at_builtin; refine wpList_append_own _ rfl _ _ 154 rfl wr.heap.size 4 i0 (.bool false) 1 1 Tryz.underlying154 hi hz0 hz1 hz2 rfl (by decide) _ _ _ rfl (row_zero wr wr.heap.size (Nat.le_refl _)) ⟨g1,1,none⟩ (W - 1) (cap1 - 1) (tl.map Value.bool) rfl hl1 (tail_cells st7.out _) (bools_one tl) h63 hby (by simp) ?_; intro v1 wA hA gA _)
             | (at_builtin; refine wpList_append_own _ rfl _ _ 154 rfl wr.heap.size 4 i0 (.bool false) 1 1 Tryz.underlying154 hi hz0 hz1 hz2 rfl (by decide) _ _ _ rfl (World.ownsRow.alloc hA _) ⟨wA.heap.size,0,none⟩ 1 1 [.bool false] rfl rfl (cell_one_new _ _ _) (by simp [Value.oneCell']) h63b hbyb (by have:=gA.size; simp at *; omega) ?_; intro v2 wB hBo gB _; obtain ⟨g2,cap2,rfl,stB⟩:=step_row hW.1 st7.out hA gA hBo gB; replace stB:Hid _:=stB))
            go_wp2
            go_loop [12] (fun i=>i=.int .i64 0) (fun _=>0)
            case atStart=>rfl
            case round=>
             subst hrel;go_wp2;exact ⟨⟨j + 1,g2,cap2,tl ++ [false],by omega,rfl,by simp,stB,LS⟩,by simp [intOf]; omega⟩
          · have ll:(tl ++ [false]).length=W:=by have:=ltl.out; simp; omega
            have e0:stL pl (true :: tl)=partL W (tl ++ [false]) pl:=by
             rw [← ll,partL_all (by rw [ll]; exact lp.out)]; rfl
            rw [e0] at LS
            go_wp2_with (first
             | (at_builtin; refine wpList_append_own _ rfl _ _ 154 rfl wr.heap.size 4 i0 (.bool false) 1 1 Tryz.underlying154 hi hz0 hz1 hz2 rfl (by decide) _ _ _ rfl (row_zero wr wr.heap.size (Nat.le_refl _)) ⟨g1,1,none⟩ (W - 1) (cap1 - 1) (tl.map Value.bool) rfl hl1 (tail_cells st7.out _) (bools_one tl) h63 hby (by simp) ?_; intro v1 wA hA gA _)
             | (at_builtin; refine wpList_append_own _ rfl _ _ 154 rfl wr.heap.size 4 i0 (.bool false) 1 1 Tryz.underlying154 hi hz0 hz1 hz2 rfl (by decide) _ _ _ rfl (World.ownsRow.alloc hA _) ⟨wA.heap.size,0,none⟩ 1 1 [.bool false] rfl rfl (cell_one_new _ _ _) (by simp [Value.oneCell']) h63b hbyb (by have:=gA.size; simp at *; omega) ?_; intro v2 wB hBo gB _; obtain ⟨g2,cap2,rfl,stB⟩:=step_row hW.1 st7.out hA gA hBo gB; replace stB:Hid _:=stB))
            clear st7 q0 hl1 h63 hby h63b hbyb hA gA hBo gB e0;go_wp2;generalize tl ++ [false]=tz at *
            go_loopw [12] (fun i wq=>∃ n:Nat,n≤W∧i=.int .i64 (n:Int)∧Hid (SumSt w wq (kcs W p f false z) g2 cap2 gp capp W (partL n tz pl) pl)) (fun i _=>W - (intOf i).toNat)
            case atStart=>exact ⟨0,by omega,rfl,by unfold Hid; rw [partL_zero]; exact stB.out⟩
            case round=>
             obtain ⟨n,hn,rfl,st8⟩:=hrel;clear stB
             by_cases hnW:(n:Int) < (W:Int)
             · have jr:n < tz.length:=by omega
               have jc:n < pl.length:=by rw [lp.out]; omega
               have jp:n < (partL n tz pl).length:=by rw [partL_len (by omega) (by omega)]; omega
               obtain ⟨q0,q1⟩:=st8.out.r.cell n jp;rw [partL_get (by omega) jr] at q0;have q2:=(st8.out.p.cell n jc).1;have nx:=partL_next jc jr;have S9:Hid (SumSt w (wr.setCell ⟨g2,n,none⟩ (.bool (tz[n] ^^ pl[n]))) (kcs W p f false z) g2 cap2 gp capp W (partL (n + 1) tz pl) pl):=by
                unfold Hid; rw [← nx]; exact st8.out.set n _
               clear nx jp st8;generalize tz[n]=a1 at *;generalize pl[n]=a2 at *
               cases a1 <;> cases a2
               all_goals
                go_wp2_with fail
                go_region
                go_wp2
               all_goals exact ⟨⟨n + 1,by omega,by simp,S9.out.drew⟩,by simp [intOf]; omega⟩
             · obtain rfl:n=W:=by omega
               go_wp2;exact ⟨⟨j + 1,g2,cap2,_,by omega,rfl,by simp,st8,LS⟩,by simp [intOf]; omega⟩
        · obtain rfl:j=8:=by omega
          have hT:=LS.done;subst hT;go_wp2;exact ⟨⟨k + 1,g1,cap1,_,by omega,rfl,by simp,st7,LB⟩,by simp [intOf]; omega⟩
  · obtain rfl:k=bs.length:=by omega
    have hT:=LB.done;subst hT;have kt:=st.out.kind.1;have kz:=st.out.kind.2;have lr:rl.length=W:=st.out.r.1;have B4:Hid (Below w.heap.size w wr):=st.out.b;have hfin:Hid (numL rl ^^^ z=S):=hS2;have R0:Hid (Row wr w.heap.size (.slice (some ⟨g,0,none⟩) W cap) rl):=st.out.r.row (Nat.le_of_lt st.out.gl);have fn:Hid (∀ n,Calls Tryz.prog 92 #[.slice (some ⟨g,0,none⟩) W cap] (wr.drewN n) fun e w'=>e=.returned (.int .u32 ((numL rl:Nat):Int))∧w'=wr.drewN n):=fun n=>number_any rl _ w.heap.size (wr.drewN n) (R0.out.below (below_drN (Below.refl _ _) n)) (by omega)
    have nb:numL rl < 4294967296:=num32 (by omega);clear R0;clear st hS2 lr lp;generalize numL rl=M at *
    go_wp2_with fail
    go_quiet (first | (go_at_call 92; refine Calls.quiet_of_same (fn.out _)))
    clear fn;go_wp2;go_ret;exact ⟨ret_x nb hz hfin.out,below_drN B4.out _⟩
theorem rsum0_true (W p f:Nat) (z:Nat) (w:World) (hW:8≤(W:Int)∧(W:Int)≤32) (hz:z < 4294967296) (cf:BitsC f W) (cp:BitsC p W) (S:Nat) (hS:Hid (sumL W p f true z []=S)) :
 Calls Tryz.prog 60 #[kv (W:Int) p f true z,.slice none 0 0] w fun e w'=>e=.returned (.int .u32 (S:Int))∧Below w.heap.size w w':=by
 obtain ⟨i0,hi,hz0,hz1,hz2⟩:=info_parts info_bool
 go_enter Tryz.func60,Tryz.ntmps60
 go_wp2_with fail
 refine (cf _).mono ?_;rintro e w1 ⟨x,rfl,hx,hb1⟩;have X:Hid (Row w1 (w.alloc (.cells (kcs W p f true z) 110)).heap.size x (bitsL f W)∧Below (w.alloc (.cells (kcs W p f true z) 110)).heap.size (w.alloc (.cells (kcs W p f true z) 110)) w1):=⟨hx,hb1⟩;have k0:w1.cell? ⟨w.heap.size,0,none⟩=some (.int .i64 (W:Int)):=(hb1.cell (p:=⟨w.heap.size,0,none⟩) (by simp)).trans (by simp);have k1:w1.cell? ⟨w.heap.size,1,none⟩=some (.int .u32 (p:Int)):=(hb1.cell (p:=⟨w.heap.size,1,none⟩) (by simp)).trans (by simp);clear hx hb1 cf
 go_wp2_with fail
 refine (cp _).mono ?_;rintro e w2 ⟨y,rfl,hy,hb2⟩;obtain ⟨g0,cap0,gp,capp,rfl,rfl,st0⟩:=sum_start (w:=w) (by omega) (bitsL_len W f) (bitsL_len W p) X.out.1 X.out.2 hy hb2;replace st0:Hid (SumSt w w2 (kcs W p f true z) g0 cap0 gp capp W (bitsL f W) (bitsL p W)):=st0;have lp:Hid ((bitsL p W).length=W):=bitsL_len W p;have lf:Hid ((bitsL f W).length=W):=bitsL_len W f;have hS2:Hid (numL (revL true (bitsL f W)) ^^^ z=S):=hS;clear hy hb2 X k0 k1 cp hS;generalize bitsL p W=pl at *;generalize bitsL f W=fl at *;go_wp2
 go_loop [5,7] (fun r i=>r=.slice (some ⟨g0,0,none⟩) W cap0∧i=.int .i64 0) (fun _ _=>0)
 case atStart=>exact ⟨rfl,rfl⟩
 case round=>
  obtain ⟨rfl,rfl⟩:=hrel;clear lf;have st:=st0;clear st0;generalize w2=wr at *;generalize g0=g at *;generalize cap0=cap at *;generalize fl=rl at *;have kt:=st.out.kind.1;have kz:=st.out.kind.2;have lr:rl.length=W:=st.out.r.1;have R0:Hid (Row wr w.heap.size (.slice (some ⟨g,0,none⟩) W cap) rl):=st.out.r.row (Nat.le_of_lt st.out.gl)
  go_wp2_with fail
  refine (turned_any rl _ w.heap.size wr R0.out (by omega)).mono ?_;rintro e w4 ⟨y2,rfl,hy2,hb4⟩;have Y:Hid (Row w4 wr.heap.size y2 rl.reverse):=hy2;replace st:Hid (SumSt w w4 (kcs W p f true z) g cap gp capp W rl pl):=st.out.below hb4;clear kt kz hy2 hb4 R0;have kz:=st.out.kind.2;have B4:Hid (Below w.heap.size w w4):=st.out.b;have hfin:Hid (numL rl.reverse ^^^ z=S):=hS2;have fn:Hid (∀ n,Calls Tryz.prog 92 #[y2] (w4.drewN n) fun e w'=>e=.returned (.int .u32 ((numL rl.reverse:Nat):Int))∧w'=w4.drewN n):=fun n=>number_any rl.reverse y2 wr.heap.size (w4.drewN n) (Y.out.below (below_drN (Below.refl _ _) n)) (by rw [List.length_reverse]; omega)
  have nb:numL rl.reverse < 4294967296:=num32 (by rw [List.length_reverse]; omega);clear st hS2 lr lp Y;generalize numL rl.reverse=M at *
  go_wp2_with fail
  go_quiet (first | (go_at_call 92; refine Calls.quiet_of_same (fn.out _)))
  clear fn;go_wp2;go_ret;exact ⟨ret_x nb hz hfin.out,below_drN B4.out _⟩
theorem rsum0_false (W p f:Nat) (z:Nat) (w:World) (hW:8≤(W:Int)∧(W:Int)≤32) (hz:z < 4294967296) (cf:BitsC f W) (cp:BitsC p W) (S:Nat) (hS:Hid (sumL W p f false z []=S)) :
 Calls Tryz.prog 60 #[kv (W:Int) p f false z,.slice none 0 0] w fun e w'=>e=.returned (.int .u32 (S:Int))∧Below w.heap.size w w':=by
 obtain ⟨i0,hi,hz0,hz1,hz2⟩:=info_parts info_bool
 go_enter Tryz.func60,Tryz.ntmps60
 go_wp2_with fail
 refine (cf _).mono ?_;rintro e w1 ⟨x,rfl,hx,hb1⟩;have X:Hid (Row w1 (w.alloc (.cells (kcs W p f false z) 110)).heap.size x (bitsL f W)∧Below (w.alloc (.cells (kcs W p f false z) 110)).heap.size (w.alloc (.cells (kcs W p f false z) 110)) w1):=⟨hx,hb1⟩;have k0:w1.cell? ⟨w.heap.size,0,none⟩=some (.int .i64 (W:Int)):=(hb1.cell (p:=⟨w.heap.size,0,none⟩) (by simp)).trans (by simp);have k1:w1.cell? ⟨w.heap.size,1,none⟩=some (.int .u32 (p:Int)):=(hb1.cell (p:=⟨w.heap.size,1,none⟩) (by simp)).trans (by simp);clear hx hb1 cf
 go_wp2_with fail
 refine (cp _).mono ?_;rintro e w2 ⟨y,rfl,hy,hb2⟩;obtain ⟨g0,cap0,gp,capp,rfl,rfl,st0⟩:=sum_start (w:=w) (by omega) (bitsL_len W f) (bitsL_len W p) X.out.1 X.out.2 hy hb2;replace st0:Hid (SumSt w w2 (kcs W p f false z) g0 cap0 gp capp W (bitsL f W) (bitsL p W)):=st0;have lp:Hid ((bitsL p W).length=W):=bitsL_len W p;have lf:Hid ((bitsL f W).length=W):=bitsL_len W f;have hS2:Hid (numL (revL false (bitsL f W)) ^^^ z=S):=hS;clear hy hb2 X k0 k1 cp hS;generalize bitsL p W=pl at *;generalize bitsL f W=fl at *;go_wp2
 go_loop [5,7] (fun r i=>r=.slice (some ⟨g0,0,none⟩) W cap0∧i=.int .i64 0) (fun _ _=>0)
 case atStart=>exact ⟨rfl,rfl⟩
 case round=>
  obtain ⟨rfl,rfl⟩:=hrel;clear lf;have st:=st0;clear st0;generalize w2=wr at *;generalize g0=g at *;generalize cap0=cap at *;generalize fl=rl at *;have kt:=st.out.kind.1;have kz:=st.out.kind.2;have lr:rl.length=W:=st.out.r.1;have B4:Hid (Below w.heap.size w wr):=st.out.b;have hfin:Hid (numL rl ^^^ z=S):=hS2;have R0:Hid (Row wr w.heap.size (.slice (some ⟨g,0,none⟩) W cap) rl):=st.out.r.row (Nat.le_of_lt st.out.gl);have fn:Hid (∀ n,Calls Tryz.prog 92 #[.slice (some ⟨g,0,none⟩) W cap] (wr.drewN n) fun e w'=>e=.returned (.int .u32 ((numL rl:Nat):Int))∧w'=wr.drewN n):=fun n=>number_any rl _ w.heap.size (wr.drewN n) (R0.out.below (below_drN (Below.refl _ _) n)) (by omega)
  have nb:numL rl < 4294967296:=num32 (by omega);clear R0;clear st hS2 lr lp;generalize numL rl=M at *
  go_wp2_with fail
  go_quiet (first | (go_at_call 92; refine Calls.quiet_of_same (fn.out _)))
  clear fn;go_wp2;go_ret;exact ⟨ret_x nb hz hfin.out,below_drN B4.out _⟩
theorem rsum_any (W p f:Nat) (t:Bool) (z:Nat) (b:Value) (bs:List Nat) (w:World) (hW:W=8 ∨ W=16 ∨ W=32) (hp:p < 4294967296) (hf:f < 4294967296) (hz:z < 4294967296) (hbs:AllBytes bs) (hlen:(bs.length:Int)≤9223372036854775807) (h:BytesAt w b bs) :
 Calls Tryz.prog 60 #[kv (W:Int) p f t z,b] w fun e w'=>e=.returned (.int .u32 ((sumL W p f t z bs:Nat):Int))∧Below w.heap.size w w':=by
 have cf:BitsC f W:=bitsC hf (by omega);have cp:BitsC p W:=bitsC hp (by omega);rcases h with ⟨rfl,rfl⟩ | ⟨g,o,cap,rfl,h1,h2⟩
 · cases t
   · exact rsum0_false W p f z w ⟨by omega,by omega⟩ hz cf cp _ rfl
   · exact rsum0_true W p f z w ⟨by omega,by omega⟩ hz cf cp _ rfl
 · cases t
   · exact rsum_false W p f z bs g o cap w ⟨by omega,by omega⟩ hz cf cp hbs hlen h1 h2 _ rfl
   · exact rsum_true W p f z bs g o cap w ⟨by omega,by omega⟩ hz cf cp hbs hlen h1 h2 _ rfl
def totN (bs:List Nat):Nat:=bs.foldl (fun a c=>a + c) 0
def mixB (bs:List Nat):Nat:=bs.foldl (fun a c=>a ^^^ c) 0
def secN (bs:List Nat):Nat × Nat:=bs.foldl (fun a c=>(a.1 + c,a.2 + (a.1 + c))) (0,0)
theorem totN_snoc (bs:List Nat) (c:Nat):totN (bs ++ [c])=totN bs + c:=by simp [totN]
theorem mixB_snoc (bs:List Nat) (c:Nat):mixB (bs ++ [c])=mixB bs ^^^ c:=by simp [mixB]
theorem secN_snoc (bs:List Nat) (c:Nat):secN (bs ++ [c])=((secN bs).1 + c,(secN bs).2 + ((secN bs).1 + c)):=by simp [secN]
theorem secN_one (bs:List Nat):(secN bs).1=totN bs:=by
 induction bs using snoc_ind with
 | h0=>rfl
 | h1 bs c ih=>rw [secN_snoc,totN_snoc,ih]
theorem tot_le {bs:List Nat} (h:AllBytes bs):totN bs≤255 * bs.length:=by
 induction bs using snoc_ind with
 | h0=>exact Nat.le_refl _
 | h1 bs c ih=>
  have h1:=ih (fun x hx=>h x (by simp [hx]));have h2:=h c (by simp);rw [totN_snoc,List.length_append,List.length_singleton];omega
theorem sec_le {bs:List Nat} (h:AllBytes bs):(secN bs).2≤255 * bs.length * bs.length:=by
 induction bs using snoc_ind with
 | h0=>exact Nat.le_refl _
 | h1 bs c ih=>
  have hp:AllBytes bs:=fun x hx=>h x (by simp [hx])
  have h1:=ih hp;have h2:=h c (by simp);have h3:=tot_le hp;rw [secN_snoc,List.length_append,List.length_singleton];simp only;rw [secN_one];generalize bs.length=n at *;have e:255 * (n + 1) * (n + 1)=255 * n * n + 255 * n + 255 * n + 255:=by grind
  omega
theorem mix_lt {bs:List Nat} (h:AllBytes bs):mixB bs < 256:=by
 induction bs using snoc_ind with
 | h0=>decide
 | h1 bs c ih=>
  rw [mixB_snoc];exact Nat.xor_lt_two_pow (n:=8) (ih (fun x hx=>h x (by simp [hx]))) (h c (by simp))
end Go.Proofs.YthabffjgdhfbmaaGreatDoor
