/-
  Texts that belong together, one behind the other: DsP1, DsP2, DsSt. Conditions: as each says.
-/
import Derived.BigQuiet
import Derived.Deep.AppendLies
import Derived.Deep.CutRange
import Derived.Deep.QuietTactic
import Derived.Deep.RegionHeld3
import Derived.Lib.BufferOwn
import Derived.Lib.QuietBelowIn
import Derived.Maps.AppendAt
import Derived.RangeFuncCalls
import Derived.Sort.BigQuietIn
import Derived.Test.YthabffjgdhfbmaaGreatDoorProg
import Derived.Test.YthabffjgdhfbmaaGreatDoorJm1
import Derived.Test.YthabffjgdhfbmaaGreatDoorJm2
import Derived.Test.YthabffjgdhfbmaaGreatDoorJm3
set_option maxRecDepth 100000
set_option maxHeartbeats 32000000
set_option linter.unusedVariables false
namespace Go.Proofs.YthabffjgdhfbmaaGreatDoor
open Go.RowKit
theorem oct_any (s:ByteArray) (w:World) (hs:(s.size:Int)≤5000) :
 Calls Tryz.prog 126 #[.string s] w fun e w'=>e=.returned (.tuple #[.int .i64 (((octO s.data.toList).getD 0:Nat):Int),.bool (octO s.data.toList).isSome])∧Below w.heap.size w w':=by
 have f:Hid (Calls Tryz.prog 130 #[.string s] w fun e w'=>∃ v,e=.returned (.tuple #[v,.bool (hexR s.data.toList).isSome])∧BytesAt w' v ((hexR s.data.toList).getD [])∧Below w.heap.size w w'):=HH s w hs
 cases hx:hexR s.data.toList with
 | none=>
  rw [hx] at f;rw [oct_none hx]
  go_enter Tryz.func126,Tryz.ntmps126
  go_wp2_with fail
  refine f.out.mono ?_;rintro e w1 ⟨v,rfl,hv,hb⟩;replace hb:Hid (Below w.heap.size w w1):=hb;clear hv;go_wp2
  go_ret2
  exact ⟨rfl,hb.out⟩
 | some bs=>
  rw [hx] at f;have hby:=(hexR_b hx).1;have hle:(bs.length:Int)≤5000:=by have:=(hexR_b hx).2; simp at this; omega
  by_cases h1:bs.length=1
  · obtain ⟨b,rfl⟩:∃ b,bs=[b]:=by
     match bs,h1 with
     | [b],_=>exact ⟨b,rfl⟩
    rw [oct_some hx];have hb256:b < 256:=hby b (by simp)
    go_enter Tryz.func126,Tryz.ntmps126
    go_wp2_with fail
    refine f.out.mono ?_;rintro e w1 ⟨v,rfl,hv,hb⟩;replace hb:Hid (Below w.heap.size w w1):=hb;rcases hv with ⟨_,h⟩ | ⟨g,o,cap,rfl,hi,hg⟩
    · cases h
    have c0:w1.cell? ⟨g,o + 0,none⟩=some (.int .u8 (b:Int)):=hi 0 (by simp);rw [Nat.add_zero] at c0;clear hi;simp only [Option.getD_some,List.length_singleton];go_wp2
    go_ret2
    exact ⟨by simp,hb.out⟩
  · rw [oct_long hx h1];have n1:((bs.length:Int) != 1)=true:=bne_iff_ne.2 (by omega)
    go_enter Tryz.func126,Tryz.ntmps126
    go_wp2_with fail
    refine f.out.mono ?_;rintro e w1 ⟨v,rfl,hv,hb⟩;replace hb:Hid (Below w.heap.size w w1):=hb;rcases hv with ⟨rfl,h⟩ | ⟨g,o,cap,rfl,hi,hg⟩
    · go_wp2
      go_ret2
      exact ⟨rfl,hb.out⟩
    · clear hi;simp only [Option.getD_some];go_wp2
      go_ret2
      exact ⟨rfl,hb.out⟩
theorem name_len (p:Option Addr) (n cap:Nat) (hn:¬ n=1) (hn2:(n:Int)≤9223372036854775807) (b:Nat) (w:World) :
 Calls Tryz.prog 125 #[.slice p n cap,.pointer (some ⟨b,0,none⟩)] w fun e w'=>e=.returned (.bool false)∧w'=w:=by
 have n1:((n:Int) != 1)=true:=bne_iff_ne.2 (by omega)
 go_enter Tryz.func125,Tryz.ntmps125
 go_wp2;go_ret;exact ⟨rfl,rfl⟩
theorem name_no (z:Wd) (hz:(z.length:Int)≤5000) (hN:nameB z=false) (g o cap b:Nat) (w:World) (hc:w.cell? ⟨g,o,none⟩=some (.string (txt z))) :
 Calls Tryz.prog 125 #[.slice (some ⟨g,o,none⟩) 1 cap,.pointer (some ⟨b,0,none⟩)] w fun e w'=>e=.returned (.bool false)∧Below w.heap.size w w':=by
 have f:Hid (∀ w,Calls Tryz.prog 46 #[.string (txt z)] w fun e w'=>e=.returned (.bool false)∧Below w.heap.size w w'):=fun w=>by rw [← hN]; exact HM (txt z) w (by rw [txt_size]; exact hz)
 go_enter Tryz.func125,Tryz.ntmps125
 go_wp2_with fail
 refine (f.out _).mono ?_;rintro e w1 ⟨rfl,hb⟩;replace hb:Hid (Below w.heap.size w w1):=hb;clear f;go_wp2;go_ret;exact ⟨rfl,hb.out⟩
theorem name_yes (z:Wd) (hz:(z.length:Int)≤5000) (hN:nameB z=true) (g o cap b:Nat) (B k:Nat) (old:Value) (w:World) (hc:w.cell? ⟨g,o,none⟩=some (.string (txt z))) (hb:w.cell? ⟨b,0,none⟩=some (.pointer (some ⟨B,k,none⟩))) (hB:w.cell? ⟨B,k,none⟩=some old) (hF:w.frozen? ⟨B,k,none⟩=false) :
 Calls Tryz.prog 125 #[.slice (some ⟨g,o,none⟩) 1 cap,.pointer (some ⟨b,0,none⟩)] w fun e w'=>e=.returned (.bool true)∧∃ x,Below w.heap.size w x∧w'=x.setCell ⟨B,k,none⟩ (.string (txt z)):=by
 have f:Hid (∀ w,Calls Tryz.prog 46 #[.string (txt z)] w fun e w'=>e=.returned (.bool true)∧Below w.heap.size w w'):=fun w=>by rw [← hN]; exact HM (txt z) w (by rw [txt_size]; exact hz)
 go_enter Tryz.func125,Tryz.ntmps125
 go_wp2_with fail
 refine (f.out _).mono ?_;rintro e w1 ⟨rfl,hb1⟩;have c1:=(hb1.cell (block_lt_of_cell hc)).trans hc;have c2:=(hb1.cell (block_lt_of_cell hb)).trans hb;have c3:=(hb1.cell (block_lt_of_cell hB)).trans hB;have c4:=(hb1.frozen (block_lt_of_cell hB)).trans hF;replace hb1:Hid (Below w.heap.size w w1):=hb1;clear f hc hb hB hF;go_wp2
 go_region
 all_goals
  go_wp2;go_ret;exact ⟨rfl,w1.drew,hb1.out.drew,rfl⟩
theorem num_len (p:Option Addr) (n cap:Nat) (hn:¬ n=1) (hn2:(n:Int)≤9223372036854775807) (b1 b2 b3:Nat) (w:World) :
 Calls Tryz.prog 127 #[.slice p n cap,.pointer (some ⟨b1,0,none⟩),.pointer (some ⟨b2,0,none⟩),.pointer (some ⟨b3,0,none⟩)] w fun e w'=>e=.returned (.bool false)∧w'=w:=by
 have n1:((n:Int) != 1)=true:=bne_iff_ne.2 (by omega)
 go_enter Tryz.func127,Tryz.ntmps127
 go_wp2;go_ret;exact ⟨rfl,rfl⟩
theorem num_one (z:Wd) (hz:(z.length:Int)≤5000) (lo hi:Int) (g o cap b1 b2 b3:Nat) (B k:Nat) (old:Value) (w:World) (hc:w.cell? ⟨g,o,none⟩=some (.string (txt z))) (h1:w.cell? ⟨b1,0,none⟩=some (.int .i64 lo)) (h2:w.cell? ⟨b2,0,none⟩=some (.int .i64 hi)) (h3:w.cell? ⟨b3,0,none⟩=some (.pointer (some ⟨B,k,none⟩))) (hB:w.cell? ⟨B,k,none⟩=some old) (hF:w.frozen? ⟨B,k,none⟩=false) :
 Calls Tryz.prog 127 #[.slice (some ⟨g,o,none⟩) 1 cap,.pointer (some ⟨b1,0,none⟩),.pointer (some ⟨b2,0,none⟩),.pointer (some ⟨b3,0,none⟩)] w fun e w'=>e=.returned (.bool (numB z lo hi))∧∃ x,Below w.heap.size w x∧w'=x.setCell ⟨B,k,none⟩ (.int .i64 (numV z lo hi)):=by
 have f:Hid (∀ w,Calls Tryz.prog 128 #[.string (txt z),.int .i64 lo,.int .i64 hi] w fun e w'=>e=.returned (.tuple #[.int .i64 (numV z lo hi),.bool (numB z lo hi)])∧w'=w):=fun w=>pnum_any (txt z) w (by rw [txt_size]; unfold maxLen; omega) lo hi
 generalize numV z lo hi=V at *;generalize numB z lo hi=T at *
 go_enter Tryz.func127,Tryz.ntmps127
 go_wp2_with fail
 go_quiet ((go_at_call 128; with_reducible refine Calls.quiet_of_same (f.out _)))
 have B1:Hid (Below w.heap.size w (w.drewN nq)):=below_drewN (Below.refl _ _) _;have c3:=(B1.out.cell (block_lt_of_cell h3)).trans h3;have c4:=(B1.out.cell (block_lt_of_cell hB)).trans hB;have c5:=(B1.out.frozen (block_lt_of_cell hB)).trans hF;generalize w.drewN nq=w1 at *;clear f hc h1 h2 h3 hB hF;go_wp2;go_ret;exact ⟨rfl,w1,B1.out,rfl⟩
theorem sta_len (p:Option Addr) (n cap:Nat) (hn:¬ n=1) (hn2:(n:Int)≤9223372036854775807) (B:Nat) (w:World) :
 Calls Tryz.prog 103 #[.pointer (some ⟨B,0,none⟩),.slice p n cap] w fun e w'=>e=.returned (.bool false)∧w'=w:=by
 have n1:((n:Int) != 1)=true:=bne_iff_ne.2 (by omega)
 go_enter Tryz.func103,Tryz.ntmps103
 go_wp2;go_ret;exact ⟨rfl,rfl⟩
theorem sta_one (z:Wd) (hz:(z.length:Int)≤5000) (g o cap:Nat) (B:Nat) (old:Value) (w:World) (hc:w.cell? ⟨g,o,none⟩=some (.string (txt z))) (hB:w.cell? ⟨B,1,none⟩=some old) (hF:w.frozen? ⟨B,1,none⟩=false) :
 Calls Tryz.prog 103 #[.pointer (some ⟨B,0,none⟩),.slice (some ⟨g,o,none⟩) 1 cap] w fun e w'=>e=.returned (.bool (octO z).isSome)∧∃ x,Below w.heap.size w x∧w'=x.setCell ⟨B,1,none⟩ (.int .i64 (((octO z).getD 0:Nat):Int)):=by
 have f:Hid (∀ w,Calls Tryz.prog 126 #[.string (txt z)] w fun e w'=>e=.returned (.tuple #[.int .i64 (((octO z).getD 0:Nat):Int),.bool (octO z).isSome])∧Below w.heap.size w w'):=fun w=>oct_any (txt z) w (by rw [txt_size]; exact hz)
 generalize (((octO z).getD 0:Nat):Int)=V at *;generalize (octO z).isSome=T at *
 go_enter Tryz.func103,Tryz.ntmps103
 go_wp2_with fail
 refine (f.out _).mono ?_;rintro e w1 ⟨rfl,hb1⟩;have c4:=(hb1.cell (block_lt_of_cell hB)).trans hB;have c5:=(hb1.frozen (block_lt_of_cell hB)).trans hF;replace hb1:Hid (Below w.heap.size w w1):=hb1;clear f hc hB hF;go_wp2;go_ret;exact ⟨rfl,w1,hb1.out,rfl⟩
theorem esc_len (p:Option Addr) (n cap:Nat) (hn:¬ n=2) (hn2:(n:Int)≤9223372036854775807) (B:Nat) (w:World) :
 Calls Tryz.prog 104 #[.pointer (some ⟨B,0,none⟩),.slice p n cap] w fun e w'=>e=.returned (.bool false)∧w'=w:=by
 have n1:((n:Int) != 2)=true:=bne_iff_ne.2 (by omega)
 go_enter Tryz.func104,Tryz.ntmps104
 go_wp2;go_ret;exact ⟨rfl,rfl⟩
theorem esc_two (z y:Wd) (hz:(z.length:Int)≤5000) (hy:(y.length:Int)≤5000) (g o cap:Nat) (B:Nat) (old old2:Value) (w:World) (hc:w.cell? ⟨g,o,none⟩=some (.string (txt z))) (hc2:w.cell? ⟨g,o + 1,none⟩=some (.string (txt y))) (hB:w.cell? ⟨B,2,none⟩=some old) (hF:w.frozen? ⟨B,2,none⟩=false) (hB2:w.cell? ⟨B,3,none⟩=some old2) (hF2:w.frozen? ⟨B,3,none⟩=false) :
 Calls Tryz.prog 104 #[.pointer (some ⟨B,0,none⟩),.slice (some ⟨g,o,none⟩) 2 cap] w fun e w'=>e=.returned (.bool ((octO z).isSome && (octO y).isSome))∧∃ x,Below w.heap.size w x∧w'=(x.setCell ⟨B,2,none⟩ (.int .i64 (((octO z).getD 0:Nat):Int))).setCell ⟨B,3,none⟩ (.int .i64 (((octO y).getD 0:Nat):Int)):=by
 have f1:Hid (∀ w,Calls Tryz.prog 126 #[.string (txt z)] w fun e w'=>e=.returned (.tuple #[.int .i64 (((octO z).getD 0:Nat):Int),.bool (octO z).isSome])∧Below w.heap.size w w'):=fun w=>oct_any (txt z) w (by rw [txt_size]; exact hz)
 have f2:Hid (∀ w,Calls Tryz.prog 126 #[.string (txt y)] w fun e w'=>e=.returned (.tuple #[.int .i64 (((octO y).getD 0:Nat):Int),.bool (octO y).isSome])∧Below w.heap.size w w'):=fun w=>oct_any (txt y) w (by rw [txt_size]; exact hy)
 generalize (((octO z).getD 0:Nat):Int)=V at *;generalize (((octO y).getD 0:Nat):Int)=V2 at *;generalize (octO z).isSome=T at *;generalize (octO y).isSome=T2 at *
 go_enter Tryz.func104,Tryz.ntmps104
 go_wp2_with fail
 refine (f1.out _).mono ?_;rintro e w1 ⟨rfl,hb1⟩;have c3:=(hb1.cell (block_lt_of_cell hc2)).trans hc2;have c4:=(hb1.cell (block_lt_of_cell hB)).trans hB;have c5:=(hb1.frozen (block_lt_of_cell hB)).trans hF;have c6:=(hb1.cell (block_lt_of_cell hB2)).trans hB2;have c7:=(hb1.frozen (block_lt_of_cell hB2)).trans hF2;replace hb1:Hid (Below w.heap.size w w1):=hb1;clear f1 hc hB hF hB2 hF2 hc2
 go_wp2_with fail
 refine (f2.out _).mono ?_;rintro e w2 ⟨rfl,hb2⟩;have d4:=(hb2.cell (block_lt_of_cell c4)).trans c4;have d5:=(hb2.frozen (block_lt_of_cell c4)).trans c5;have d6:=(hb2.cell (block_lt_of_cell c6)).trans c6;have d7:=(hb2.frozen (block_lt_of_cell c6)).trans c7;have B2:Hid (Below w.heap.size w w2):=hb1.out.trans (hb2.mono hb1.out.size);clear f2 c3 c4 c5 c6 c7 hb2 hb1
 cases T
 · go_wp2;go_ret;exact ⟨rfl,w2,B2.out,rfl⟩
 · go_wp2;go_ret;exact ⟨rfl,w2,B2.out,rfl⟩
theorem req_len (p:Option Addr) (n cap:Nat) (hn:¬ n=1) (hn2:(n:Int)≤9223372036854775807) (B:Nat) (w:World) :
 Calls Tryz.prog 107 #[.pointer (some ⟨B,0,none⟩),.slice p n cap] w fun e w'=>e=.returned (.bool false)∧w'=w:=by
 have n1:((n:Int) != 1)=true:=bne_iff_ne.2 (by omega)
 go_enter Tryz.func107,Tryz.ntmps107
 go_wp2;go_ret;exact ⟨rfl,rfl⟩
def reqB (z:Wd):Bool:=match hexR z with | some b=>decide (b.length≤16) | none=>false
theorem req_one (z:Wd) (hz:(z.length:Int)≤5000) (g o cap:Nat) (B:Nat) (old:Value) (w:World) (hc:w.cell? ⟨g,o,none⟩=some (.string (txt z))) (hB:w.cell? ⟨B,7,none⟩=some old) (hF:w.frozen? ⟨B,7,none⟩=false) :
 Calls Tryz.prog 107 #[.pointer (some ⟨B,0,none⟩),.slice (some ⟨g,o,none⟩) 1 cap] w fun e w'=>e=.returned (.bool (reqB z))∧∃ x v,Below w.heap.size w x∧BytesAt x v ((hexR z).getD [])∧FreshV w v∧w'=x.setCell ⟨B,7,none⟩ v:=by
 have f:Hid (∀ w,Calls Tryz.prog 130 #[.string (txt z)] w fun e w'=>∃ v,e=.returned (.tuple #[v,.bool (hexR z).isSome])∧BytesAt w' v ((hexR z).getD [])∧FreshV w v∧Below w.heap.size w w'):=fun w=>HH2 (txt z) w (by rw [txt_size]; exact hz)
 unfold reqB
 cases hx:hexR z with
 | none=>
  rw [hx] at f
  go_enter Tryz.func107,Tryz.ntmps107
  go_wp2_with fail
  refine (f.out _).mono ?_;rintro e w1 ⟨v,rfl,hv,hfr,hb1⟩;have c4:=(hb1.cell (block_lt_of_cell hB)).trans hB;have c5:=(hb1.frozen (block_lt_of_cell hB)).trans hF;replace hb1:Hid (Below w.heap.size w w1):=hb1;obtain ⟨p,cap,rfl⟩:∃ p cap,v=.slice p 0 cap:=by
   rcases hv with ⟨rfl,h⟩ | ⟨g,o,cap,rfl,_⟩
   · exact ⟨_,_,rfl⟩
   · exact ⟨_,_,rfl⟩
  replace hv:Hid (BytesAt w1 (.slice p 0 cap) ((none:Option (List Nat)).getD [])):=hv;replace hfr:Hid (FreshV w (.slice p 0 cap)):=hfr;clear f hc hB hF;go_wp2;go_ret;exact ⟨rfl,w1,_,hb1.out,hv.out,hfr.out,rfl⟩
 | some bs=>
  rw [hx] at f;have hle:(bs.length:Int)≤5000:=by have:=(hexR_b hx).2; omega
  have e16:Hid (decide (bs.length≤16)=decide ((bs.length:Int)≤16)):=by unfold Hid; rw [decide_eq_decide]; omega
  go_enter Tryz.func107,Tryz.ntmps107
  go_wp2_with fail
  refine (f.out _).mono ?_;rintro e w1 ⟨v,rfl,hv,hfr,hb1⟩;have c4:=(hb1.cell (block_lt_of_cell hB)).trans hB;have c5:=(hb1.frozen (block_lt_of_cell hB)).trans hF;replace hb1:Hid (Below w.heap.size w w1):=hb1;obtain ⟨p,cap,rfl⟩:∃ p cap,v=.slice p bs.length cap:=by
   rcases hv with ⟨rfl,h⟩ | ⟨g,o,cap,rfl,_⟩
   · have:bs=[]:=h;rw [this]; exact ⟨_,_,rfl⟩
   · exact ⟨_,_,rfl⟩
  replace hv:Hid (BytesAt w1 (.slice p bs.length cap) ((some bs).getD [])):=hv;replace hfr:Hid (FreshV w (.slice p bs.length cap)):=hfr;clear f hc hB hF;go_wp2;go_ret;exact ⟨by rw [e16.out]; rfl,w1,_,hb1.out,hv.out,hfr.out,rfl⟩
theorem fie_len (p:Option Addr) (n cap:Nat) (hn:¬ n=7) (hn2:(n:Int)≤9223372036854775807) (B:Nat) (w:World) :
 Calls Tryz.prog 106 #[.pointer (some ⟨B,0,none⟩),.slice p n cap] w fun e w'=>e=.returned (.bool false)∧w'=w:=by
 have n1:((n:Int) != 7)=true:=bne_iff_ne.2 (by omega)
 go_enter Tryz.func106,Tryz.ntmps106
 go_wp2;go_ret;exact ⟨rfl,rfl⟩
def NaA (z:Wd) (T:Bool):Prop:=∀ w,Calls Tryz.prog 46 #[.string (txt z)] w fun e w'=>e=.returned (.bool T)∧Below w.heap.size w w'
theorem naA (z:Wd) (hz:(z.length:Int)≤5000):NaA z (nameB z):=fun w=>HM (txt z) w (by rw [txt_size]; exact hz)
def NuA (z:Wd) (lo hi V:Int) (T:Bool):Prop:=∀ w,Calls Tryz.prog 128 #[.string (txt z),.int .i64 lo,.int .i64 hi] w fun e w'=>e=.returned (.tuple #[.int .i64 V,.bool T])∧w'=w
theorem nuA (z:Wd) (hz:(z.length:Int)≤5000) (lo hi:Int):NuA z lo hi (numV z lo hi) (numB z lo hi):=fun w=>pnum_any (txt z) w (by rw [txt_size]; unfold maxLen; omega) lo hi
def FrA (z:Wd) (N D E:Int):Prop:=∀ w,Calls Tryz.prog 129 #[.string (txt z)] w fun e w'=>e=.returned (.tuple #[rv N D,.int .i64 E])∧Below w.heap.size w w'
theorem frA (z:Wd) (hz:(z.length:Int)≤5000):FrA z (rdN (txt z)) (rdD (txt z)) (rdE (txt z)):=fun w=>ratRead_any (txt z) w (by rw [txt_size]; unfold maxLen; omega)
def Seven (w:World) (g o:Nat) (n p k d s f u:Wd):Prop:=w.cell? ⟨g,o,none⟩=some (.string (txt n))∧w.cell? ⟨g,o + 1,none⟩=some (.string (txt p))∧w.cell? ⟨g,o + 2,none⟩=some (.string (txt k))∧w.cell? ⟨g,o + 3,none⟩=some (.string (txt d))∧w.cell? ⟨g,o + 4,none⟩=some (.string (txt s))∧w.cell? ⟨g,o + 5,none⟩=some (.string (txt f))∧w.cell? ⟨g,o + 6,none⟩=some (.string (txt u))
theorem Seven.below {w x:World} {g o:Nat} {n p k d s f u:Wd} (h:Seven w g o n p k d s f u) (hb:Below w.heap.size w x):Seven x g o n p k d s f u:=
 ⟨kp hb h.1,kp hb h.2.1,kp hb h.2.2.1,kp hb h.2.2.2.1,kp hb h.2.2.2.2.1,kp hb h.2.2.2.2.2.1,kp hb h.2.2.2.2.2.2⟩
theorem fie_names (n p k d s f u:Wd) (N0 N2 N6:Bool) (h0:NaA n N0) (h2:NaA k N2) (h6:NaA u N6) (hno:(N0 && (N2 && N6))=false) (g o cap B:Nat) (w:World) (hc:Seven w g o n p k d s f u) :
 Calls Tryz.prog 106 #[.pointer (some ⟨B,0,none⟩),.slice (some ⟨g,o,none⟩) 7 cap] w fun e w'=>e=.returned (.bool false)∧Below w.heap.size w w':=by
 replace hc:Hid (Seven w g o n p k d s f u):=hc;replace h0:Hid (NaA n N0):=h0;replace h2:Hid (NaA k N2):=h2;replace h6:Hid (NaA u N6):=h6;obtain ⟨c0,c1,c2,c3,c4,c5,c6⟩:=hc.out
 go_enter Tryz.func106,Tryz.ntmps106
 go_wp2_with fail
 refine (h0.out _).mono ?_;rintro e w1 ⟨rfl,hb1⟩;have B1:Hid (Below w.heap.size w w1):=hb1;clear c0 c1 c2 c3 c4 c5 c6 hb1;obtain ⟨c0,c1,c2,c3,c4,c5,c6⟩:=hc.out.below B1.out
 cases N0
 · go_wp2;go_ret;exact ⟨rfl,B1.out⟩
 · go_wp2_with fail
   refine (h2.out _).mono ?_;rintro e w2 ⟨rfl,hb2⟩;have B2:Hid (Below w.heap.size w w2):=belowT2 B1.out hb2;clear c0 c1 c2 c3 c4 c5 c6 hb2 B1;obtain ⟨c0,c1,c2,c3,c4,c5,c6⟩:=hc.out.below B2.out
   cases N2
   · go_wp2;go_ret;exact ⟨rfl,B2.out⟩
   · cases N6
     · go_wp2_with fail
       refine (h6.out _).mono ?_;rintro e w3 ⟨rfl,hb3⟩;have B3:Hid (Below w.heap.size w w3):=belowT2 B2.out hb3;clear c0 c1 c2 c3 c4 c5 c6 hb3 B2;go_wp2;go_ret;exact ⟨rfl,B3.out⟩
     · cases hno
def fieV (B g o cap:Nat) (fv:Value) (n:Wd) (P:Int) (k:Wd) (D N1 D1 N2 D2:Int) (u:Wd) (H:Nat) (i:Nat):Value:=
 (#[.pointer (some ⟨B,0,none⟩),.pointer (some ⟨B,0,none⟩),.pointer (some ⟨B,0,none⟩),.pointer (some ⟨B,0,none⟩),.pointer (some ⟨B,6,none⟩),fv,
  .slice (some ⟨g,o,none⟩) 7 cap,.pointer (some ⟨g,o,none⟩),.string (txt n),.int .i64 P,.slice (some ⟨g,o,none⟩) 7 cap,.pointer (some ⟨g,o + 2,none⟩),.string (txt k),.int .i64 D,rv N1 D1,rv N2 D2,
  .slice (some ⟨g,o,none⟩) 7 cap,.pointer (some ⟨g,o + 6,none⟩),.string (txt u),.agg #[.string (txt n),.int .i64 P,.string (txt k),.int .i64 D,.int .i64 N1,.int .i64 D1,.int .i64 N2,.int .i64 D2,.string (txt u)],.slice (some ⟨H,0,none⟩) 1 1,undef,
  .pointer (some ⟨B,0,none⟩),.pointer (some ⟨B,0,none⟩),.pointer (some ⟨B,6,none⟩)]:Array Value).getD i undef
structure FieW (w8:World) (base B m:Nat) (xs:List Value) (fv:Value) (g o b5 b7:Nat) (n:Wd) (P:Int) (k:Wd) (D N1 D1 N2 D2:Int) (u:Wd) (x:Array Bool) (z:World):Prop where
 c0:z.cell? ⟨g,o,none⟩=some (.string (txt n))
 c2:z.cell? ⟨g,o + 2,none⟩=some (.string (txt k))
 c6:z.cell? ⟨g,o + 6,none⟩=some (.string (txt u))
 p0:z.cell? ⟨b5,0,none⟩=some (.int .i64 N1)
 p1:z.cell? ⟨b5,1,none⟩=some (.int .i64 D1)
 q0:z.cell? ⟨b7,0,none⟩=some (.int .i64 N2)
 q1:z.cell? ⟨b7,1,none⟩=some (.int .i64 D2)
 fc:x.getD 25 false=false→z.cell? ⟨B,6,none⟩=some fv∧z.frozen? ⟨B,6,none⟩=false
 f0:x.getD 20 false=false→z=w8.drew
 f1:x.getD 20 false=true→x.getD 21 false=false→z=w8.drew.alloc (.cells #[.string (txt n),.int .i64 P,.string (txt k),.int .i64 D,.int .i64 N1,.int .i64 D1,.int .i64 N2,.int .i64 D2,.string (txt u)] 70)
 f5:x.getD 25 false=true→x.getD 5 false=true
 f21:x.getD 21 false=true→x.getD 20 false=true
 f25:x.getD 25 false=true→x.getD 21 false=true
 fin:x.getD 25 false=true→∃ y v,ApY w8 base m xs fv (fdC ⟨n,P,k,D,N1,D1,N2,D2,u⟩) y v∧z=y.setCell ⟨B,6,none⟩ v
theorem FieW.other {w8:World} {base B m:Nat} {xs:List Value} {fv:Value} {g o b5 b7:Nat} {n:Wd} {P:Int} {k:Wd} {D N1 D1 N2 D2:Int} {u:Wd} {x:Array Bool} {z:World} (h:FieW w8 base B m xs fv g o b5 b7 n P k D N1 D1 N2 D2 u x z) {i:Nat} (h20:i ≠ 20) (h21:i ≠ 21) (h25:i ≠ 25):FieW w8 base B m xs fv g o b5 b7 n P k D N1 D1 N2 D2 u (x.setIfInBounds i true) z:=by
 obtain ⟨c0,c2,c6,p0,p1,q0,q1,fc,f0,f1,f5,f21,f25,fin⟩:=h;refine ⟨c0,c2,c6,p0,p1,q0,q1,?_,?_,?_,?_,?_,?_,?_⟩
 · rw [getD_set_ne false h25]; exact fc
 · rw [getD_set_ne false h20]; exact f0
 · rw [getD_set_ne false h20,getD_set_ne false h21]; exact f1
 · rw [getD_set_ne false h25]; exact fun h=>getD_set_true (f5 h)
 · rw [getD_set_ne false h20,getD_set_ne false h21]; exact f21
 · rw [getD_set_ne false h21,getD_set_ne false h25]; exact f25
 · rw [getD_set_ne false h25]; exact fin
theorem fie_rest (n p k d s f u:Wd) (P D N1 D1 E1 N2 D2 E2:Int) (TP TD:Bool) (h0:NaA n true) (h2:NaA k true) (h6:NaA u true) (hp:NuA p 0 31 P TP) (hd:NuA d 1 8 D TD) (hs:FrA s N1 D1 E1) (hf:FrA f N2 D2 E2) (g o cap B:Nat) (w:World) (hc:Seven w g o n p k d s f u)
 (fv:Value) (base m:Nat) (xs:List Value) (hm:(m:Int)≤8) (hB:w.cell? ⟨B,6,none⟩=some fv) (hF:w.frozen? ⟨B,6,none⟩=false) (hO:w.ownsRow base 70 9 fv m xs) (hbs:base≤w.heap.size) (hg:g < base) (hgB:g ≠ B) (hne:some B ≠ fv.ownBlock) (R:Bool) (hR:(TP && (TD && (decide (E1=0) && decide (E2=0))))=R) :
 Calls Tryz.prog 106 #[.pointer (some ⟨B,0,none⟩),.slice (some ⟨g,o,none⟩) 7 cap] w fun e w'=>e=.returned (.bool R)∧(R=false→Below w.heap.size w w')∧(R=true→∃ x g' cap',x.ownsRow base 70 9 (.slice (some ⟨g',0,none⟩) (m + 1) cap') (m + 1) (xs ++ fdC ⟨n,P,k,D,N1,D1,N2,D2,u⟩)∧w.grownBy x fv.ownBlock∧(fv.ownBlock=some g' ∨ w.heap.size≤g')∧w'=x.setCell ⟨B,6,none⟩ (.slice (some ⟨g',0,none⟩) (m + 1) cap')):=by
 obtain ⟨r0,hri,hr0,hr1,hr2⟩:=info_parts info_fd;replace hc:Hid (Seven w g o n p k d s f u):=hc;replace h0:Hid (NaA n true):=h0;replace h2:Hid (NaA k true):=h2;replace h6:Hid (NaA u true):=h6;replace hp:Hid (NuA p 0 31 P TP):=hp;replace hd:Hid (NuA d 1 8 D TD):=hd;replace hs:Hid (FrA s N1 D1 E1):=hs;replace hf:Hid (FrA f N2 D2 E2):=hf;replace hR:Hid ((TP && (TD && (decide (E1=0) && decide (E2=0))))=R):=hR;replace hO:Hid (w.ownsRow base 70 9 fv m xs):=hO;replace hB:Hid (w.cell? ⟨B,6,none⟩=some fv):=hB;replace hF:Hid (w.frozen? ⟨B,6,none⟩=false):=hF;replace hne:Hid (some B ≠ fv.ownBlock):=hne;obtain ⟨c0,c1,c2,c3,c4,c5,c6⟩:=hc.out
 go_enter Tryz.func106,Tryz.ntmps106
 go_wp2_with fail
 refine (h0.out _).mono ?_;rintro e w1 ⟨rfl,hb1⟩;have B1:Hid (Below w.heap.size w w1):=hb1;clear c0 c1 c2 c3 c4 c5 c6 hb1 h0;obtain ⟨c0,c1,c2,c3,c4,c5,c6⟩:=hc.out.below B1.out
 go_wp2_with fail
 refine (h2.out _).mono ?_;rintro e w2 ⟨rfl,hb2⟩;have B2:Hid (Below w.heap.size w w2):=belowT2 B1.out hb2;clear c0 c1 c2 c3 c4 c5 c6 hb2 B1 h2;obtain ⟨c0,c1,c2,c3,c4,c5,c6⟩:=hc.out.below B2.out
 go_wp2_with fail
 refine (h6.out _).mono ?_;rintro e w3 ⟨rfl,hb3⟩;have B3:Hid (Below w.heap.size w w3):=belowT2 B2.out hb3;clear c0 c1 c2 c3 c4 c5 c6 hb3 B2 h6;obtain ⟨c0,c1,c2,c3,c4,c5,c6⟩:=hc.out.below B3.out
 go_wp2_with fail
 refine (hp.out _).mono ?_;rintro e w4 ⟨rfl,rfl⟩;clear hp
 go_wp2_with fail
 refine (hd.out _).mono ?_;rintro e w4 ⟨rfl,rfl⟩;clear hd
 go_wp2_with fail
 refine (hs.out _).mono ?_;rintro e w5 ⟨rfl,hb5⟩;have B5:Hid (Below w.heap.size w (w5.alloc (.cells #[.int .i64 N1,.int .i64 D1] 67))):=(belowT2 B3.out hb5).alloc (belowT2 B3.out hb5).size _;have b5l:w.heap.size≤w5.heap.size:=(belowT2 B3.out hb5).size;clear c0 c1 c2 c3 c4 c5 c6 hb5 B3 hs;have H5:Hid (Has (w5.alloc (.cells #[.int .i64 N1,.int .i64 D1] 67)) w5.heap.size (.int .i64 N1) (.int .i64 D1)):=has_new _ _ _ _
 go_upto_region 6 with fail
 generalize hX:w5.alloc (.cells #[.int .i64 N1,.int .i64 D1] 67)=w6 at *;have eX:w6.heap.size=w5.heap.size + 1:=by rw [← hX,World.size_alloc]
 clear hX;obtain ⟨c0,c1,c2,c3,c4,c5,c6⟩:=hc.out.below B5.out;generalize w5.heap.size=b5 at *
 go_wp2_with fail
 refine (hf.out _).mono ?_;rintro e w7 ⟨rfl,hb7⟩;have B7:Hid (Below w.heap.size w (w7.alloc (.cells #[.int .i64 N2,.int .i64 D2] 67))):=(belowT2 B5.out hb7).alloc (belowT2 B5.out hb7).size _;have H7:Hid (Has (w7.alloc (.cells #[.int .i64 N2,.int .i64 D2] 67)) b5 (.int .i64 N1) (.int .i64 D1)):=(H5.out.below hb7).alloc _;have H8:Hid (Has (w7.alloc (.cells #[.int .i64 N2,.int .i64 D2] 67)) w7.heap.size (.int .i64 N2) (.int .i64 D2)):=has_new _ _ _ _;have b7l:w.heap.size≤w7.heap.size:=(belowT2 B5.out hb7).size;clear c0 c1 c2 c3 c4 c5 c6 hb7 B5 H5 hf eX;have X8:Hid (Seven (w7.alloc (.cells #[.int .i64 N2,.int .i64 D2] 67)) g o n p k d s f u):=hc.out.below B7.out
 go_upto_region 7 with fail
 by_cases e1:E1=0
 · by_cases e2:E2=0
   · subst e1;subst e2
     cases TP
     · obtain rfl:R=false:=hR.out.symm;go_wp2;go_ret;exact ⟨rfl,B7.out⟩
     · cases TD
       · obtain rfl:R=false:=hR.out.symm;go_wp2;go_ret;exact ⟨rfl,B7.out⟩
       · obtain rfl:R=true:=hR.out.symm;generalize hX:w7.alloc (.cells #[.int .i64 N2,.int .i64 D2] 67)=w8 at *;have hB0:Hid (w.cell? ⟨B,6,none⟩=some fv):=hB;have hO0:Hid (w.ownsRow base 70 9 fv m xs):=hO;have hO8:Hid (w8.ownsRow base 70 9 fv m xs):=ownsRow_below B7.out hO.out;have hB8:=kp B7.out hB.out;have hF8:=kpf B7.out hB.out hF.out;have sz8:=B7.out.size;generalize w7.heap.size=b7 at *;clear hX hc hO hB hF hR;obtain ⟨p0,p1,y0,y1,yl⟩:=H7.out;obtain ⟨q0,q1,z0,z1,zl⟩:=H8.out;obtain ⟨c0,c1,c2,c3,c4,c5,c6⟩:=X8.out;clear H7 H8 X8 c1 c3 c4 c5;have ow:=World.ownsRow.lt hO8.out;have far:Hid (∀ k,k < base ∨ k=B ∨ b5=k ∨ b7=k→some k ≠ fv.ownBlock):=by
          intro k hk e;have h1:=World.ownsRow.lt hO0.out k e.symm;rcases hk with hk | hk | hk | hk
          · omega
          · rw [hk] at e; exact hne.out e
          · omega
          · omega
         have hgl:Hid (g < w8.heap.size∧B < w8.heap.size):=⟨block_lt_of_cell c0,block_lt_of_cell hB8⟩;have nb5:Hid (b5 ≠ B):=by have:=block_lt_of_cell hB0.out; unfold Hid; simp only at this; omega
         have nb7:Hid (b7 ≠ B):=by have:=block_lt_of_cell hB0.out; unfold Hid; simp only at this; omega
         have hBl:B < w8.heap.size:=hgl.out.2;clear ow hne
         go_upto_region 9 with fail
         refine region_props (fun i v z=>(i=21→ApR w8 base B m xs fv (fdC ⟨n,P,k,D,N1,D1,N2,D2,u⟩) v z)∧(i ≠ 21→v=fieV B g o cap fv n P k D N1 D1 N2 D2 u w8.heap.size i)) (FieW w8 base B m xs fv g o b5 b7 n P k D N1 D1 N2 D2 u) (by kernel_rfl) (by kernel_rfl) ?_ ?_ ?_
         · intro x a z i op ho hI haf hx hxi hW;have hi:i < 26:=(List.getElem?_eq_some_iff.1 ho).1
           match i,hi with
           | 0,_=>
            obtain rfl:=Option.some.inj ho;have e1:a.tmps.getD 0 undef=.pointer (some ⟨B,0,none⟩):=(hI.was (by kernel_rfl)).trans rfl;go_simp;exact ⟨_,rfl,rfl,RegK.refl _ _ _,(hW.other (by decide) (by decide) (by decide))⟩
           | 1,_=>
            obtain rfl:=Option.some.inj ho;have e1:a.tmps.getD 0 undef=.pointer (some ⟨B,0,none⟩):=(hI.was (by kernel_rfl)).trans rfl;go_simp;exact ⟨_,rfl,rfl,RegK.refl _ _ _,(hW.other (by decide) (by decide) (by decide))⟩
           | 2,_=>
            obtain rfl:=Option.some.inj ho;have e1:a.tmps.getD 80 undef=.pointer (some ⟨B,0,none⟩):=(hI.val 1 _ 80 rfl rfl (dep_at haf (by kernel_rfl))).2 (by decide);go_simp;exact ⟨_,rfl,rfl,RegK.refl _ _ _,(hW.other (by decide) (by decide) (by decide))⟩
           | 3,_=>
            obtain rfl:=Option.some.inj ho;have e1:a.tmps.getD 81 undef=.pointer (some ⟨B,0,none⟩):=(hI.val 2 _ 81 rfl rfl (dep_at haf (by kernel_rfl))).2 (by decide);go_simp;exact ⟨_,rfl,rfl,RegK.refl _ _ _,(hW.other (by decide) (by decide) (by decide))⟩
           | 4,_=>
            obtain rfl:=Option.some.inj ho;have e1:a.tmps.getD 82 undef=.pointer (some ⟨B,0,none⟩):=(hI.val 3 _ 82 rfl rfl (dep_at haf (by kernel_rfl))).2 (by decide);go_simp;exact ⟨_,rfl,rfl,RegK.refl _ _ _,(hW.other (by decide) (by decide) (by decide))⟩
           | 5,_=>
            obtain rfl:=Option.some.inj ho;have e1:a.tmps.getD 83 undef=.pointer (some ⟨B,6,none⟩):=(hI.val 4 _ 83 rfl rfl (dep_at haf (by kernel_rfl))).2 (by decide);have l1:=(hW.fc (by cases h:x.getD 25 false; rfl; exact absurd (hW.f5 h) (by rw [getD_false hxi]; decide))).1;go_simp;exact ⟨_,rfl,rfl,RegK.refl _ _ _,(hW.other (by decide) (by decide) (by decide))⟩
           | 6,_=>
            obtain rfl:=Option.some.inj ho;have e1:a.tmps.getD 1 undef=.slice (some ⟨g,o,none⟩) 7 cap:=(hI.was (by kernel_rfl)).trans rfl;go_simp;exact ⟨_,rfl,rfl,RegK.refl _ _ _,(hW.other (by decide) (by decide) (by decide))⟩
           | 7,_=>
            obtain rfl:=Option.some.inj ho;have e1:a.tmps.getD 85 undef=.slice (some ⟨g,o,none⟩) 7 cap:=(hI.val 6 _ 85 rfl rfl (dep_at haf (by kernel_rfl))).2 (by decide);go_simp;exact ⟨_,rfl,rfl,RegK.refl _ _ _,(hW.other (by decide) (by decide) (by decide))⟩
           | 8,_=>
            obtain rfl:=Option.some.inj ho;have e1:a.tmps.getD 86 undef=.pointer (some ⟨g,o,none⟩):=(hI.val 7 _ 86 rfl rfl (dep_at haf (by kernel_rfl))).2 (by decide);have l1:=hW.c0;go_simp;exact ⟨_,rfl,rfl,RegK.refl _ _ _,(hW.other (by decide) (by decide) (by decide))⟩
           | 9,_=>
            obtain rfl:=Option.some.inj ho;have e1:a.tmps.getD 5 undef=.int .i64 P:=(hI.was (by kernel_rfl)).trans rfl;go_simp;exact ⟨_,rfl,rfl,RegK.refl _ _ _,(hW.other (by decide) (by decide) (by decide))⟩
           | 10,_=>
            obtain rfl:=Option.some.inj ho;have e1:a.tmps.getD 1 undef=.slice (some ⟨g,o,none⟩) 7 cap:=(hI.was (by kernel_rfl)).trans rfl;go_simp;exact ⟨_,rfl,rfl,RegK.refl _ _ _,(hW.other (by decide) (by decide) (by decide))⟩
           | 11,_=>
            obtain rfl:=Option.some.inj ho;have e1:a.tmps.getD 89 undef=.slice (some ⟨g,o,none⟩) 7 cap:=(hI.val 10 _ 89 rfl rfl (dep_at haf (by kernel_rfl))).2 (by decide);go_simp;exact ⟨_,rfl,rfl,RegK.refl _ _ _,(hW.other (by decide) (by decide) (by decide))⟩
           | 12,_=>
            obtain rfl:=Option.some.inj ho;have e1:a.tmps.getD 90 undef=.pointer (some ⟨g,o + 2,none⟩):=(hI.val 11 _ 90 rfl rfl (dep_at haf (by kernel_rfl))).2 (by decide);have l1:=hW.c2;go_simp;exact ⟨_,rfl,rfl,RegK.refl _ _ _,(hW.other (by decide) (by decide) (by decide))⟩
           | 13,_=>
            obtain rfl:=Option.some.inj ho;have e1:a.tmps.getD 7 undef=.int .i64 D:=(hI.was (by kernel_rfl)).trans rfl;go_simp;exact ⟨_,rfl,rfl,RegK.refl _ _ _,(hW.other (by decide) (by decide) (by decide))⟩
           | 14,_=>
            obtain rfl:=Option.some.inj ho;have e1:a.tmps.getD 9 undef=.pointer (some ⟨b5,0,none⟩):=(hI.was (by kernel_rfl)).trans rfl;have l1:=hW.p0;have l2:=hW.p1;go_simp;exact ⟨_,rfl,rfl,RegK.refl _ _ _,(hW.other (by decide) (by decide) (by decide))⟩
           | 15,_=>
            obtain rfl:=Option.some.inj ho;have e1:a.tmps.getD 11 undef=.pointer (some ⟨b7,0,none⟩):=(hI.was (by kernel_rfl)).trans rfl;have l1:=hW.q0;have l2:=hW.q1;go_simp;exact ⟨_,rfl,rfl,RegK.refl _ _ _,(hW.other (by decide) (by decide) (by decide))⟩
           | 16,_=>
            obtain rfl:=Option.some.inj ho;have e1:a.tmps.getD 1 undef=.slice (some ⟨g,o,none⟩) 7 cap:=(hI.was (by kernel_rfl)).trans rfl;go_simp;exact ⟨_,rfl,rfl,RegK.refl _ _ _,(hW.other (by decide) (by decide) (by decide))⟩
           | 17,_=>
            obtain rfl:=Option.some.inj ho;have e1:a.tmps.getD 95 undef=.slice (some ⟨g,o,none⟩) 7 cap:=(hI.val 16 _ 95 rfl rfl (dep_at haf (by kernel_rfl))).2 (by decide);go_simp;exact ⟨_,rfl,rfl,RegK.refl _ _ _,(hW.other (by decide) (by decide) (by decide))⟩
           | 18,_=>
            obtain rfl:=Option.some.inj ho;have e1:a.tmps.getD 96 undef=.pointer (some ⟨g,o + 6,none⟩):=(hI.val 17 _ 96 rfl rfl (dep_at haf (by kernel_rfl))).2 (by decide);have l1:=hW.c6;go_simp;exact ⟨_,rfl,rfl,RegK.refl _ _ _,(hW.other (by decide) (by decide) (by decide))⟩
           | 19,_=>
            obtain rfl:=Option.some.inj ho;have e1:a.tmps.getD 87 undef=.string (txt n):=(hI.val 8 _ 87 rfl rfl (dep_at haf (by kernel_rfl))).2 (by decide);have e2:a.tmps.getD 88 undef=.int .i64 P:=(hI.val 9 _ 88 rfl rfl (dep_at haf (by kernel_rfl))).2 (by decide);have e3:a.tmps.getD 91 undef=.string (txt k):=(hI.val 12 _ 91 rfl rfl (dep_at haf (by kernel_rfl))).2 (by decide);have e4:a.tmps.getD 92 undef=.int .i64 D:=(hI.val 13 _ 92 rfl rfl (dep_at haf (by kernel_rfl))).2 (by decide);have e5:a.tmps.getD 93 undef=rv N1 D1:=(hI.val 14 _ 93 rfl rfl (dep_at haf (by kernel_rfl))).2 (by decide);have e6:a.tmps.getD 94 undef=rv N2 D2:=(hI.val 15 _ 94 rfl rfl (dep_at haf (by kernel_rfl))).2 (by decide);have e7:a.tmps.getD 97 undef=.string (txt u):=(hI.val 18 _ 97 rfl rfl (dep_at haf (by kernel_rfl))).2 (by decide);go_simp;simp only [← Array.getD_eq_getD_getElem?,e1,e2,e3,e4,e5,e6,e7];go_simp;exact ⟨_,rfl,rfl,RegK.refl _ _ _,(hW.other (by decide) (by decide) (by decide))⟩
           | 20,_=>
            obtain rfl:=Option.some.inj ho;have e1:a.tmps.getD 98 undef=.agg #[.string (txt n),.int .i64 P,.string (txt k),.int .i64 D,.int .i64 N1,.int .i64 D1,.int .i64 N2,.int .i64 D2,.string (txt u)]:=(hI.val 19 _ 98 rfl rfl (dep_at haf (by kernel_rfl))).2 (by decide);have x20:=getD_false hxi;have x21:x.getD 21 false=false:=by
             cases h:x.getD 21 false
             · rfl
             · rw [hW.f21 h] at x20; cases x20
            have x25:x.getD 25 false=false:=by
             cases h:x.getD 25 false
             · rfl
             · rw [hW.f25 h] at x21; cases x21
            have fc:=hW.fc x25;obtain rfl:=hW.f0 x20;go_simp;simp only [← Array.getD_eq_getD_getElem?,e1];go_simp;have gA:=World.grownBy_alloc w8.drew (.cells #[.string (txt n),.int .i64 P,.string (txt k),.int .i64 D,.int .i64 N1,.int .i64 D1,.int .i64 N2,.int .i64 D2,.string (txt u)] 70) none;refine ⟨_,rfl,rfl,fun j v hj hp=>⟨fun e=>?_,hp.2⟩,?_⟩
            · subst e; rw [x21] at hj; cases hj
            · have s21:(x.setIfInBounds 20 true).getD 21 false=false:=(getD_set_ne false (by decide)).trans x21;have s25:(x.setIfInBounds 20 true).getD 25 false=false:=(getD_set_ne false (by decide)).trans x25;have s20:(x.setIfInBounds 20 true).getD 20 false=true:=getD_set_at (by rw [hx]; decide);refine ⟨gA.cell hW.c0 (by simp),gA.cell hW.c2 (by simp),gA.cell hW.c6 (by simp),gA.cell hW.p0 (by simp),gA.cell hW.p1 (by simp),gA.cell hW.q0 (by simp),gA.cell hW.q1 (by simp),fun _=>⟨gA.cell fc.1 (by simp),(World.grownBy.frozen_far gA ⟨B,6,none⟩ (block_lt_of_cell fc.1) (by simp)).trans fc.2⟩,fun h=>?_,fun _ _=>rfl,fun h=>?_,fun h=>?_,fun h=>?_,fun h=>?_⟩
              · rw [s20] at h; cases h
              · rw [s25] at h; cases h
              · rw [s21] at h; cases h
              · rw [s25] at h; cases h
              · rw [s25] at h; cases h
           | 21,_=>
            obtain rfl:=Option.some.inj ho;have e1:a.tmps.getD 84 undef=fv:=(hI.val 5 _ 84 rfl rfl (dep_at haf (by kernel_rfl))).2 (by decide);have e2:a.tmps.getD 99 undef=.slice (some ⟨w8.heap.size,0,none⟩) 1 1:=(hI.val 20 _ 99 rfl rfl (dep_at haf (by kernel_rfl))).2 (by decide);have x21:=getD_false hxi;have x25:x.getD 25 false=false:=by
             cases h:x.getD 25 false
             · rfl
             · rw [hW.f25 h] at x21; cases x21
            have fc:=hW.fc x25;have x20:x.getD 20 false=true:=dep_at haf (by kernel_rfl);obtain rfl:=hW.f1 x20 x21;refine wp_append_lies _ (.tmp 84) (.tmp 99) 31 rfl base 70 r0 (.agg #[.string ⟨#[]⟩,.int .i64 0,.string ⟨#[]⟩,.int .i64 0,.int .i64 0,.int .i64 0,.int .i64 0,.int .i64 0,.string ⟨#[]⟩]) 9 96 Tryz.underlying31 hri hr0 hr1 hr2 rfl (by omega) fv m xs e1 (World.ownsRow.alloc hO8.out.drew _)
             ⟨w8.heap.size,0,none⟩ 1 1 (fdC ⟨n,P,k,D,N1,D1,N2,D2,u⟩) e2 rfl (World.news_of_block (cs:=#[.string (txt n),.int .i64 P,.string (txt k),.int .i64 D,.int .i64 N1,.int .i64 D1,.int .i64 N2,.int .i64 D2,.string (txt u)]) (t:=70) (fr:=(0,0)) (heap_alloc_new w8.drew _)) (by simp [Value.oneCell',fdC])
             (by omega) (by unfold maxLen; omega) (by omega) (by rw [World.size_alloc]; exact Nat.le_succ_of_le (Nat.le_trans hbs sz8)) (w8.heap.size + 1) (by rw [World.size_alloc]; rfl) ?_
            intro gg cap' y hOy gO hat hlt2;have cc:∀ {a:Addr} {v:Value},(w8.drew.alloc (.cells #[.string (txt n),.int .i64 P,.string (txt k),.int .i64 D,.int .i64 N1,.int .i64 D1,.int .i64 N2,.int .i64 D2,.string (txt u)] 70)).cell? a=some v→some a.block ≠ fv.ownBlock→y.cell? a=some v:=fun {a v} h hn=>gO.cell h hn
            have yw:ApY w8 base m xs fv (fdC ⟨n,P,k,D,N1,D1,N2,D2,u⟩) y (.slice (some ⟨gg,0,none⟩) (m + 1) cap'):=by
             refine ⟨gg,cap',rfl,hOy,?_,hat.imp id (fun e=>by omega)⟩;have g1:w8.grownBy (w8.drew.alloc (.cells #[.string (txt n),.int .i64 P,.string (txt k),.int .i64 D,.int .i64 N1,.int .i64 D1,.int .i64 N2,.int .i64 D2,.string (txt u)] 70)) fv.ownBlock:=by
              have g0:=World.grownBy_alloc w8.drew (.cells #[.string (txt n),.int .i64 P,.string (txt k),.int .i64 D,.int .i64 N1,.int .i64 D1,.int .i64 N2,.int .i64 D2,.string (txt u)] 70) fv.ownBlock;exact ⟨g0.os,g0.tape,g0.output,g0.size,g0.block⟩
             exact Lib.grownBy_trans g1 gO
            have s21:(x.setIfInBounds 21 true).getD 21 false=true:=getD_set_at (by rw [hx]; decide);have s25:(x.setIfInBounds 21 true).getD 25 false=false:=(getD_set_ne false (by decide)).trans x25;have s20:(x.setIfInBounds 21 true).getD 20 false=true:=getD_set_true x20;refine ⟨_,rfl,fun d _=>⟨fun _=>.inl yw,fun h=>absurd rfl h⟩,fun j v hj hp=>⟨fun e=>?_,hp.2⟩,?_⟩
            · subst e; rw [x21] at hj; cases hj
            · refine ⟨cc hW.c0 (far.out g (.inl hg)),cc hW.c2 (far.out g (.inl hg)),cc hW.c6 (far.out g (.inl hg)),cc hW.p0 (far.out b5 (.inr (.inr (.inl rfl)))),cc hW.p1 (far.out b5 (.inr (.inr (.inl rfl)))),cc hW.q0 (far.out b7 (.inr (.inr (.inr rfl)))),cc hW.q1 (far.out b7 (.inr (.inr (.inr rfl)))),fun _=>⟨cc fc.1 (far.out B (.inr (.inl rfl))),(gO.frozen_far ⟨B,6,none⟩ (block_lt_of_cell fc.1) (far.out B (.inr (.inl rfl)))).trans fc.2⟩,fun h=>?_,fun _ h=>?_,fun h=>?_,fun h=>?_,fun h=>?_,fun h=>?_⟩
              · rw [s20] at h; cases h
              · rw [s21] at h; cases h
              · rw [s25] at h; cases h
              · exact s20
              · rw [s25] at h; cases h
              · rw [s25] at h; cases h
           | 22,_=>
            obtain rfl:=Option.some.inj ho;have e1:a.tmps.getD 79 undef=.pointer (some ⟨B,0,none⟩):=(hI.val 0 _ 79 rfl rfl (dep_at haf (by kernel_rfl))).2 (by decide);go_simp;exact ⟨_,rfl,rfl,RegK.refl _ _ _,(hW.other (by decide) (by decide) (by decide))⟩
           | 23,_=>
            obtain rfl:=Option.some.inj ho;have e1:a.tmps.getD 101 undef=.pointer (some ⟨B,0,none⟩):=(hI.val 22 _ 101 rfl rfl (dep_at haf (by kernel_rfl))).2 (by decide);go_simp;exact ⟨_,rfl,rfl,RegK.refl _ _ _,(hW.other (by decide) (by decide) (by decide))⟩
           | 24,_=>
            obtain rfl:=Option.some.inj ho;have e1:a.tmps.getD 102 undef=.pointer (some ⟨B,0,none⟩):=(hI.val 23 _ 102 rfl rfl (dep_at haf (by kernel_rfl))).2 (by decide);go_simp;exact ⟨_,rfl,rfl,RegK.refl _ _ _,(hW.other (by decide) (by decide) (by decide))⟩
           | 25,_=>
            obtain rfl:=Option.some.inj ho;have e1:a.tmps.getD 103 undef=.pointer (some ⟨B,6,none⟩):=(hI.val 24 _ 103 rfl rfl (dep_at haf (by kernel_rfl))).2 (by decide);have x25:=getD_false hxi;have fc:=hW.fc x25;have ap:=(hI.val 21 _ 100 rfl rfl (dep_at haf (by kernel_rfl))).1 rfl;have yw:ApY w8 base m xs fv (fdC ⟨n,P,k,D,N1,D1,N2,D2,u⟩) z (a.tmps.getD 100 undef):=by
             rcases ap with h | ⟨u,h1,h2⟩
             · exact h
             · rw [fc.1] at h1; exact absurd (Option.some.inj h1).symm h2
            have yw2:=yw;obtain ⟨gg,cap',e2,_⟩:=yw2;rw [e2] at yw;have fc1:=fc.1;have fc2:=fc.2;have nfv:Value.slice (some ⟨gg,0,none⟩) (m + 1) cap' ≠ fv:=by
             rcases own_slice hO8.out with ⟨e,hm0⟩ | ⟨g1,c1,e,_⟩
             · rw [e]; simp
             · rw [e]; simp
            go_simp;have x20:x.getD 20 false=true:=dep_at haf (by kernel_rfl);have x21:x.getD 21 false=true:=dep_at haf (by kernel_rfl);have x5:x.getD 5 false=true:=dep_at haf (by kernel_rfl);have kk:∀ {a:Addr} {u v:Value},z.cell? a=some u→a.block ≠ B→(z.setCell ⟨B,6,none⟩ v).cell? a=some u:=fun {a u v} h hn=>by rw [World.cell?_setCell_other _ _ _ _ (fun e=>hn (by rw [← e]))]; exact h
            have s25:(x.setIfInBounds 25 true).getD 25 false=true:=getD_set_at (by rw [hx]; decide);refine ⟨fun j v hj hp=>⟨fun e=>.inr ⟨_,World.cell?_setCell_same _ _ _ fc1,nfv⟩,hp.2⟩,?_⟩;refine ⟨kk hW.c0 hgB,kk hW.c2 hgB,kk hW.c6 hgB,kk hW.p0 nb5.out,kk hW.p1 nb5.out,kk hW.q0 nb7.out,kk hW.q1 nb7.out,fun h=>?_,fun h=>?_,fun _ h=>?_,fun _=>getD_set_true x5,fun _=>getD_set_true x20,fun _=>getD_set_true x21,fun _=>⟨z,_,yw,rfl⟩⟩
            · rw [s25] at h; cases h
            · rw [getD_set_true x20] at h; cases h
            · rw [getD_set_true x21] at h; cases h
         · intro x a z hx hall hI hW;obtain ⟨y,v,⟨gg,cap',rfl,hOy,gW,hat⟩,rfl⟩:=hW.fin (hall 25 (by decide));have GW:Hid (w.grownBy y fv.ownBlock):=Lib.grownBy_trans (Lib.grownBy_below ⟨rfl,rfl,rfl,Nat.le_refl _,fun _ _ _=>rfl⟩ B7.out) gW;have AT:Hid (fv.ownBlock=some gg ∨ w.heap.size≤gg):=hat.imp id (fun e=>by omega);replace hOy:Hid (y.ownsRow base 70 9 (.slice (some ⟨gg,0,none⟩) (m + 1) cap') (m + 1) (xs ++ fdC ⟨n,P,k,D,N1,D1,N2,D2,u⟩)):=hOy;have sz:=hI.size;have df:=hI.dfr;clear hI hW hall gW hat;obtain ⟨T,ds⟩:=a;simp only at df sz;subst df;have h4:4 < T.size:=by rw [sz]; simp
           have hv:(T.setIfInBounds 4 (Value.bool true)).getD 4 undef=.bool true:=by simp [Array.getD_eq_getD_getElem?,h4]
           go_wp2;refine bodyPost_ret (results_tmp rfl _ _ _) rfl ?_;exact ⟨by rw [hv],y,gg,cap',hOy.out,GW.out,AT.out,rfl⟩
         · exact ⟨c0,c2,c6,p0,p1,q0,q1,fun _=>⟨hB8,hF8⟩,fun _=>rfl,fun h=>(by simp at h),fun h=>(by simp at h),fun h=>(by simp at h),fun h=>(by simp at h),fun h=>(by simp at h)⟩
   · have b2:(E2 != 0)=true:=bne_iff_ne.2 e2;obtain rfl:R=false:=by have:=hR.out; rw [decide_eq_false e2] at this; rw [← this]; cases TP <;> cases TD <;> simp
     cases TP
     · go_wp2;go_ret;exact ⟨rfl,B7.out⟩
     · cases TD
       · go_wp2;go_ret;exact ⟨rfl,B7.out⟩
       · subst e1;go_wp2;go_ret;exact ⟨rfl,B7.out⟩
 · have b1:(E1 != 0)=true:=bne_iff_ne.2 e1;obtain rfl:R=false:=by have:=hR.out; rw [decide_eq_false e1] at this; rw [← this]; cases TP <;> cases TD <;> simp
   cases TP
   · go_wp2;go_ret;exact ⟨rfl,B7.out⟩
   · cases TD
     · go_wp2;go_ret;exact ⟨rfl,B7.out⟩
     · go_wp2;go_ret;exact ⟨rfl,B7.out⟩
abbrev rdA (d:Dv) (fv qv:Value) (M:Nat):Array Value:=#[.string (txt d.nm),.int .i64 d.st,.int .i64 d.es,.int .i64 d.mx,.int .i64 d.sz,.string (txt d.sm),fv,qv,.int .i64 d.po,.int .i64 d.ti,.int .i64 d.re,.int .i64 d.ag,.map (some M)]
structure Fr (B M:Nat) (r:Option Nat) (x y:World):Prop where
 os:y.os=x.os
 tape:y.tape=x.tape
 output:y.output=x.output
 size:x.heap.size≤y.heap.size
 block:∀ k,k < x.heap.size→k ≠ B→k ≠ M→some k ≠ r→y.heap[k]?=x.heap[k]?
theorem Fr.refl (B M:Nat) (r:Option Nat) (x:World):Fr B M r x x:=⟨rfl,rfl,rfl,Nat.le_refl _,fun _ _ _ _ _=>rfl⟩
theorem Fr.of_below {B M:Nat} {r:Option Nat} {x y:World} (h:Below x.heap.size x y):Fr B M r x y:=⟨h.os,h.tape,h.output,h.size,fun k hk _ _ _=>h.block k hk⟩
theorem Fr.of_grown {B M:Nat} {r:Option Nat} {x y:World} (h:x.grownBy y r):Fr B M r x y:=⟨h.os,h.tape,h.output,h.size,fun k hk _ _ hr=>h.block k hk hr⟩
theorem Fr.trans {B M:Nat} {r:Option Nat} {x y z:World} (h:Fr B M r x y) (k:Fr B M r y z):Fr B M r x z:=
 ⟨k.os.trans h.os,k.tape.trans h.tape,k.output.trans h.output,Nat.le_trans h.size k.size,fun j hj hB hM hr=>(k.block j (Nat.lt_of_lt_of_le hj h.size) hB hM hr).trans (h.block j hj hB hM hr)⟩
theorem Fr.set (B M:Nat) (r:Option Nat) (x:World) (i:Nat) (v:Value):Fr B M r x (x.setCell ⟨B,i,none⟩ v):=
 have k:=(Below.refl 0 x).setCell (p:=⟨B,i,none⟩) (Nat.zero_le _) v
 ⟨k.os,k.tape,k.output,k.size,fun k hk hB _ _=>Below.heap_setCell _ _ _ _ (by simpa using hB)⟩
theorem Fr.cell {B M:Nat} {r:Option Nat} {x y:World} (h:Fr B M r x y) {a:Addr} {v:Value} (hc:x.cell? a=some v) (hB:a.block ≠ B) (hM:a.block ≠ M) (hr:some a.block ≠ r):y.cell? a=some v:=by
 rw [World.cell?_of_block (h.block a.block (block_lt_of_cell hc) hB hM hr)]; exact hc
def RqAt (N:Nat) (x:World) (fv qv:Value) (bs:List Nat):Prop:=(qv=.slice none 0 0∧bs=[]) ∨ ∃ g o cap,qv=.slice (some ⟨g,o,none⟩) bs.length cap∧BytesIn x g o bs∧g < x.heap.size∧N≤g∧some g ≠ fv.ownBlock
theorem RqAt.fr {N B M:Nat} {x y:World} {fv fv' qv:Value} {bs:List Nat} (h:RqAt N x fv qv bs) (k:Fr B M fv.ownBlock x y) (hB:B < N) (hM:M < N) (hf:fv'.ownBlock=fv.ownBlock ∨ ∃ g,fv'.ownBlock=some g∧x.heap.size≤g):RqAt N y fv' qv bs:=by
 rcases h with h | ⟨g,o,cap,h1,h2,h3,h4,h5⟩
 · exact .inl h
 · refine .inr ⟨g,o,cap,h1,fun j hj=>k.cell (h2 j hj) (show g ≠ B by omega) (show g ≠ M by omega) h5,Nat.lt_of_lt_of_le h3 k.size,h4,?_⟩;rcases hf with hf | ⟨g',hf,hl⟩
   · rw [hf]; exact h5
   · rw [hf]; intro e; have:=Option.some.inj e; omega
theorem RqAt.bytes {N:Nat} {x:World} {fv qv:Value} {bs:List Nat} (h:RqAt N x fv qv bs):BytesAt x qv bs:=by
 rcases h with h | ⟨g,o,cap,h1,h2,h3,_⟩
 · exact .inl h
 · exact .inr ⟨g,o,cap,h1,h2,h3⟩
structure DsSt (N B M:Nat) (x:World) (d:Dv) (fv qv:Value) (seen:List Wd):Prop where
 sz:N≤x.heap.size
 rd:x.heap[B]?=some (.cells (rdA d fv qv M) 138 (0,0))
 ln:∃ es c,x.heap[M]?=some (.map es c)∧LnOk es seen
 ro:x.ownsRow N 70 9 fv d.fs.length (fdCs d.fs)
 rq:RqAt N x fv qv d.rq
theorem own_ge {x:World} {N:Nat} {e:TypeId} {s:Nat} {v:Value} {n:Nat} {xs:List Value} (h:x.ownsRow N e s v n xs) {k:Nat} (hk:k < N):some k ≠ v.ownBlock:=fun e=>by
 have:=(World.ownsRow.lt h k e.symm).1;omega
theorem DsSt.below {N B M:Nat} {x y:World} {d:Dv} {fv qv:Value} {seen:List Wd} (h:DsSt N B M x d fv qv seen) (hB:B < N) (hM:M < N) (k:Below x.heap.size x y):DsSt N B M y d fv qv seen:=by
 obtain ⟨es,c,h1,h2⟩:=h.ln;exact ⟨Nat.le_trans h.sz k.size,(k.block B (Nat.lt_of_lt_of_le hB h.sz)).trans h.rd,⟨es,c,(k.block M (Nat.lt_of_lt_of_le hM h.sz)).trans h1,h2⟩,ownsRow_below k h.ro,h.rq.fr (.of_below k) hB hM (.inl rfl)⟩
theorem ownsRow_set {x:World} {N B:Nat} (hB:B < N) {e:TypeId} {s:Nat} {fv:Value} {n:Nat} {xs:List Value} (h:x.ownsRow N e s fv n xs) (i:Nat) (v:Value):(x.setCell ⟨B,i,none⟩ v).ownsRow N e s fv n xs:=by
 refine ⟨h.1,?_⟩;rcases h.2 with h | ⟨g,cap,cur,h1,h2,h3,h4⟩
 · exact .inl h
 · refine .inr ⟨g,cap,cur,h1,h2,?_,h4⟩;rw [Below.heap_setCell _ _ _ _ (show g ≠ B by omega)]; exact h3
theorem DsSt.set {N B M:Nat} {x:World} {d d':Dv} {fv qv:Value} {seen:List Wd} (h:DsSt N B M x d fv qv seen) (hB:B < N) (hM:M < N) (hBM:B ≠ M) (i:Nat) (v:Value) (hr:(rdA d fv qv M).setIfInBounds i v=rdA d' fv qv M) (hf:d'.fs=d.fs) (hq:d'.rq=d.rq):DsSt N B M (x.setCell ⟨B,i,none⟩ v) d' fv qv seen:=by
 obtain ⟨es,c,h1,h2⟩:=h.ln;refine ⟨by simpa using h.sz,by rw [rd_set h.rd,hr],⟨es,c,?_,h2⟩,?_,?_⟩
 · rw [Below.heap_setCell _ _ _ _ (show M ≠ B from fun e=>hBM e.symm)]; exact h1
 · rw [hf]; exact ownsRow_set hB h.ro i v
 · rw [hq]; exact h.rq.fr (Fr.set B M _ x i v) hB hM (.inl rfl)
theorem DsSt.setReq {N B M:Nat} {x:World} {d:Dv} {fv qv v:Value} {seen:List Wd} {bs:List Nat} {z:World} (h:DsSt N B M x d fv qv seen) (hB:B < N) (hM:M < N) (hBM:B ≠ M) (hz:Below z.heap.size z x) (hzN:N≤z.heap.size) (ho:z.ownsRow N 70 9 fv d.fs.length (fdCs d.fs)) (hv:BytesAt x v bs) (hfr:FreshV z v):DsSt N B M (x.setCell ⟨B,7,none⟩ v) { d with rq:=bs } fv v seen:=by
 obtain ⟨es,c,h1,h2⟩:=h.ln;refine ⟨by simpa using h.sz,by rw [rd_set h.rd]; rfl,⟨es,c,?_,h2⟩,ownsRow_set hB h.ro 7 v,?_⟩
 · rw [Below.heap_setCell _ _ _ _ (show M ≠ B from fun e=>hBM e.symm)]; exact h1
 · rcases hv with hv | ⟨g,o,cap,rfl,hb,hg⟩
   · exact .inl hv
   · rcases hfr with hfr | ⟨a,n,c',hfr,hge⟩
     · cases hfr
     · injection hfr with e1 e2 e3
       have ea:a=⟨g,o,none⟩:=(Option.some.inj e1).symm;rw [ea] at hge;have hge':z.heap.size≤g:=hge;refine .inr ⟨g,o,cap,rfl,fun j hj=>?_,by simpa using hg,by omega,fun e=>?_⟩
       · rw [World.cell?_setCell_other _ _ _ _ (fun e=>by have:=congrArg Addr.block e; simp at this; omega)];exact hb j hj
       · have:=(World.ownsRow.lt ho g e.symm).2;omega
theorem DsSt.addField {N B M:Nat} {x y:World} {d:Dv} {fv qv:Value} {seen:List Wd} {f:Fd} {g' cap':Nat} (h:DsSt N B M x d fv qv seen) (hB:B < N) (hM:M < N) (hBM:B ≠ M) (ho:y.ownsRow N 70 9 (.slice (some ⟨g',0,none⟩) (d.fs.length + 1) cap') (d.fs.length + 1) (fdCs d.fs ++ fdC f)) (hg:x.grownBy y fv.ownBlock) (hat:fv.ownBlock=some g' ∨ x.heap.size≤g'):DsSt N B M (y.setCell ⟨B,6,none⟩ (.slice (some ⟨g',0,none⟩) (d.fs.length + 1) cap')) { d with fs:=d.fs ++ [f] } (.slice (some ⟨g',0,none⟩) (d.fs.length + 1) cap') qv seen:=by
 obtain ⟨es,c,h1,h2⟩:=h.ln;have hBl:B < x.heap.size:=Nat.lt_of_lt_of_le hB h.sz;have hMl:M < x.heap.size:=Nat.lt_of_lt_of_le hM h.sz;have yB:y.heap[B]?=some (.cells (rdA d fv qv M) 138 (0,0)):=(hg.block B hBl (own_ge h.ro hB)).trans h.rd;refine ⟨?_,by rw [rd_set yB]; rfl,⟨es,c,?_,h2⟩,?_,?_⟩
 · simp only [World.size_setCell]; exact Nat.le_trans h.sz hg.size
 · rw [Below.heap_setCell _ _ _ _ (show M ≠ B from fun e=>hBM e.symm)]; exact (hg.block M hMl (own_ge h.ro hM)).trans h1
 · have e:(d.fs ++ [f]).length=d.fs.length + 1:=by simp
   show World.ownsRow _ _ _ _ _ (d.fs ++ [f]).length (fdCs (d.fs ++ [f]));rw [e,fdCs_snoc];exact ownsRow_set hB ho 6 _
 · exact h.rq.fr ((Fr.of_grown hg).trans (Fr.set B M _ y 6 _)) hB hM (hat.imp (fun e=>by rw [e]; rfl) (fun e=>⟨g',rfl,e⟩))
theorem DsSt.saw {N B M:Nat} {x:World} {d:Dv} {fv qv:Value} {seen:List Wd} (h:DsSt N B M x d fv qv seen) (hB:B < N) (hM:M < N) (hBM:B ≠ M) (f:Wd) {es:Array MapEntry} {c:Nat} (hl:LnOk es (seen ++ [f])):DsSt N B M { x with heap:=x.heap.setIfInBounds M (.map es c) } d fv qv (seen ++ [f]):=by
 have hMl:M < x.heap.size:=Nat.lt_of_lt_of_le hM h.sz;have hk:∀ k,k ≠ M→({ x with heap:=x.heap.setIfInBounds M (.map es c) }:World).heap[k]?=x.heap[k]?:=fun k hk=>by simp [Array.getElem?_setIfInBounds_ne (Ne.symm hk)]
 have fr:Fr B M fv.ownBlock x { x with heap:=x.heap.setIfInBounds M (.map es c) }:=⟨rfl,rfl,rfl,by simp,fun k _ _ hM' _=>hk k hM'⟩;refine ⟨by simpa using h.sz,(hk B hBM).trans h.rd,⟨es,c,by simp [hMl],hl⟩,?_,h.rq.fr fr hB hM (.inl rfl)⟩;refine ⟨h.ro.1,?_⟩;rcases h.ro.2 with q | ⟨g,cap,cur,q1,q2,q3,q4⟩
 · exact .inl q
 · exact .inr ⟨g,cap,cur,q1,q2,(hk g (by omega)).trans q3,q4⟩
end Go.Proofs.YthabffjgdhfbmaaGreatDoor
