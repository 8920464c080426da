/-
  Texts that belong together, one behind the other: DsTake. Conditions: as each says.
-/
import Derived.BigQuiet
import Derived.Deep.CutRange
import Derived.Deep.QuietTactic
import Derived.Lib.QuietBelowIn
import Derived.Maps.AppendAt
import Derived.RangeFuncCalls
import Derived.Sort.BigQuietIn
import Derived.Test.YthabffjgdhfbmaaGreatDoorProg
import Derived.Test.YthabffjgdhfbmaaGreatDoorJm1
import Derived.Test.YthabffjgdhfbmaaGreatDoorJm2
import Derived.Test.YthabffjgdhfbmaaGreatDoorJm3
import Derived.Test.YthabffjgdhfbmaaGreatDoorJm4
import Derived.Test.YthabffjgdhfbmaaGreatDoorJm5
set_option maxRecDepth 100000
set_option maxHeartbeats 32000000
set_option linter.unusedVariables false
namespace Go.Proofs.YthabffjgdhfbmaaGreatDoor
open Go.RowKit
structure MeanOk (N B M:Nat) (x:World) (G:Nat) (ms:Array MapEntry) (c:Nat):Prop where
 at_:x.heap[G]?=some (.map ms c)
 lo:G < N∧G ≠ B∧G ≠ M
 val:∀ (i:Nat) (e:MapEntry),ms[i]?=some e→∃ f,(f ∈ tenK ∨ f=kFie)∧e.key=.string (txt f)∧MnF x N B M f e.val
 has:∀ f,(f ∈ tenK ∨ f=kFie)→∃ (i:Nat) (e:MapEntry),ms[i]?=some e∧e.key=.string (txt f)
 born:(ms.toList.map (·.born)).Nodup
 lt:∀ e ∈ ms.toList,e.born < c
theorem MeanOk.fr {N B M:Nat} {x y:World} {G:Nat} {ms:Array MapEntry} {c:Nat} {r:Option Nat} (h:MeanOk N B M x G ms c) (hf:Fr B M r x y) (hr:∀ j,j < N→some j ≠ r):MeanOk N B M y G ms c:=by
 refine ⟨(hf.block G (Array.getElem?_eq_some_iff.1 h.at_).1 h.lo.2.1 h.lo.2.2 (hr G h.lo.1)).trans h.at_,h.lo,fun i e he=>?_,h.has,h.born,h.lt⟩;obtain ⟨f,h1,h2,h3⟩:=h.val i e he;exact ⟨f,h1,h2,h3.fr hf hr⟩
theorem MeanOk.look {N B M:Nat} {x:World} {G:Nat} {ms:Array MapEntry} {c:Nat} (h:MeanOk N B M x G ms c) (f:Wd):(knownB f=false∧Instr.findNow .string (.string (txt f)) ms.toList 0=some none) ∨ (knownB f=true∧∃ i v,Instr.findNow .string (.string (txt f)) ms.toList 0=some (some (i,v))∧MnF x N B M f v):=by
 rcases find_arr f ms (fun i e he=>by obtain ⟨g,_,h2,_⟩:=h.val i e he; exact ⟨g,h2⟩) with ⟨h1,h2⟩ | ⟨i,e,h1,h2,h3⟩
 · refine .inl ⟨?_,h1⟩;unfold knownB;rw [decide_eq_false_iff_not];intro hk;obtain ⟨i,e,he,hke⟩:=h.has f hk;exact h2 i e he hke
 · obtain ⟨g,hg1,hg2,hg3⟩:=h.val i e h1;have e1:g=f:=by
    rw [h2] at hg2;injection hg2 with hg2
    exact (txt_inj hg2).symm
   subst e1;exact .inr ⟨by unfold knownB; exact decide_eq_true hg1,i,e.val,h3,hg3⟩
def errN (s:Except Nat Dv):Nat:=match s with | .ok _=>0 | .error n=>n
def TakeQ (N B M:Nat) (x:World) (d:Dv) (fv qv:Value) (seen:List Wd) (ws:List Wd) (e:Ending) (y:World):Prop:=
 e=.returned (.int .i64 ((errN (stepM d seen ws):Nat):Int))∧Fr B M fv.ownBlock x y∧∀ d',stepM d seen ws=.ok d'→∃ fv' qv',DsSt N B M y d' fv' qv' (seen ++ [ws.headD []])∧(fv'.ownBlock=fv.ownBlock ∨ ∃ g,fv'.ownBlock=some g∧x.heap.size≤g)
theorem TakeQ.bad {N B M:Nat} {x:World} {d:Dv} {fv qv:Value} {seen:List Wd} {ws:List Wd} {y:World} {n:Nat} (h:stepM d seen ws=.error n) (hf:Fr B M fv.ownBlock x y):TakeQ N B M x d fv qv seen ws (.returned (.int .i64 (n:Int))) y:=
 ⟨by rw [h]; rfl,hf,fun d' hd=>by rw [h] at hd; cases hd⟩
theorem fie_txt:txt kFie=⟨#[102,105,101,108,100]⟩:=rfl
theorem saw_run {N B M:Nat} (hB:B < N) (hM:M < N) (hBM:B ≠ M) {y:World} {d:Dv} {fv qv:Value} {seen:List Wd} (St:DsSt N B M y d fv qv seen) (f:Wd) :
 (Instr.lookup 136 (.map (some M)) (.string (txt f)) false).run Tryz.prog y=.ok (.int .i64 ((seen.count f:Nat):Int)) y∧∃ Y,(Instr.mapUpdate 136 (.map (some M)) (.string (txt f)) (.int .i64 (((seen.count f:Nat):Int) + 1))).run Tryz.prog y=.ok () Y∧DsSt N B M Y d fv qv (seen ++ [f])∧∀ r,Fr B M r y Y:=by
 obtain ⟨es,c,h1,h2⟩:=St.ln;have fr:∀ (o:Obj) r,Fr B M r y { y with heap:=y.heap.setIfInBounds M o }:=fun o r=>⟨rfl,rfl,rfl,by simp,fun k _ _ hM' _=>by simp [Array.getElem?_setIfInBounds_ne (Ne.symm hM')]⟩
 rcases h2.look f with ⟨h3,h4⟩ | ⟨i,e,h3,h4,h5⟩
 · refine ⟨?_,_,ins_none _ 9 3 Tryz.underlying136 Tryz.underlying9 es c (txt f) _ h3 y M h1,?_,fr _⟩
   · rw [h4]; exact look_none _ 9 3 Tryz.underlying136 Tryz.underlying9 y M es c h1 (txt f) (.int .i64 0) (by kernel_rfl) h3
   · rw [h4]; exact St.saw hB hM hBM f (h2.push f h3 h4 c)
 · refine ⟨look_found _ 9 3 Tryz.underlying136 Tryz.underlying9 y M es c h1 (txt f) i _ h5,_,ins_found _ 9 3 Tryz.underlying136 Tryz.underlying9 es c (txt f) _ _ i e h3 h4 h5 y M h1,St.saw hB hM hBM f (h2.turn f h3 h4),fr _⟩
theorem step_nf {d:Dv} {seen:List Wd} {f:Wd} {a:List Wd} (hk:knownB f=true) (hne:¬ f=kFie) (hs:¬ f ∈ seen):stepM d seen (f :: a)=match updM f a with | none=>.error 6 | some u=>.ok (u d):=by
 unfold stepM; simp only [hk]; rw [if_neg (by decide),if_neg (fun c=>hs c.2),if_neg (fun c=>hne c.1)]; cases updM f a <;> rfl
theorem step_f {d:Dv} {seen:List Wd} {a:List Wd} (h8:¬ d.fs.length=8):stepM d seen (kFie :: a)=match updM kFie a with | none=>.error 6 | some u=>.ok (u d):=by
 unfold stepM; simp only [show knownB kFie=true from rfl]; rw [if_neg (by decide),if_neg (fun c=>c.1 rfl),if_neg (fun c=>h8 c.2)]; cases updM kFie a <;> rfl
section
variable {N B M L0:Nat} (hB:B < N) (hM:M < N) (hBM:B ≠ M) (hL:L0≤B) (hLM:L0≤M) {x:World} {d:Dv} {fv qv:Value} {seen:List Wd} (St:DsSt N B M x d fv qv seen) {G:Nat} {ms:Array MapEntry} {mc:Nat} (Mn:MeanOk N B M x G ms mc)
theorem take_empty (p:Option Addr) (c:Nat):Calls Tryz.prog 76 #[.pointer (some ⟨B,0,none⟩),.map (some G),.slice p 0 c] x (TakeQ N B M x d fv qv seen []):=by
 go_enter Tryz.func76,Tryz.ntmps76
 go_wp2;go_ret;exact TakeQ.bad rfl (Fr.refl _ _ _ _)
include Mn
theorem take_unknown (f:Wd) (a:List Wd) (hk:knownB f=false) (hf:Instr.findNow .string (.string (txt f)) ms.toList 0=some none) (g o cap:Nat) (hc:x.cell? ⟨g,o,none⟩=some (.string (txt f))) (hl:(a.length:Int)≤5000) :
 Calls Tryz.prog 76 #[.pointer (some ⟨B,0,none⟩),.map (some G),.slice (some ⟨g,o,none⟩) (a.length + 1) cap] x (TakeQ N B M x d fv qv seen (f :: a)):=by
 have lk:(Instr.lookup 139 (.map (some G)) (.string (txt f)) true).run Tryz.prog x=.ok (.tuple #[.nilFunc,.bool false]) x:=lookup_no _ 9 175 Tryz.underlying139 Tryz.underlying9 x G ms mc Mn.at_ (txt f) .nilFunc (by kernel_rfl) hf;have e6:Hid (stepM d seen (f :: a)=.error 6):=by unfold Hid stepM; simp only [hk]; rfl
 have n0:((a.length:Int) + 1 == 0)=false:=beq_eq_false_iff_ne.2 (by omega);clear Mn hf
 go_enter Tryz.func76,Tryz.ntmps76
 go_wp2;go_ret;exact TakeQ.bad e6.out (Fr.refl _ _ _ _)
include hB hM hBM St
theorem tk_nam_twice (f:Wd) (a:List Wd) (b1:Nat) (hk:knownB f=true) {i:Nat} (hf:Instr.findNow .string (.string (txt f)) ms.toList 0=some (some (i,.func (.func 125) #[] #[.pointer (some ⟨b1,0,none⟩)]))) (hne:¬ f=kFie) (hs:f ∈ seen) (hcn:(seen.count f:Int)≤5000) (g o cap:Nat) (hc:x.cell? ⟨g,o,none⟩=some (.string (txt f))) (hl:(a.length:Int)≤5000) :
 Calls Tryz.prog 76 #[.pointer (some ⟨B,0,none⟩),.map (some G),.slice (some ⟨g,o,none⟩) (a.length + 1) cap] x (TakeQ N B M x d fv qv seen (f :: a)):=by
 have lk:(Instr.lookup 139 (.map (some G)) (.string (txt f)) true).run Tryz.prog x=.ok (.tuple #[.func (.func 125) #[] #[.pointer (some ⟨b1,0,none⟩)],.bool true]) x:=lookup_str _ 9 175 Tryz.underlying139 Tryz.underlying9 x G ms mc Mn.at_ (txt f) i _ hf;have lc:=(saw_run hB hM hBM St f).1;have c12:x.cell? ⟨B,12,none⟩=some (.map (some M)):=(rd_cell St.rd 12).1.trans rfl;have n0:((a.length:Int) + 1 == 0)=false:=beq_eq_false_iff_ne.2 (by omega);have n1:(txt f == ⟨#[102,105,101,108,100]⟩)=false:=by rw [← fie_txt,txt_beq]; exact decide_eq_false hne
 have n2:((txt f).toList == [102,105,101,108,100])=false:=by
  rw [beq_eq_false_iff_ne];intro h;apply hne;rw [ByteArray.toList_eq] at h;exact h
 have e8:Hid (stepM d seen (f :: a)=.error 8):=by unfold Hid stepM; simp only [hk]; rw [if_neg (by decide),if_pos ⟨hne,hs⟩]
 have hpos:0 < (seen.count f:Int):=by have:=List.count_pos_iff.2 hs; omega
 clear Mn hf St hs hk hne;generalize (seen.count f:Nat)=cnt at *
 go_enter Tryz.func76,Tryz.ntmps76
 go_wp2;go_ret;exact TakeQ.bad e8.out (Fr.refl _ _ _ _)
theorem tk_nam_one (f:Wd) (b1:Nat) (hk:knownB f=true) {i:Nat} (hf:Instr.findNow .string (.string (txt f)) ms.toList 0=some (some (i,.func (.func 125) #[] #[.pointer (some ⟨b1,0,none⟩)]))) (hne:¬ f=kFie) (hs:¬ f ∈ seen) (g o:Nat) (hc:x.cell? ⟨g,o,none⟩=some (.string (txt f))) (hcall:Calls Tryz.prog 125 #[.slice (some ⟨g,o,none⟩) 0 0,.pointer (some ⟨b1,0,none⟩)] x (Mean N B M x d fv qv seen (updM f []))) :
 Calls Tryz.prog 76 #[.pointer (some ⟨B,0,none⟩),.map (some G),.slice (some ⟨g,o,none⟩) 1 1] x (TakeQ N B M x d fv qv seen (f :: [])):=by
 have lk:(Instr.lookup 139 (.map (some G)) (.string (txt f)) true).run Tryz.prog x=.ok (.tuple #[.func (.func 125) #[] #[.pointer (some ⟨b1,0,none⟩)],.bool true]) x:=lookup_str _ 9 175 Tryz.underlying139 Tryz.underlying9 x G ms mc Mn.at_ (txt f) i _ hf;have lc:=(saw_run hB hM hBM St f).1;have c12:x.cell? ⟨B,12,none⟩=some (.map (some M)):=(rd_cell St.rd 12).1.trans rfl;have n1:(txt f == ⟨#[102,105,101,108,100]⟩)=false:=by rw [← fie_txt,txt_beq]; exact decide_eq_false hne
 have n2:((txt f).toList == [102,105,101,108,100])=false:=by
  rw [beq_eq_false_iff_ne];intro h;apply hne;rw [ByteArray.toList_eq] at h;exact h
 have hcnt:¬ (0 < (seen.count f:Int)):=by have:=List.count_eq_zero.2 hs; omega
 have wk:IntKind.i64.wrap ((seen.count f:Int) + 1)=(seen.count f:Int) + 1:=by have:=List.count_eq_zero.2 hs; simp only [IntKind.wrap_i64]; omega
 have st:=step_nf (d:=d) (a:=[]) hk hne hs;replace hcall:Hid (Calls Tryz.prog 125 #[.slice (some ⟨g,o,none⟩) 0 0,.pointer (some ⟨b1,0,none⟩)] x (Mean N B M x d fv qv seen (updM f []))):=hcall;have sr:Hid (∀ {y:World} {d':Dv} {fv' qv':Value},DsSt N B M y d' fv' qv' seen→(Instr.lookup 136 (.map (some M)) (.string (txt f)) false).run Tryz.prog y=.ok (.int .i64 ((seen.count f:Nat):Int)) y∧∃ Y,(Instr.mapUpdate 136 (.map (some M)) (.string (txt f)) (.int .i64 (((seen.count f:Nat):Int) + 1))).run Tryz.prog y=.ok () Y∧DsSt N B M Y d' fv' qv' (seen ++ [f])∧∀ r,Fr B M r y Y):=fun h=>saw_run hB hM hBM h f
 generalize hU:updM f []=U at *;replace st:Hid _:=st;clear Mn hf St hs hk hne hU;generalize (seen.count f:Nat)=cnt at *
 go_enter Tryz.func76,Tryz.ntmps76
 go_wp2_with fail
 refine hcall.out.mono ?_;rintro e y ⟨rfl,hfr,hst⟩;clear hcall lk lc c12
 cases U with
 | none=>
  replace hfr:Hid (Fr B M fv.ownBlock x y):=hfr;clear hst;go_wp2;go_ret;exact TakeQ.bad st.out hfr.out
 | some u=>
  obtain ⟨fv',qv',s1,s2⟩:=hst u rfl;obtain ⟨l1,Y,l2,l3,l4⟩:=sr.out s1;have c12:y.cell? ⟨B,12,none⟩=some (.map (some M)):=(rd_cell s1.rd 12).1.trans rfl;have F:Hid (Fr B M fv.ownBlock x Y):=hfr.trans (l4 _);replace l3:Hid (DsSt N B M Y (u d) fv' qv' (seen ++ [f])):=l3;replace s2:Hid (fv'.ownBlock=fv.ownBlock ∨ ∃ g,fv'.ownBlock=some g∧x.heap.size≤g):=s2;clear hst s1 hfr sr l4;go_wp2;go_ret;refine ⟨by rw [st.out]; rfl,F.out,fun d' hd=>?_⟩;rw [st.out] at hd
  cases hd
  exact ⟨fv',qv',l3.out,s2.out⟩
theorem tk_nam_more (f:Wd) (a:List Wd) (b1:Nat) (hk:knownB f=true) {i:Nat} (hf:Instr.findNow .string (.string (txt f)) ms.toList 0=some (some (i,.func (.func 125) #[] #[.pointer (some ⟨b1,0,none⟩)]))) (hne:¬ f=kFie) (hs:¬ f ∈ seen) (g o:Nat) (cap:Nat) (hcap:¬ cap=1) (hcap2:(a.length:Int) + 1≤(cap:Int)) (hc:x.cell? ⟨g,o,none⟩=some (.string (txt f))) (hl:(a.length:Int)≤5000) (hcall:Calls Tryz.prog 125 #[.slice (some ⟨g,o + 1,none⟩) a.length (cap - 1),.pointer (some ⟨b1,0,none⟩)] x (Mean N B M x d fv qv seen (updM f a))) :
 Calls Tryz.prog 76 #[.pointer (some ⟨B,0,none⟩),.map (some G),.slice (some ⟨g,o,none⟩) (a.length + 1) cap] x (TakeQ N B M x d fv qv seen (f :: a)):=by
 have lk:(Instr.lookup 139 (.map (some G)) (.string (txt f)) true).run Tryz.prog x=.ok (.tuple #[.func (.func 125) #[] #[.pointer (some ⟨b1,0,none⟩)],.bool true]) x:=lookup_str _ 9 175 Tryz.underlying139 Tryz.underlying9 x G ms mc Mn.at_ (txt f) i _ hf;have lc:=(saw_run hB hM hBM St f).1;have c12:x.cell? ⟨B,12,none⟩=some (.map (some M)):=(rd_cell St.rd 12).1.trans rfl;have n0:((a.length:Int) + 1 == 0)=false:=beq_eq_false_iff_ne.2 (by omega);have n1:(txt f == ⟨#[102,105,101,108,100]⟩)=false:=by rw [← fie_txt,txt_beq]; exact decide_eq_false hne
 have n2:((txt f).toList == [102,105,101,108,100])=false:=by
  rw [beq_eq_false_iff_ne];intro h;apply hne;rw [ByteArray.toList_eq] at h;exact h
 have hcnt:¬ (0 < (seen.count f:Int)):=by have:=List.count_eq_zero.2 hs; omega
 have wk:IntKind.i64.wrap ((seen.count f:Int) + 1)=(seen.count f:Int) + 1:=by have:=List.count_eq_zero.2 hs; simp only [IntKind.wrap_i64]; omega
 have st:=step_nf (d:=d) (a:=a) hk hne hs;replace hcall:Hid (Calls Tryz.prog 125 #[.slice (some ⟨g,o + 1,none⟩) a.length (cap - 1),.pointer (some ⟨b1,0,none⟩)] x (Mean N B M x d fv qv seen (updM f a))):=hcall;have sr:Hid (∀ {y:World} {d':Dv} {fv' qv':Value},DsSt N B M y d' fv' qv' seen→(Instr.lookup 136 (.map (some M)) (.string (txt f)) false).run Tryz.prog y=.ok (.int .i64 ((seen.count f:Nat):Int)) y∧∃ Y,(Instr.mapUpdate 136 (.map (some M)) (.string (txt f)) (.int .i64 (((seen.count f:Nat):Int) + 1))).run Tryz.prog y=.ok () Y∧DsSt N B M Y d' fv' qv' (seen ++ [f])∧∀ r,Fr B M r y Y):=fun h=>saw_run hB hM hBM h f
 generalize hU:updM f a=U at *;replace st:Hid _:=st;clear Mn hf St hs hk hne hU;generalize (seen.count f:Nat)=cnt at *
 go_enter Tryz.func76,Tryz.ntmps76
 go_wp2_with fail
 refine hcall.out.mono ?_;rintro e y ⟨rfl,hfr,hst⟩;clear hcall lk lc c12
 cases U with
 | none=>
  replace hfr:Hid (Fr B M fv.ownBlock x y):=hfr;clear hst;go_wp2;go_ret;exact TakeQ.bad st.out hfr.out
 | some u=>
  obtain ⟨fv',qv',s1,s2⟩:=hst u rfl;obtain ⟨l1,Y,l2,l3,l4⟩:=sr.out s1;have c12:y.cell? ⟨B,12,none⟩=some (.map (some M)):=(rd_cell s1.rd 12).1.trans rfl;have F:Hid (Fr B M fv.ownBlock x Y):=hfr.trans (l4 _);replace l3:Hid (DsSt N B M Y (u d) fv' qv' (seen ++ [f])):=l3;replace s2:Hid (fv'.ownBlock=fv.ownBlock ∨ ∃ g,fv'.ownBlock=some g∧x.heap.size≤g):=s2;clear hst s1 hfr sr l4;go_wp2;go_ret;refine ⟨by rw [st.out]; rfl,F.out,fun d' hd=>?_⟩;rw [st.out] at hd
  cases hd
  exact ⟨fv',qv',l3.out,s2.out⟩
theorem tk_num_twice (f:Wd) (a:List Wd) (b1 b2 b3:Nat) (hk:knownB f=true) {i:Nat} (hf:Instr.findNow .string (.string (txt f)) ms.toList 0=some (some (i,.func (.func 127) #[] #[.pointer (some ⟨b1,0,none⟩),.pointer (some ⟨b2,0,none⟩),.pointer (some ⟨b3,0,none⟩)]))) (hne:¬ f=kFie) (hs:f ∈ seen) (hcn:(seen.count f:Int)≤5000) (g o cap:Nat) (hc:x.cell? ⟨g,o,none⟩=some (.string (txt f))) (hl:(a.length:Int)≤5000) :
 Calls Tryz.prog 76 #[.pointer (some ⟨B,0,none⟩),.map (some G),.slice (some ⟨g,o,none⟩) (a.length + 1) cap] x (TakeQ N B M x d fv qv seen (f :: a)):=by
 have lk:(Instr.lookup 139 (.map (some G)) (.string (txt f)) true).run Tryz.prog x=.ok (.tuple #[.func (.func 127) #[] #[.pointer (some ⟨b1,0,none⟩),.pointer (some ⟨b2,0,none⟩),.pointer (some ⟨b3,0,none⟩)],.bool true]) x:=lookup_str _ 9 175 Tryz.underlying139 Tryz.underlying9 x G ms mc Mn.at_ (txt f) i _ hf;have lc:=(saw_run hB hM hBM St f).1;have c12:x.cell? ⟨B,12,none⟩=some (.map (some M)):=(rd_cell St.rd 12).1.trans rfl;have n0:((a.length:Int) + 1 == 0)=false:=beq_eq_false_iff_ne.2 (by omega);have n1:(txt f == ⟨#[102,105,101,108,100]⟩)=false:=by rw [← fie_txt,txt_beq]; exact decide_eq_false hne
 have n2:((txt f).toList == [102,105,101,108,100])=false:=by
  rw [beq_eq_false_iff_ne];intro h;apply hne;rw [ByteArray.toList_eq] at h;exact h
 have e8:Hid (stepM d seen (f :: a)=.error 8):=by unfold Hid stepM; simp only [hk]; rw [if_neg (by decide),if_pos ⟨hne,hs⟩]
 have hpos:0 < (seen.count f:Int):=by have:=List.count_pos_iff.2 hs; omega
 clear Mn hf St hs hk hne;generalize (seen.count f:Nat)=cnt at *
 go_enter Tryz.func76,Tryz.ntmps76
 go_wp2;go_ret;exact TakeQ.bad e8.out (Fr.refl _ _ _ _)
theorem tk_num_one (f:Wd) (b1 b2 b3:Nat) (hk:knownB f=true) {i:Nat} (hf:Instr.findNow .string (.string (txt f)) ms.toList 0=some (some (i,.func (.func 127) #[] #[.pointer (some ⟨b1,0,none⟩),.pointer (some ⟨b2,0,none⟩),.pointer (some ⟨b3,0,none⟩)]))) (hne:¬ f=kFie) (hs:¬ f ∈ seen) (g o:Nat) (hc:x.cell? ⟨g,o,none⟩=some (.string (txt f))) (hcall:Calls Tryz.prog 127 #[.slice (some ⟨g,o,none⟩) 0 0,.pointer (some ⟨b1,0,none⟩),.pointer (some ⟨b2,0,none⟩),.pointer (some ⟨b3,0,none⟩)] x (Mean N B M x d fv qv seen (updM f []))) :
 Calls Tryz.prog 76 #[.pointer (some ⟨B,0,none⟩),.map (some G),.slice (some ⟨g,o,none⟩) 1 1] x (TakeQ N B M x d fv qv seen (f :: [])):=by
 have lk:(Instr.lookup 139 (.map (some G)) (.string (txt f)) true).run Tryz.prog x=.ok (.tuple #[.func (.func 127) #[] #[.pointer (some ⟨b1,0,none⟩),.pointer (some ⟨b2,0,none⟩),.pointer (some ⟨b3,0,none⟩)],.bool true]) x:=lookup_str _ 9 175 Tryz.underlying139 Tryz.underlying9 x G ms mc Mn.at_ (txt f) i _ hf;have lc:=(saw_run hB hM hBM St f).1;have c12:x.cell? ⟨B,12,none⟩=some (.map (some M)):=(rd_cell St.rd 12).1.trans rfl;have n1:(txt f == ⟨#[102,105,101,108,100]⟩)=false:=by rw [← fie_txt,txt_beq]; exact decide_eq_false hne
 have n2:((txt f).toList == [102,105,101,108,100])=false:=by
  rw [beq_eq_false_iff_ne];intro h;apply hne;rw [ByteArray.toList_eq] at h;exact h
 have hcnt:¬ (0 < (seen.count f:Int)):=by have:=List.count_eq_zero.2 hs; omega
 have wk:IntKind.i64.wrap ((seen.count f:Int) + 1)=(seen.count f:Int) + 1:=by have:=List.count_eq_zero.2 hs; simp only [IntKind.wrap_i64]; omega
 have st:=step_nf (d:=d) (a:=[]) hk hne hs;replace hcall:Hid (Calls Tryz.prog 127 #[.slice (some ⟨g,o,none⟩) 0 0,.pointer (some ⟨b1,0,none⟩),.pointer (some ⟨b2,0,none⟩),.pointer (some ⟨b3,0,none⟩)] x (Mean N B M x d fv qv seen (updM f []))):=hcall;have sr:Hid (∀ {y:World} {d':Dv} {fv' qv':Value},DsSt N B M y d' fv' qv' seen→(Instr.lookup 136 (.map (some M)) (.string (txt f)) false).run Tryz.prog y=.ok (.int .i64 ((seen.count f:Nat):Int)) y∧∃ Y,(Instr.mapUpdate 136 (.map (some M)) (.string (txt f)) (.int .i64 (((seen.count f:Nat):Int) + 1))).run Tryz.prog y=.ok () Y∧DsSt N B M Y d' fv' qv' (seen ++ [f])∧∀ r,Fr B M r y Y):=fun h=>saw_run hB hM hBM h f
 generalize hU:updM f []=U at *;replace st:Hid _:=st;clear Mn hf St hs hk hne hU;generalize (seen.count f:Nat)=cnt at *
 go_enter Tryz.func76,Tryz.ntmps76
 go_wp2_with fail
 refine hcall.out.mono ?_;rintro e y ⟨rfl,hfr,hst⟩;clear hcall lk lc c12
 cases U with
 | none=>
  replace hfr:Hid (Fr B M fv.ownBlock x y):=hfr;clear hst;go_wp2;go_ret;exact TakeQ.bad st.out hfr.out
 | some u=>
  obtain ⟨fv',qv',s1,s2⟩:=hst u rfl;obtain ⟨l1,Y,l2,l3,l4⟩:=sr.out s1;have c12:y.cell? ⟨B,12,none⟩=some (.map (some M)):=(rd_cell s1.rd 12).1.trans rfl;have F:Hid (Fr B M fv.ownBlock x Y):=hfr.trans (l4 _);replace l3:Hid (DsSt N B M Y (u d) fv' qv' (seen ++ [f])):=l3;replace s2:Hid (fv'.ownBlock=fv.ownBlock ∨ ∃ g,fv'.ownBlock=some g∧x.heap.size≤g):=s2;clear hst s1 hfr sr l4;go_wp2;go_ret;refine ⟨by rw [st.out]; rfl,F.out,fun d' hd=>?_⟩;rw [st.out] at hd
  cases hd
  exact ⟨fv',qv',l3.out,s2.out⟩
theorem tk_num_more (f:Wd) (a:List Wd) (b1 b2 b3:Nat) (hk:knownB f=true) {i:Nat} (hf:Instr.findNow .string (.string (txt f)) ms.toList 0=some (some (i,.func (.func 127) #[] #[.pointer (some ⟨b1,0,none⟩),.pointer (some ⟨b2,0,none⟩),.pointer (some ⟨b3,0,none⟩)]))) (hne:¬ f=kFie) (hs:¬ f ∈ seen) (g o:Nat) (cap:Nat) (hcap:¬ cap=1) (hcap2:(a.length:Int) + 1≤(cap:Int)) (hc:x.cell? ⟨g,o,none⟩=some (.string (txt f))) (hl:(a.length:Int)≤5000) (hcall:Calls Tryz.prog 127 #[.slice (some ⟨g,o + 1,none⟩) a.length (cap - 1),.pointer (some ⟨b1,0,none⟩),.pointer (some ⟨b2,0,none⟩),.pointer (some ⟨b3,0,none⟩)] x (Mean N B M x d fv qv seen (updM f a))) :
 Calls Tryz.prog 76 #[.pointer (some ⟨B,0,none⟩),.map (some G),.slice (some ⟨g,o,none⟩) (a.length + 1) cap] x (TakeQ N B M x d fv qv seen (f :: a)):=by
 have lk:(Instr.lookup 139 (.map (some G)) (.string (txt f)) true).run Tryz.prog x=.ok (.tuple #[.func (.func 127) #[] #[.pointer (some ⟨b1,0,none⟩),.pointer (some ⟨b2,0,none⟩),.pointer (some ⟨b3,0,none⟩)],.bool true]) x:=lookup_str _ 9 175 Tryz.underlying139 Tryz.underlying9 x G ms mc Mn.at_ (txt f) i _ hf;have lc:=(saw_run hB hM hBM St f).1;have c12:x.cell? ⟨B,12,none⟩=some (.map (some M)):=(rd_cell St.rd 12).1.trans rfl;have n0:((a.length:Int) + 1 == 0)=false:=beq_eq_false_iff_ne.2 (by omega);have n1:(txt f == ⟨#[102,105,101,108,100]⟩)=false:=by rw [← fie_txt,txt_beq]; exact decide_eq_false hne
 have n2:((txt f).toList == [102,105,101,108,100])=false:=by
  rw [beq_eq_false_iff_ne];intro h;apply hne;rw [ByteArray.toList_eq] at h;exact h
 have hcnt:¬ (0 < (seen.count f:Int)):=by have:=List.count_eq_zero.2 hs; omega
 have wk:IntKind.i64.wrap ((seen.count f:Int) + 1)=(seen.count f:Int) + 1:=by have:=List.count_eq_zero.2 hs; simp only [IntKind.wrap_i64]; omega
 have st:=step_nf (d:=d) (a:=a) hk hne hs;replace hcall:Hid (Calls Tryz.prog 127 #[.slice (some ⟨g,o + 1,none⟩) a.length (cap - 1),.pointer (some ⟨b1,0,none⟩),.pointer (some ⟨b2,0,none⟩),.pointer (some ⟨b3,0,none⟩)] x (Mean N B M x d fv qv seen (updM f a))):=hcall;have sr:Hid (∀ {y:World} {d':Dv} {fv' qv':Value},DsSt N B M y d' fv' qv' seen→(Instr.lookup 136 (.map (some M)) (.string (txt f)) false).run Tryz.prog y=.ok (.int .i64 ((seen.count f:Nat):Int)) y∧∃ Y,(Instr.mapUpdate 136 (.map (some M)) (.string (txt f)) (.int .i64 (((seen.count f:Nat):Int) + 1))).run Tryz.prog y=.ok () Y∧DsSt N B M Y d' fv' qv' (seen ++ [f])∧∀ r,Fr B M r y Y):=fun h=>saw_run hB hM hBM h f
 generalize hU:updM f a=U at *;replace st:Hid _:=st;clear Mn hf St hs hk hne hU;generalize (seen.count f:Nat)=cnt at *
 go_enter Tryz.func76,Tryz.ntmps76
 go_wp2_with fail
 refine hcall.out.mono ?_;rintro e y ⟨rfl,hfr,hst⟩;clear hcall lk lc c12
 cases U with
 | none=>
  replace hfr:Hid (Fr B M fv.ownBlock x y):=hfr;clear hst;go_wp2;go_ret;exact TakeQ.bad st.out hfr.out
 | some u=>
  obtain ⟨fv',qv',s1,s2⟩:=hst u rfl;obtain ⟨l1,Y,l2,l3,l4⟩:=sr.out s1;have c12:y.cell? ⟨B,12,none⟩=some (.map (some M)):=(rd_cell s1.rd 12).1.trans rfl;have F:Hid (Fr B M fv.ownBlock x Y):=hfr.trans (l4 _);replace l3:Hid (DsSt N B M Y (u d) fv' qv' (seen ++ [f])):=l3;replace s2:Hid (fv'.ownBlock=fv.ownBlock ∨ ∃ g,fv'.ownBlock=some g∧x.heap.size≤g):=s2;clear hst s1 hfr sr l4;go_wp2;go_ret;refine ⟨by rw [st.out]; rfl,F.out,fun d' hd=>?_⟩;rw [st.out] at hd
  cases hd
  exact ⟨fv',qv',l3.out,s2.out⟩
theorem tk_sta_twice (f:Wd) (a:List Wd)  (hk:knownB f=true) {i:Nat} (hf:Instr.findNow .string (.string (txt f)) ms.toList 0=some (some (i,.func (.func 103) #[.pointer (some ⟨B,0,none⟩)] #[]))) (hne:¬ f=kFie) (hs:f ∈ seen) (hcn:(seen.count f:Int)≤5000) (g o cap:Nat) (hc:x.cell? ⟨g,o,none⟩=some (.string (txt f))) (hl:(a.length:Int)≤5000) :
 Calls Tryz.prog 76 #[.pointer (some ⟨B,0,none⟩),.map (some G),.slice (some ⟨g,o,none⟩) (a.length + 1) cap] x (TakeQ N B M x d fv qv seen (f :: a)):=by
 have lk:(Instr.lookup 139 (.map (some G)) (.string (txt f)) true).run Tryz.prog x=.ok (.tuple #[.func (.func 103) #[.pointer (some ⟨B,0,none⟩)] #[],.bool true]) x:=lookup_str _ 9 175 Tryz.underlying139 Tryz.underlying9 x G ms mc Mn.at_ (txt f) i _ hf;have lc:=(saw_run hB hM hBM St f).1;have c12:x.cell? ⟨B,12,none⟩=some (.map (some M)):=(rd_cell St.rd 12).1.trans rfl;have n0:((a.length:Int) + 1 == 0)=false:=beq_eq_false_iff_ne.2 (by omega);have n1:(txt f == ⟨#[102,105,101,108,100]⟩)=false:=by rw [← fie_txt,txt_beq]; exact decide_eq_false hne
 have n2:((txt f).toList == [102,105,101,108,100])=false:=by
  rw [beq_eq_false_iff_ne];intro h;apply hne;rw [ByteArray.toList_eq] at h;exact h
 have e8:Hid (stepM d seen (f :: a)=.error 8):=by unfold Hid stepM; simp only [hk]; rw [if_neg (by decide),if_pos ⟨hne,hs⟩]
 have hpos:0 < (seen.count f:Int):=by have:=List.count_pos_iff.2 hs; omega
 clear Mn hf St hs hk hne;generalize (seen.count f:Nat)=cnt at *
 go_enter Tryz.func76,Tryz.ntmps76
 go_wp2;go_ret;exact TakeQ.bad e8.out (Fr.refl _ _ _ _)
theorem tk_sta_one (f:Wd)  (hk:knownB f=true) {i:Nat} (hf:Instr.findNow .string (.string (txt f)) ms.toList 0=some (some (i,.func (.func 103) #[.pointer (some ⟨B,0,none⟩)] #[]))) (hne:¬ f=kFie) (hs:¬ f ∈ seen) (g o:Nat) (hc:x.cell? ⟨g,o,none⟩=some (.string (txt f))) (hcall:Calls Tryz.prog 103 #[.pointer (some ⟨B,0,none⟩),.slice (some ⟨g,o,none⟩) 0 0] x (Mean N B M x d fv qv seen (updM f []))) :
 Calls Tryz.prog 76 #[.pointer (some ⟨B,0,none⟩),.map (some G),.slice (some ⟨g,o,none⟩) 1 1] x (TakeQ N B M x d fv qv seen (f :: [])):=by
 have lk:(Instr.lookup 139 (.map (some G)) (.string (txt f)) true).run Tryz.prog x=.ok (.tuple #[.func (.func 103) #[.pointer (some ⟨B,0,none⟩)] #[],.bool true]) x:=lookup_str _ 9 175 Tryz.underlying139 Tryz.underlying9 x G ms mc Mn.at_ (txt f) i _ hf;have lc:=(saw_run hB hM hBM St f).1;have c12:x.cell? ⟨B,12,none⟩=some (.map (some M)):=(rd_cell St.rd 12).1.trans rfl;have n1:(txt f == ⟨#[102,105,101,108,100]⟩)=false:=by rw [← fie_txt,txt_beq]; exact decide_eq_false hne
 have n2:((txt f).toList == [102,105,101,108,100])=false:=by
  rw [beq_eq_false_iff_ne];intro h;apply hne;rw [ByteArray.toList_eq] at h;exact h
 have hcnt:¬ (0 < (seen.count f:Int)):=by have:=List.count_eq_zero.2 hs; omega
 have wk:IntKind.i64.wrap ((seen.count f:Int) + 1)=(seen.count f:Int) + 1:=by have:=List.count_eq_zero.2 hs; simp only [IntKind.wrap_i64]; omega
 have st:=step_nf (d:=d) (a:=[]) hk hne hs;replace hcall:Hid (Calls Tryz.prog 103 #[.pointer (some ⟨B,0,none⟩),.slice (some ⟨g,o,none⟩) 0 0] x (Mean N B M x d fv qv seen (updM f []))):=hcall;have sr:Hid (∀ {y:World} {d':Dv} {fv' qv':Value},DsSt N B M y d' fv' qv' seen→(Instr.lookup 136 (.map (some M)) (.string (txt f)) false).run Tryz.prog y=.ok (.int .i64 ((seen.count f:Nat):Int)) y∧∃ Y,(Instr.mapUpdate 136 (.map (some M)) (.string (txt f)) (.int .i64 (((seen.count f:Nat):Int) + 1))).run Tryz.prog y=.ok () Y∧DsSt N B M Y d' fv' qv' (seen ++ [f])∧∀ r,Fr B M r y Y):=fun h=>saw_run hB hM hBM h f
 generalize hU:updM f []=U at *;replace st:Hid _:=st;clear Mn hf St hs hk hne hU;generalize (seen.count f:Nat)=cnt at *
 go_enter Tryz.func76,Tryz.ntmps76
 go_wp2_with fail
 refine hcall.out.mono ?_;rintro e y ⟨rfl,hfr,hst⟩;clear hcall lk lc c12
 cases U with
 | none=>
  replace hfr:Hid (Fr B M fv.ownBlock x y):=hfr;clear hst;go_wp2;go_ret;exact TakeQ.bad st.out hfr.out
 | some u=>
  obtain ⟨fv',qv',s1,s2⟩:=hst u rfl;obtain ⟨l1,Y,l2,l3,l4⟩:=sr.out s1;have c12:y.cell? ⟨B,12,none⟩=some (.map (some M)):=(rd_cell s1.rd 12).1.trans rfl;have F:Hid (Fr B M fv.ownBlock x Y):=hfr.trans (l4 _);replace l3:Hid (DsSt N B M Y (u d) fv' qv' (seen ++ [f])):=l3;replace s2:Hid (fv'.ownBlock=fv.ownBlock ∨ ∃ g,fv'.ownBlock=some g∧x.heap.size≤g):=s2;clear hst s1 hfr sr l4;go_wp2;go_ret;refine ⟨by rw [st.out]; rfl,F.out,fun d' hd=>?_⟩;rw [st.out] at hd
  cases hd
  exact ⟨fv',qv',l3.out,s2.out⟩
theorem tk_sta_more (f:Wd) (a:List Wd)  (hk:knownB f=true) {i:Nat} (hf:Instr.findNow .string (.string (txt f)) ms.toList 0=some (some (i,.func (.func 103) #[.pointer (some ⟨B,0,none⟩)] #[]))) (hne:¬ f=kFie) (hs:¬ f ∈ seen) (g o:Nat) (cap:Nat) (hcap:¬ cap=1) (hcap2:(a.length:Int) + 1≤(cap:Int)) (hc:x.cell? ⟨g,o,none⟩=some (.string (txt f))) (hl:(a.length:Int)≤5000) (hcall:Calls Tryz.prog 103 #[.pointer (some ⟨B,0,none⟩),.slice (some ⟨g,o + 1,none⟩) a.length (cap - 1)] x (Mean N B M x d fv qv seen (updM f a))) :
 Calls Tryz.prog 76 #[.pointer (some ⟨B,0,none⟩),.map (some G),.slice (some ⟨g,o,none⟩) (a.length + 1) cap] x (TakeQ N B M x d fv qv seen (f :: a)):=by
 have lk:(Instr.lookup 139 (.map (some G)) (.string (txt f)) true).run Tryz.prog x=.ok (.tuple #[.func (.func 103) #[.pointer (some ⟨B,0,none⟩)] #[],.bool true]) x:=lookup_str _ 9 175 Tryz.underlying139 Tryz.underlying9 x G ms mc Mn.at_ (txt f) i _ hf;have lc:=(saw_run hB hM hBM St f).1;have c12:x.cell? ⟨B,12,none⟩=some (.map (some M)):=(rd_cell St.rd 12).1.trans rfl;have n0:((a.length:Int) + 1 == 0)=false:=beq_eq_false_iff_ne.2 (by omega);have n1:(txt f == ⟨#[102,105,101,108,100]⟩)=false:=by rw [← fie_txt,txt_beq]; exact decide_eq_false hne
 have n2:((txt f).toList == [102,105,101,108,100])=false:=by
  rw [beq_eq_false_iff_ne];intro h;apply hne;rw [ByteArray.toList_eq] at h;exact h
 have hcnt:¬ (0 < (seen.count f:Int)):=by have:=List.count_eq_zero.2 hs; omega
 have wk:IntKind.i64.wrap ((seen.count f:Int) + 1)=(seen.count f:Int) + 1:=by have:=List.count_eq_zero.2 hs; simp only [IntKind.wrap_i64]; omega
 have st:=step_nf (d:=d) (a:=a) hk hne hs;replace hcall:Hid (Calls Tryz.prog 103 #[.pointer (some ⟨B,0,none⟩),.slice (some ⟨g,o + 1,none⟩) a.length (cap - 1)] x (Mean N B M x d fv qv seen (updM f a))):=hcall;have sr:Hid (∀ {y:World} {d':Dv} {fv' qv':Value},DsSt N B M y d' fv' qv' seen→(Instr.lookup 136 (.map (some M)) (.string (txt f)) false).run Tryz.prog y=.ok (.int .i64 ((seen.count f:Nat):Int)) y∧∃ Y,(Instr.mapUpdate 136 (.map (some M)) (.string (txt f)) (.int .i64 (((seen.count f:Nat):Int) + 1))).run Tryz.prog y=.ok () Y∧DsSt N B M Y d' fv' qv' (seen ++ [f])∧∀ r,Fr B M r y Y):=fun h=>saw_run hB hM hBM h f
 generalize hU:updM f a=U at *;replace st:Hid _:=st;clear Mn hf St hs hk hne hU;generalize (seen.count f:Nat)=cnt at *
 go_enter Tryz.func76,Tryz.ntmps76
 go_wp2_with fail
 refine hcall.out.mono ?_;rintro e y ⟨rfl,hfr,hst⟩;clear hcall lk lc c12
 cases U with
 | none=>
  replace hfr:Hid (Fr B M fv.ownBlock x y):=hfr;clear hst;go_wp2;go_ret;exact TakeQ.bad st.out hfr.out
 | some u=>
  obtain ⟨fv',qv',s1,s2⟩:=hst u rfl;obtain ⟨l1,Y,l2,l3,l4⟩:=sr.out s1;have c12:y.cell? ⟨B,12,none⟩=some (.map (some M)):=(rd_cell s1.rd 12).1.trans rfl;have F:Hid (Fr B M fv.ownBlock x Y):=hfr.trans (l4 _);replace l3:Hid (DsSt N B M Y (u d) fv' qv' (seen ++ [f])):=l3;replace s2:Hid (fv'.ownBlock=fv.ownBlock ∨ ∃ g,fv'.ownBlock=some g∧x.heap.size≤g):=s2;clear hst s1 hfr sr l4;go_wp2;go_ret;refine ⟨by rw [st.out]; rfl,F.out,fun d' hd=>?_⟩;rw [st.out] at hd
  cases hd
  exact ⟨fv',qv',l3.out,s2.out⟩
theorem tk_esc_twice (f:Wd) (a:List Wd)  (hk:knownB f=true) {i:Nat} (hf:Instr.findNow .string (.string (txt f)) ms.toList 0=some (some (i,.func (.func 104) #[.pointer (some ⟨B,0,none⟩)] #[]))) (hne:¬ f=kFie) (hs:f ∈ seen) (hcn:(seen.count f:Int)≤5000) (g o cap:Nat) (hc:x.cell? ⟨g,o,none⟩=some (.string (txt f))) (hl:(a.length:Int)≤5000) :
 Calls Tryz.prog 76 #[.pointer (some ⟨B,0,none⟩),.map (some G),.slice (some ⟨g,o,none⟩) (a.length + 1) cap] x (TakeQ N B M x d fv qv seen (f :: a)):=by
 have lk:(Instr.lookup 139 (.map (some G)) (.string (txt f)) true).run Tryz.prog x=.ok (.tuple #[.func (.func 104) #[.pointer (some ⟨B,0,none⟩)] #[],.bool true]) x:=lookup_str _ 9 175 Tryz.underlying139 Tryz.underlying9 x G ms mc Mn.at_ (txt f) i _ hf;have lc:=(saw_run hB hM hBM St f).1;have c12:x.cell? ⟨B,12,none⟩=some (.map (some M)):=(rd_cell St.rd 12).1.trans rfl;have n0:((a.length:Int) + 1 == 0)=false:=beq_eq_false_iff_ne.2 (by omega);have n1:(txt f == ⟨#[102,105,101,108,100]⟩)=false:=by rw [← fie_txt,txt_beq]; exact decide_eq_false hne
 have n2:((txt f).toList == [102,105,101,108,100])=false:=by
  rw [beq_eq_false_iff_ne];intro h;apply hne;rw [ByteArray.toList_eq] at h;exact h
 have e8:Hid (stepM d seen (f :: a)=.error 8):=by unfold Hid stepM; simp only [hk]; rw [if_neg (by decide),if_pos ⟨hne,hs⟩]
 have hpos:0 < (seen.count f:Int):=by have:=List.count_pos_iff.2 hs; omega
 clear Mn hf St hs hk hne;generalize (seen.count f:Nat)=cnt at *
 go_enter Tryz.func76,Tryz.ntmps76
 go_wp2;go_ret;exact TakeQ.bad e8.out (Fr.refl _ _ _ _)
theorem tk_esc_one (f:Wd)  (hk:knownB f=true) {i:Nat} (hf:Instr.findNow .string (.string (txt f)) ms.toList 0=some (some (i,.func (.func 104) #[.pointer (some ⟨B,0,none⟩)] #[]))) (hne:¬ f=kFie) (hs:¬ f ∈ seen) (g o:Nat) (hc:x.cell? ⟨g,o,none⟩=some (.string (txt f))) (hcall:Calls Tryz.prog 104 #[.pointer (some ⟨B,0,none⟩),.slice (some ⟨g,o,none⟩) 0 0] x (Mean N B M x d fv qv seen (updM f []))) :
 Calls Tryz.prog 76 #[.pointer (some ⟨B,0,none⟩),.map (some G),.slice (some ⟨g,o,none⟩) 1 1] x (TakeQ N B M x d fv qv seen (f :: [])):=by
 have lk:(Instr.lookup 139 (.map (some G)) (.string (txt f)) true).run Tryz.prog x=.ok (.tuple #[.func (.func 104) #[.pointer (some ⟨B,0,none⟩)] #[],.bool true]) x:=lookup_str _ 9 175 Tryz.underlying139 Tryz.underlying9 x G ms mc Mn.at_ (txt f) i _ hf;have lc:=(saw_run hB hM hBM St f).1;have c12:x.cell? ⟨B,12,none⟩=some (.map (some M)):=(rd_cell St.rd 12).1.trans rfl;have n1:(txt f == ⟨#[102,105,101,108,100]⟩)=false:=by rw [← fie_txt,txt_beq]; exact decide_eq_false hne
 have n2:((txt f).toList == [102,105,101,108,100])=false:=by
  rw [beq_eq_false_iff_ne];intro h;apply hne;rw [ByteArray.toList_eq] at h;exact h
 have hcnt:¬ (0 < (seen.count f:Int)):=by have:=List.count_eq_zero.2 hs; omega
 have wk:IntKind.i64.wrap ((seen.count f:Int) + 1)=(seen.count f:Int) + 1:=by have:=List.count_eq_zero.2 hs; simp only [IntKind.wrap_i64]; omega
 have st:=step_nf (d:=d) (a:=[]) hk hne hs;replace hcall:Hid (Calls Tryz.prog 104 #[.pointer (some ⟨B,0,none⟩),.slice (some ⟨g,o,none⟩) 0 0] x (Mean N B M x d fv qv seen (updM f []))):=hcall;have sr:Hid (∀ {y:World} {d':Dv} {fv' qv':Value},DsSt N B M y d' fv' qv' seen→(Instr.lookup 136 (.map (some M)) (.string (txt f)) false).run Tryz.prog y=.ok (.int .i64 ((seen.count f:Nat):Int)) y∧∃ Y,(Instr.mapUpdate 136 (.map (some M)) (.string (txt f)) (.int .i64 (((seen.count f:Nat):Int) + 1))).run Tryz.prog y=.ok () Y∧DsSt N B M Y d' fv' qv' (seen ++ [f])∧∀ r,Fr B M r y Y):=fun h=>saw_run hB hM hBM h f
 generalize hU:updM f []=U at *;replace st:Hid _:=st;clear Mn hf St hs hk hne hU;generalize (seen.count f:Nat)=cnt at *
 go_enter Tryz.func76,Tryz.ntmps76
 go_wp2_with fail
 refine hcall.out.mono ?_;rintro e y ⟨rfl,hfr,hst⟩;clear hcall lk lc c12
 cases U with
 | none=>
  replace hfr:Hid (Fr B M fv.ownBlock x y):=hfr;clear hst;go_wp2;go_ret;exact TakeQ.bad st.out hfr.out
 | some u=>
  obtain ⟨fv',qv',s1,s2⟩:=hst u rfl;obtain ⟨l1,Y,l2,l3,l4⟩:=sr.out s1;have c12:y.cell? ⟨B,12,none⟩=some (.map (some M)):=(rd_cell s1.rd 12).1.trans rfl;have F:Hid (Fr B M fv.ownBlock x Y):=hfr.trans (l4 _);replace l3:Hid (DsSt N B M Y (u d) fv' qv' (seen ++ [f])):=l3;replace s2:Hid (fv'.ownBlock=fv.ownBlock ∨ ∃ g,fv'.ownBlock=some g∧x.heap.size≤g):=s2;clear hst s1 hfr sr l4;go_wp2;go_ret;refine ⟨by rw [st.out]; rfl,F.out,fun d' hd=>?_⟩;rw [st.out] at hd
  cases hd
  exact ⟨fv',qv',l3.out,s2.out⟩
theorem tk_esc_more (f:Wd) (a:List Wd)  (hk:knownB f=true) {i:Nat} (hf:Instr.findNow .string (.string (txt f)) ms.toList 0=some (some (i,.func (.func 104) #[.pointer (some ⟨B,0,none⟩)] #[]))) (hne:¬ f=kFie) (hs:¬ f ∈ seen) (g o:Nat) (cap:Nat) (hcap:¬ cap=1) (hcap2:(a.length:Int) + 1≤(cap:Int)) (hc:x.cell? ⟨g,o,none⟩=some (.string (txt f))) (hl:(a.length:Int)≤5000) (hcall:Calls Tryz.prog 104 #[.pointer (some ⟨B,0,none⟩),.slice (some ⟨g,o + 1,none⟩) a.length (cap - 1)] x (Mean N B M x d fv qv seen (updM f a))) :
 Calls Tryz.prog 76 #[.pointer (some ⟨B,0,none⟩),.map (some G),.slice (some ⟨g,o,none⟩) (a.length + 1) cap] x (TakeQ N B M x d fv qv seen (f :: a)):=by
 have lk:(Instr.lookup 139 (.map (some G)) (.string (txt f)) true).run Tryz.prog x=.ok (.tuple #[.func (.func 104) #[.pointer (some ⟨B,0,none⟩)] #[],.bool true]) x:=lookup_str _ 9 175 Tryz.underlying139 Tryz.underlying9 x G ms mc Mn.at_ (txt f) i _ hf;have lc:=(saw_run hB hM hBM St f).1;have c12:x.cell? ⟨B,12,none⟩=some (.map (some M)):=(rd_cell St.rd 12).1.trans rfl;have n0:((a.length:Int) + 1 == 0)=false:=beq_eq_false_iff_ne.2 (by omega);have n1:(txt f == ⟨#[102,105,101,108,100]⟩)=false:=by rw [← fie_txt,txt_beq]; exact decide_eq_false hne
 have n2:((txt f).toList == [102,105,101,108,100])=false:=by
  rw [beq_eq_false_iff_ne];intro h;apply hne;rw [ByteArray.toList_eq] at h;exact h
 have hcnt:¬ (0 < (seen.count f:Int)):=by have:=List.count_eq_zero.2 hs; omega
 have wk:IntKind.i64.wrap ((seen.count f:Int) + 1)=(seen.count f:Int) + 1:=by have:=List.count_eq_zero.2 hs; simp only [IntKind.wrap_i64]; omega
 have st:=step_nf (d:=d) (a:=a) hk hne hs;replace hcall:Hid (Calls Tryz.prog 104 #[.pointer (some ⟨B,0,none⟩),.slice (some ⟨g,o + 1,none⟩) a.length (cap - 1)] x (Mean N B M x d fv qv seen (updM f a))):=hcall;have sr:Hid (∀ {y:World} {d':Dv} {fv' qv':Value},DsSt N B M y d' fv' qv' seen→(Instr.lookup 136 (.map (some M)) (.string (txt f)) false).run Tryz.prog y=.ok (.int .i64 ((seen.count f:Nat):Int)) y∧∃ Y,(Instr.mapUpdate 136 (.map (some M)) (.string (txt f)) (.int .i64 (((seen.count f:Nat):Int) + 1))).run Tryz.prog y=.ok () Y∧DsSt N B M Y d' fv' qv' (seen ++ [f])∧∀ r,Fr B M r y Y):=fun h=>saw_run hB hM hBM h f
 generalize hU:updM f a=U at *;replace st:Hid _:=st;clear Mn hf St hs hk hne hU;generalize (seen.count f:Nat)=cnt at *
 go_enter Tryz.func76,Tryz.ntmps76
 go_wp2_with fail
 refine hcall.out.mono ?_;rintro e y ⟨rfl,hfr,hst⟩;clear hcall lk lc c12
 cases U with
 | none=>
  replace hfr:Hid (Fr B M fv.ownBlock x y):=hfr;clear hst;go_wp2;go_ret;exact TakeQ.bad st.out hfr.out
 | some u=>
  obtain ⟨fv',qv',s1,s2⟩:=hst u rfl;obtain ⟨l1,Y,l2,l3,l4⟩:=sr.out s1;have c12:y.cell? ⟨B,12,none⟩=some (.map (some M)):=(rd_cell s1.rd 12).1.trans rfl;have F:Hid (Fr B M fv.ownBlock x Y):=hfr.trans (l4 _);replace l3:Hid (DsSt N B M Y (u d) fv' qv' (seen ++ [f])):=l3;replace s2:Hid (fv'.ownBlock=fv.ownBlock ∨ ∃ g,fv'.ownBlock=some g∧x.heap.size≤g):=s2;clear hst s1 hfr sr l4;go_wp2;go_ret;refine ⟨by rw [st.out]; rfl,F.out,fun d' hd=>?_⟩;rw [st.out] at hd
  cases hd
  exact ⟨fv',qv',l3.out,s2.out⟩
theorem tk_req_twice (f:Wd) (a:List Wd)  (hk:knownB f=true) {i:Nat} (hf:Instr.findNow .string (.string (txt f)) ms.toList 0=some (some (i,.func (.func 107) #[.pointer (some ⟨B,0,none⟩)] #[]))) (hne:¬ f=kFie) (hs:f ∈ seen) (hcn:(seen.count f:Int)≤5000) (g o cap:Nat) (hc:x.cell? ⟨g,o,none⟩=some (.string (txt f))) (hl:(a.length:Int)≤5000) :
 Calls Tryz.prog 76 #[.pointer (some ⟨B,0,none⟩),.map (some G),.slice (some ⟨g,o,none⟩) (a.length + 1) cap] x (TakeQ N B M x d fv qv seen (f :: a)):=by
 have lk:(Instr.lookup 139 (.map (some G)) (.string (txt f)) true).run Tryz.prog x=.ok (.tuple #[.func (.func 107) #[.pointer (some ⟨B,0,none⟩)] #[],.bool true]) x:=lookup_str _ 9 175 Tryz.underlying139 Tryz.underlying9 x G ms mc Mn.at_ (txt f) i _ hf;have lc:=(saw_run hB hM hBM St f).1;have c12:x.cell? ⟨B,12,none⟩=some (.map (some M)):=(rd_cell St.rd 12).1.trans rfl;have n0:((a.length:Int) + 1 == 0)=false:=beq_eq_false_iff_ne.2 (by omega);have n1:(txt f == ⟨#[102,105,101,108,100]⟩)=false:=by rw [← fie_txt,txt_beq]; exact decide_eq_false hne
 have n2:((txt f).toList == [102,105,101,108,100])=false:=by
  rw [beq_eq_false_iff_ne];intro h;apply hne;rw [ByteArray.toList_eq] at h;exact h
 have e8:Hid (stepM d seen (f :: a)=.error 8):=by unfold Hid stepM; simp only [hk]; rw [if_neg (by decide),if_pos ⟨hne,hs⟩]
 have hpos:0 < (seen.count f:Int):=by have:=List.count_pos_iff.2 hs; omega
 clear Mn hf St hs hk hne;generalize (seen.count f:Nat)=cnt at *
 go_enter Tryz.func76,Tryz.ntmps76
 go_wp2;go_ret;exact TakeQ.bad e8.out (Fr.refl _ _ _ _)
theorem tk_req_one (f:Wd)  (hk:knownB f=true) {i:Nat} (hf:Instr.findNow .string (.string (txt f)) ms.toList 0=some (some (i,.func (.func 107) #[.pointer (some ⟨B,0,none⟩)] #[]))) (hne:¬ f=kFie) (hs:¬ f ∈ seen) (g o:Nat) (hc:x.cell? ⟨g,o,none⟩=some (.string (txt f))) (hcall:Calls Tryz.prog 107 #[.pointer (some ⟨B,0,none⟩),.slice (some ⟨g,o,none⟩) 0 0] x (Mean N B M x d fv qv seen (updM f []))) :
 Calls Tryz.prog 76 #[.pointer (some ⟨B,0,none⟩),.map (some G),.slice (some ⟨g,o,none⟩) 1 1] x (TakeQ N B M x d fv qv seen (f :: [])):=by
 have lk:(Instr.lookup 139 (.map (some G)) (.string (txt f)) true).run Tryz.prog x=.ok (.tuple #[.func (.func 107) #[.pointer (some ⟨B,0,none⟩)] #[],.bool true]) x:=lookup_str _ 9 175 Tryz.underlying139 Tryz.underlying9 x G ms mc Mn.at_ (txt f) i _ hf;have lc:=(saw_run hB hM hBM St f).1;have c12:x.cell? ⟨B,12,none⟩=some (.map (some M)):=(rd_cell St.rd 12).1.trans rfl;have n1:(txt f == ⟨#[102,105,101,108,100]⟩)=false:=by rw [← fie_txt,txt_beq]; exact decide_eq_false hne
 have n2:((txt f).toList == [102,105,101,108,100])=false:=by
  rw [beq_eq_false_iff_ne];intro h;apply hne;rw [ByteArray.toList_eq] at h;exact h
 have hcnt:¬ (0 < (seen.count f:Int)):=by have:=List.count_eq_zero.2 hs; omega
 have wk:IntKind.i64.wrap ((seen.count f:Int) + 1)=(seen.count f:Int) + 1:=by have:=List.count_eq_zero.2 hs; simp only [IntKind.wrap_i64]; omega
 have st:=step_nf (d:=d) (a:=[]) hk hne hs;replace hcall:Hid (Calls Tryz.prog 107 #[.pointer (some ⟨B,0,none⟩),.slice (some ⟨g,o,none⟩) 0 0] x (Mean N B M x d fv qv seen (updM f []))):=hcall;have sr:Hid (∀ {y:World} {d':Dv} {fv' qv':Value},DsSt N B M y d' fv' qv' seen→(Instr.lookup 136 (.map (some M)) (.string (txt f)) false).run Tryz.prog y=.ok (.int .i64 ((seen.count f:Nat):Int)) y∧∃ Y,(Instr.mapUpdate 136 (.map (some M)) (.string (txt f)) (.int .i64 (((seen.count f:Nat):Int) + 1))).run Tryz.prog y=.ok () Y∧DsSt N B M Y d' fv' qv' (seen ++ [f])∧∀ r,Fr B M r y Y):=fun h=>saw_run hB hM hBM h f
 generalize hU:updM f []=U at *;replace st:Hid _:=st;clear Mn hf St hs hk hne hU;generalize (seen.count f:Nat)=cnt at *
 go_enter Tryz.func76,Tryz.ntmps76
 go_wp2_with fail
 refine hcall.out.mono ?_;rintro e y ⟨rfl,hfr,hst⟩;clear hcall lk lc c12
 cases U with
 | none=>
  replace hfr:Hid (Fr B M fv.ownBlock x y):=hfr;clear hst;go_wp2;go_ret;exact TakeQ.bad st.out hfr.out
 | some u=>
  obtain ⟨fv',qv',s1,s2⟩:=hst u rfl;obtain ⟨l1,Y,l2,l3,l4⟩:=sr.out s1;have c12:y.cell? ⟨B,12,none⟩=some (.map (some M)):=(rd_cell s1.rd 12).1.trans rfl;have F:Hid (Fr B M fv.ownBlock x Y):=hfr.trans (l4 _);replace l3:Hid (DsSt N B M Y (u d) fv' qv' (seen ++ [f])):=l3;replace s2:Hid (fv'.ownBlock=fv.ownBlock ∨ ∃ g,fv'.ownBlock=some g∧x.heap.size≤g):=s2;clear hst s1 hfr sr l4;go_wp2;go_ret;refine ⟨by rw [st.out]; rfl,F.out,fun d' hd=>?_⟩;rw [st.out] at hd
  cases hd
  exact ⟨fv',qv',l3.out,s2.out⟩
theorem tk_req_more (f:Wd) (a:List Wd)  (hk:knownB f=true) {i:Nat} (hf:Instr.findNow .string (.string (txt f)) ms.toList 0=some (some (i,.func (.func 107) #[.pointer (some ⟨B,0,none⟩)] #[]))) (hne:¬ f=kFie) (hs:¬ f ∈ seen) (g o:Nat) (cap:Nat) (hcap:¬ cap=1) (hcap2:(a.length:Int) + 1≤(cap:Int)) (hc:x.cell? ⟨g,o,none⟩=some (.string (txt f))) (hl:(a.length:Int)≤5000) (hcall:Calls Tryz.prog 107 #[.pointer (some ⟨B,0,none⟩),.slice (some ⟨g,o + 1,none⟩) a.length (cap - 1)] x (Mean N B M x d fv qv seen (updM f a))) :
 Calls Tryz.prog 76 #[.pointer (some ⟨B,0,none⟩),.map (some G),.slice (some ⟨g,o,none⟩) (a.length + 1) cap] x (TakeQ N B M x d fv qv seen (f :: a)):=by
 have lk:(Instr.lookup 139 (.map (some G)) (.string (txt f)) true).run Tryz.prog x=.ok (.tuple #[.func (.func 107) #[.pointer (some ⟨B,0,none⟩)] #[],.bool true]) x:=lookup_str _ 9 175 Tryz.underlying139 Tryz.underlying9 x G ms mc Mn.at_ (txt f) i _ hf;have lc:=(saw_run hB hM hBM St f).1;have c12:x.cell? ⟨B,12,none⟩=some (.map (some M)):=(rd_cell St.rd 12).1.trans rfl;have n0:((a.length:Int) + 1 == 0)=false:=beq_eq_false_iff_ne.2 (by omega);have n1:(txt f == ⟨#[102,105,101,108,100]⟩)=false:=by rw [← fie_txt,txt_beq]; exact decide_eq_false hne
 have n2:((txt f).toList == [102,105,101,108,100])=false:=by
  rw [beq_eq_false_iff_ne];intro h;apply hne;rw [ByteArray.toList_eq] at h;exact h
 have hcnt:¬ (0 < (seen.count f:Int)):=by have:=List.count_eq_zero.2 hs; omega
 have wk:IntKind.i64.wrap ((seen.count f:Int) + 1)=(seen.count f:Int) + 1:=by have:=List.count_eq_zero.2 hs; simp only [IntKind.wrap_i64]; omega
 have st:=step_nf (d:=d) (a:=a) hk hne hs;replace hcall:Hid (Calls Tryz.prog 107 #[.pointer (some ⟨B,0,none⟩),.slice (some ⟨g,o + 1,none⟩) a.length (cap - 1)] x (Mean N B M x d fv qv seen (updM f a))):=hcall;have sr:Hid (∀ {y:World} {d':Dv} {fv' qv':Value},DsSt N B M y d' fv' qv' seen→(Instr.lookup 136 (.map (some M)) (.string (txt f)) false).run Tryz.prog y=.ok (.int .i64 ((seen.count f:Nat):Int)) y∧∃ Y,(Instr.mapUpdate 136 (.map (some M)) (.string (txt f)) (.int .i64 (((seen.count f:Nat):Int) + 1))).run Tryz.prog y=.ok () Y∧DsSt N B M Y d' fv' qv' (seen ++ [f])∧∀ r,Fr B M r y Y):=fun h=>saw_run hB hM hBM h f
 generalize hU:updM f a=U at *;replace st:Hid _:=st;clear Mn hf St hs hk hne hU;generalize (seen.count f:Nat)=cnt at *
 go_enter Tryz.func76,Tryz.ntmps76
 go_wp2_with fail
 refine hcall.out.mono ?_;rintro e y ⟨rfl,hfr,hst⟩;clear hcall lk lc c12
 cases U with
 | none=>
  replace hfr:Hid (Fr B M fv.ownBlock x y):=hfr;clear hst;go_wp2;go_ret;exact TakeQ.bad st.out hfr.out
 | some u=>
  obtain ⟨fv',qv',s1,s2⟩:=hst u rfl;obtain ⟨l1,Y,l2,l3,l4⟩:=sr.out s1;have c12:y.cell? ⟨B,12,none⟩=some (.map (some M)):=(rd_cell s1.rd 12).1.trans rfl;have F:Hid (Fr B M fv.ownBlock x Y):=hfr.trans (l4 _);replace l3:Hid (DsSt N B M Y (u d) fv' qv' (seen ++ [f])):=l3;replace s2:Hid (fv'.ownBlock=fv.ownBlock ∨ ∃ g,fv'.ownBlock=some g∧x.heap.size≤g):=s2;clear hst s1 hfr sr l4;go_wp2;go_ret;refine ⟨by rw [st.out]; rfl,F.out,fun d' hd=>?_⟩;rw [st.out] at hd
  cases hd
  exact ⟨fv',qv',l3.out,s2.out⟩
theorem tk_fie_full (a:List Wd) {i:Nat} (hf:Instr.findNow .string (.string (txt kFie)) ms.toList 0=some (some (i,.func (.func 106) #[.pointer (some ⟨B,0,none⟩)] #[]))) (h8:d.fs.length=8) (hcn:seen.count kFie=d.fs.length) (g o cap:Nat) (hc:x.cell? ⟨g,o,none⟩=some (.string (txt kFie))) (hl:(a.length:Int)≤5000) :
 Calls Tryz.prog 76 #[.pointer (some ⟨B,0,none⟩),.map (some G),.slice (some ⟨g,o,none⟩) (a.length + 1) cap] x (TakeQ N B M x d fv qv seen (kFie :: a)):=by
 have lk:(Instr.lookup 139 (.map (some G)) (.string ⟨#[102,105,101,108,100]⟩) true).run Tryz.prog x=.ok (.tuple #[.func (.func 106) #[.pointer (some ⟨B,0,none⟩)] #[],.bool true]) x:=lookup_str _ 9 175 Tryz.underlying139 Tryz.underlying9 x G ms mc Mn.at_ (txt kFie) i _ hf;have lc:(Instr.lookup 136 (.map (some M)) (.string ⟨#[102,105,101,108,100]⟩) false).run Tryz.prog x=.ok (.int .i64 ((seen.count kFie:Nat):Int)) x:=(saw_run hB hM hBM St kFie).1;have c12:x.cell? ⟨B,12,none⟩=some (.map (some M)):=(rd_cell St.rd 12).1.trans rfl;replace hc:x.cell? ⟨g,o,none⟩=some (.string ⟨#[102,105,101,108,100]⟩):=hc;have n0:((a.length:Int) + 1 == 0)=false:=beq_eq_false_iff_ne.2 (by omega);have e7:Hid (stepM d seen (kFie :: a)=.error 7):=by unfold Hid stepM; simp only [show knownB kFie=true from rfl]; rw [if_neg (by decide),if_neg (by simp),if_pos (by simp [h8])]
 rw [hcn,h8] at lc;clear Mn hf St
 go_enter Tryz.func76,Tryz.ntmps76
 go_wp2;go_ret;exact TakeQ.bad e7.out (Fr.refl _ _ _ _)
theorem tk_fie_one {i:Nat} (hf:Instr.findNow .string (.string (txt kFie)) ms.toList 0=some (some (i,.func (.func 106) #[.pointer (some ⟨B,0,none⟩)] #[]))) (h8:d.fs.length < 8) (hcn:seen.count kFie=d.fs.length) (g o:Nat) (hc:x.cell? ⟨g,o,none⟩=some (.string (txt kFie))) (hcall:Calls Tryz.prog 106 #[.pointer (some ⟨B,0,none⟩),.slice (some ⟨g,o,none⟩) 0 0] x (Mean N B M x d fv qv seen (updM kFie []))) :
 Calls Tryz.prog 76 #[.pointer (some ⟨B,0,none⟩),.map (some G),.slice (some ⟨g,o,none⟩) 1 1] x (TakeQ N B M x d fv qv seen (kFie :: [])):=by
 have lk:(Instr.lookup 139 (.map (some G)) (.string ⟨#[102,105,101,108,100]⟩) true).run Tryz.prog x=.ok (.tuple #[.func (.func 106) #[.pointer (some ⟨B,0,none⟩)] #[],.bool true]) x:=lookup_str _ 9 175 Tryz.underlying139 Tryz.underlying9 x G ms mc Mn.at_ (txt kFie) i _ hf;have lc:(Instr.lookup 136 (.map (some M)) (.string ⟨#[102,105,101,108,100]⟩) false).run Tryz.prog x=.ok (.int .i64 ((seen.count kFie:Nat):Int)) x:=(saw_run hB hM hBM St kFie).1;have c12:x.cell? ⟨B,12,none⟩=some (.map (some M)):=(rd_cell St.rd 12).1.trans rfl;replace hc:x.cell? ⟨g,o,none⟩=some (.string ⟨#[102,105,101,108,100]⟩):=hc;have ne8:((seen.count kFie:Int) == 8)=false:=beq_eq_false_iff_ne.2 (by omega);have wk:IntKind.i64.wrap ((seen.count kFie:Int) + 1)=(seen.count kFie:Int) + 1:=by simp only [IntKind.wrap_i64]; omega
 have st:=step_f (d:=d) (seen:=seen) (a:=[]) (by omega);replace hcall:Hid (Calls Tryz.prog 106 #[.pointer (some ⟨B,0,none⟩),.slice (some ⟨g,o,none⟩) 0 0] x (Mean N B M x d fv qv seen (updM kFie []))):=hcall;have sr:Hid (∀ {y:World} {d':Dv} {fv' qv':Value},DsSt N B M y d' fv' qv' seen→(Instr.lookup 136 (.map (some M)) (.string ⟨#[102,105,101,108,100]⟩) false).run Tryz.prog y=.ok (.int .i64 ((seen.count kFie:Nat):Int)) y∧∃ Y,(Instr.mapUpdate 136 (.map (some M)) (.string ⟨#[102,105,101,108,100]⟩) (.int .i64 (((seen.count kFie:Nat):Int) + 1))).run Tryz.prog y=.ok () Y∧DsSt N B M Y d' fv' qv' (seen ++ [kFie])∧∀ r,Fr B M r y Y):=fun h=>saw_run hB hM hBM h kFie
 generalize hU:updM kFie []=U at *;replace st:Hid _:=st;clear Mn hf St hU hcn;generalize (seen.count kFie:Nat)=cnt at *
 go_enter Tryz.func76,Tryz.ntmps76
 go_wp2_with fail
 refine hcall.out.mono ?_;rintro e y ⟨rfl,hfr,hst⟩;clear hcall lk lc c12
 cases U with
 | none=>
  replace hfr:Hid (Fr B M fv.ownBlock x y):=hfr;clear hst;go_wp2;go_ret;exact TakeQ.bad st.out hfr.out
 | some u=>
  obtain ⟨fv',qv',s1,s2⟩:=hst u rfl;obtain ⟨l1,Y,l2,l3,l4⟩:=sr.out s1;have c12:y.cell? ⟨B,12,none⟩=some (.map (some M)):=(rd_cell s1.rd 12).1.trans rfl;have F:Hid (Fr B M fv.ownBlock x Y):=hfr.trans (l4 _);replace l3:Hid (DsSt N B M Y (u d) fv' qv' (seen ++ [kFie])):=l3;replace s2:Hid (fv'.ownBlock=fv.ownBlock ∨ ∃ g,fv'.ownBlock=some g∧x.heap.size≤g):=s2;clear hst s1 hfr sr l4;go_wp2;go_ret;refine ⟨by rw [st.out]; rfl,F.out,fun d' hd=>?_⟩;rw [st.out] at hd
  cases hd
  exact ⟨fv',qv',l3.out,s2.out⟩
theorem tk_fie_more (a:List Wd) {i:Nat} (hf:Instr.findNow .string (.string (txt kFie)) ms.toList 0=some (some (i,.func (.func 106) #[.pointer (some ⟨B,0,none⟩)] #[]))) (h8:d.fs.length < 8) (hcn:seen.count kFie=d.fs.length) (g o:Nat) (cap:Nat) (hcap:¬ cap=1) (hcap2:(a.length:Int) + 1≤(cap:Int)) (hc:x.cell? ⟨g,o,none⟩=some (.string (txt kFie))) (hl:(a.length:Int)≤5000) (hcall:Calls Tryz.prog 106 #[.pointer (some ⟨B,0,none⟩),.slice (some ⟨g,o + 1,none⟩) a.length (cap - 1)] x (Mean N B M x d fv qv seen (updM kFie a))) :
 Calls Tryz.prog 76 #[.pointer (some ⟨B,0,none⟩),.map (some G),.slice (some ⟨g,o,none⟩) (a.length + 1) cap] x (TakeQ N B M x d fv qv seen (kFie :: a)):=by
 have lk:(Instr.lookup 139 (.map (some G)) (.string ⟨#[102,105,101,108,100]⟩) true).run Tryz.prog x=.ok (.tuple #[.func (.func 106) #[.pointer (some ⟨B,0,none⟩)] #[],.bool true]) x:=lookup_str _ 9 175 Tryz.underlying139 Tryz.underlying9 x G ms mc Mn.at_ (txt kFie) i _ hf;have lc:(Instr.lookup 136 (.map (some M)) (.string ⟨#[102,105,101,108,100]⟩) false).run Tryz.prog x=.ok (.int .i64 ((seen.count kFie:Nat):Int)) x:=(saw_run hB hM hBM St kFie).1;have c12:x.cell? ⟨B,12,none⟩=some (.map (some M)):=(rd_cell St.rd 12).1.trans rfl;replace hc:x.cell? ⟨g,o,none⟩=some (.string ⟨#[102,105,101,108,100]⟩):=hc;have n0:((a.length:Int) + 1 == 0)=false:=beq_eq_false_iff_ne.2 (by omega);have ne8:((seen.count kFie:Int) == 8)=false:=beq_eq_false_iff_ne.2 (by omega);have wk:IntKind.i64.wrap ((seen.count kFie:Int) + 1)=(seen.count kFie:Int) + 1:=by simp only [IntKind.wrap_i64]; omega
 have st:=step_f (d:=d) (seen:=seen) (a:=a) (by omega);replace hcall:Hid (Calls Tryz.prog 106 #[.pointer (some ⟨B,0,none⟩),.slice (some ⟨g,o + 1,none⟩) a.length (cap - 1)] x (Mean N B M x d fv qv seen (updM kFie a))):=hcall;have sr:Hid (∀ {y:World} {d':Dv} {fv' qv':Value},DsSt N B M y d' fv' qv' seen→(Instr.lookup 136 (.map (some M)) (.string ⟨#[102,105,101,108,100]⟩) false).run Tryz.prog y=.ok (.int .i64 ((seen.count kFie:Nat):Int)) y∧∃ Y,(Instr.mapUpdate 136 (.map (some M)) (.string ⟨#[102,105,101,108,100]⟩) (.int .i64 (((seen.count kFie:Nat):Int) + 1))).run Tryz.prog y=.ok () Y∧DsSt N B M Y d' fv' qv' (seen ++ [kFie])∧∀ r,Fr B M r y Y):=fun h=>saw_run hB hM hBM h kFie
 generalize hU:updM kFie a=U at *;replace st:Hid _:=st;clear Mn hf St hU hcn;generalize (seen.count kFie:Nat)=cnt at *
 go_enter Tryz.func76,Tryz.ntmps76
 go_wp2_with fail
 refine hcall.out.mono ?_;rintro e y ⟨rfl,hfr,hst⟩;clear hcall lk lc c12
 cases U with
 | none=>
  replace hfr:Hid (Fr B M fv.ownBlock x y):=hfr;clear hst;go_wp2;go_ret;exact TakeQ.bad st.out hfr.out
 | some u=>
  obtain ⟨fv',qv',s1,s2⟩:=hst u rfl;obtain ⟨l1,Y,l2,l3,l4⟩:=sr.out s1;have c12:y.cell? ⟨B,12,none⟩=some (.map (some M)):=(rd_cell s1.rd 12).1.trans rfl;have F:Hid (Fr B M fv.ownBlock x Y):=hfr.trans (l4 _);replace l3:Hid (DsSt N B M Y (u d) fv' qv' (seen ++ [kFie])):=l3;replace s2:Hid (fv'.ownBlock=fv.ownBlock ∨ ∃ g,fv'.ownBlock=some g∧x.heap.size≤g):=s2;clear hst s1 hfr sr l4;go_wp2;go_ret;refine ⟨by rw [st.out]; rfl,F.out,fun d' hd=>?_⟩;rw [st.out] at hd
  cases hd
  exact ⟨fv',qv',l3.out,s2.out⟩
end
end Go.Proofs.YthabffjgdhfbmaaGreatDoor
