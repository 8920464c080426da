/-
  Texts that belong together, one behind the other: ShTk, ShAlM, ShBlK, PlainR, DsSame0, ShLsK, DsSame, ShDn, ShAlK. Conditions: as each says.
-/
import Derived.BigQuiet
import Derived.ChangeOld
import Derived.Deep.CutRange
import Derived.Deep.QuietTactic
import Derived.Deep.RegionHeld3
import Derived.Laws.BitsAllLaws
import Derived.Laws.OwnMore
import Derived.Laws.Shifts
import Derived.Lib.QuietBelow
import Derived.Lib.QuietBelowIn
import Derived.Maps.AppendAt
import Derived.OpenShut
import Derived.ProofKit
import Derived.RangeFuncCalls
import Derived.Shelf.Strings.BuilderK
import Derived.ShutString
import Derived.Sort.BigQuietIn
import Derived.Test.YthabffjgdhfbmaaGreatDoorProg
import Derived.Test.YthabffjgdhfbmaaGreatDoorJm1
import Derived.Test.YthabffjgdhfbmaaGreatDoorJm2
import Derived.Test.YthabffjgdhfbmaaGreatDoorJm3
import Derived.Test.YthabffjgdhfbmaaGreatDoorJm4
import Derived.Test.YthabffjgdhfbmaaGreatDoorJm5
import Derived.Test.YthabffjgdhfbmaaGreatDoorJm6
import Derived.Test.YthabffjgdhfbmaaGreatDoorJm7
import Derived.Test.YthabffjgdhfbmaaGreatDoorJm8
import Derived.Test.YthabffjgdhfbmaaGreatDoorJm9
import Derived.Test.YthabffjgdhfbmaaGreatDoorJm10
import Derived.Test.YthabffjgdhfbmaaGreatDoorJm11
import Derived.Test.YthabffjgdhfbmaaGreatDoorJm12
import Derived.Test.YthabffjgdhfbmaaGreatDoorJm13
import Derived.Test.YthabffjgdhfbmaaGreatDoorJm14
import Derived.Test.YthabffjgdhfbmaaGreatDoorJm15
import Derived.Test.YthabffjgdhfbmaaGreatDoorJm16
import Derived.Test.YthabffjgdhfbmaaGreatDoorJm17
import Derived.Test.YthabffjgdhfbmaaGreatDoorJm18
set_option maxRecDepth 100000
set_option maxHeartbeats 32000000
set_option linter.unusedVariables false
namespace Go.Proofs.YthabffjgdhfbmaaGreatDoor
open Go.RowKit
structure NmOk (es:Array MapEntry) (ns:List Wd):Prop where
 key:∀ (i:Nat) (e:MapEntry),es[i]?=some e→∃ f:Wd,e.key=.string (txt f)∧f ∈ ns∧e.val=.agg #[]
 has:∀ f ∈ ns,∃ (i:Nat) (e:MapEntry),es[i]?=some e∧e.key=.string (txt f)
theorem NmOk.first:NmOk #[] []:=⟨fun i e h=>(by simp at h),fun f h=>(by cases h)⟩
theorem NmOk.look {es:Array MapEntry} {ns:List Wd} (h:NmOk es ns) (f:Wd):(Instr.findNow .string (.string (txt f)) es.toList 0=some none∧f ∉ ns) ∨ ∃ i,Instr.findNow .string (.string (txt f)) es.toList 0=some (some (i,.agg #[]))∧f ∈ ns:=by
 rcases find_arr f es (fun i e he=>by obtain ⟨f,h1,_⟩:=h.key i e he; exact ⟨f,h1⟩) with ⟨h1,h2⟩ | ⟨i,e,h1,h2,h3⟩
 · refine .inl ⟨h1,fun hm=>?_⟩;obtain ⟨i,e,he,hk⟩:=h.has f hm;exact h2 i e he hk
 · obtain ⟨f',h4,h5,h6⟩:=h.key i e h1;have:f'=f:=by
    rw [h2] at h4;injection h4 with h4
    exact (txt_inj h4).symm
   subst this;exact .inr ⟨i,by rw [h3,h6],h5⟩
theorem NmOk.push {es:Array MapEntry} {ns:List Wd} (h:NmOk es ns) (f:Wd) (c:Nat):NmOk (es.push { key:=.string (txt f),val:=.agg #[],born:=c }) (ns ++ [f]):=by
 refine ⟨fun i e he=>?_,fun q hq=>?_⟩
 · rw [Array.getElem?_push] at he
   split at he
   · obtain rfl:=Option.some.inj he;exact ⟨f,rfl,by simp,rfl⟩
   · obtain ⟨q,h1,h2,h3⟩:=h.key i e he;exact ⟨q,h1,by simp [h2],h3⟩
 · rcases List.mem_append.1 hq with hq | hq
   · obtain ⟨i,e,he,hk⟩:=h.has q hq;refine ⟨i,e,?_,hk⟩;have hlt:=(Array.getElem?_eq_some_iff.1 he).1;rw [Array.getElem?_push,if_neg (by omega)]; exact he
   · obtain rfl:=List.mem_singleton.1 hq;exact ⟨es.size,_,by rw [Array.getElem?_push,if_pos rfl],rfl⟩
def NmAt (x:World) (g:Nat) (ns:List Wd):Prop:=∃ es c,x.heap[g]?=some (.map es c)∧NmOk es ns
theorem NmAt.lt {x:World} {g:Nat} {ns:List Wd} (h:NmAt x g ns):g < x.heap.size:=by obtain ⟨es,c,h1,_⟩:=h; exact (Array.getElem?_eq_some_iff.1 h1).1
theorem NmAt.kept {x y:World} {g:Nat} {ns:List Wd} (h:NmAt x g ns) (hb:y.heap[g]?=x.heap[g]?):NmAt y g ns:=by obtain ⟨es,c,h1,h2⟩:=h; exact ⟨es,c,hb.trans h1,h2⟩
theorem NmAt.below {x y:World} {g:Nat} {ns:List Wd} (h:NmAt x g ns) (hb:Below x.heap.size x y):NmAt y g ns:=h.kept (hb.block _ h.lt)
def tkE (ns:List Wd) (d:Dv):Nat:=if cN d=0 then (if d.nm ∈ ns then 8 else 0) else cN d
theorem grown_below {a b:World} (h:Below a.heap.size a b) (row:Option Nat):a.grownBy b row:=⟨h.os,h.tape,h.output,h.size,fun k hk _=>h.block k hk⟩
def TkQ (w:World) (g:Nat) (ns:List Wd) (d:Dv) (e:Ending) (y:World):Prop:=
 e=.returned (.int .i64 ((tkE ns d:Nat):Int))∧w.grownBy y (some g)∧(tkE ns d=0→NmAt y g (ns ++ [d.nm]))∧(tkE ns d ≠ 0→NmAt y g ns)
theorem TkQ.bad {w y:World} {g:Nat} {ns:List Wd} {d:Dv} {T:Int} (hN:NmAt w g ns) (hT:((tkE ns d:Nat):Int)=T) (h0:¬ T=0) (hb:Below w.heap.size w y):TkQ w g ns d (.returned (.int .i64 T)) y:=
 ⟨by rw [hT],grown_below hb _,fun h=>absurd (by rw [← hT,h]; rfl) h0,fun _=>hN.below hb⟩
theorem ntake_any (d:Dv) (fv qv:Value) (w:World) (g:Nat) (ns:List Wd) (hi:DvI d) (hq:∃ p c,qv=.slice p d.rq.length c) (hf:FldsV w fv d.fs) (hN:NmAt w g ns) :
 Calls Tryz.prog 34 #[.map (some g),dvV d fv qv] w (TkQ w g ns d):=by
 have ck:Hid (ShCkC w d fv qv (ckE d)):=shCkC hi hq hf;obtain ⟨pf,cf,rfl⟩:=hf.form;obtain ⟨pq,cq,rfl⟩:=hq;have gl:=hN.lt;generalize d.fs.length=nf at *;generalize d.rq.length=nq at *;have B0:Hid (Below w.heap.size w (w.alloc (.cells #[.string (txt d.nm),.int .i64 d.st,.int .i64 d.es,.int .i64 d.mx,.int .i64 d.sz,.string (txt d.sm),.slice pf nf cf,.slice pq nq cq,.int .i64 d.po,.int .i64 d.ti,.int .i64 d.re,.int .i64 d.ag] 33))):=(Below.refl _ _).alloc (Nat.le_refl _) _;have D0:(w.alloc (.cells #[.string (txt d.nm),.int .i64 d.st,.int .i64 d.es,.int .i64 d.mx,.int .i64 d.sz,.string (txt d.sm),.slice pf nf cf,.slice pq nq cq,.int .i64 d.po,.int .i64 d.ti,.int .i64 d.re,.int .i64 d.ag] 33)).heap[w.heap.size]?=some (.cells #[.string (txt d.nm),.int .i64 d.st,.int .i64 d.es,.int .i64 d.mx,.int .i64 d.sz,.string (txt d.sm),.slice pf nf cf,.slice pq nq cq,.int .i64 d.po,.int .i64 d.ti,.int .i64 d.re,.int .i64 d.ag] 33 (0,0)):=World.alloc_heap_new w _;have b0:=(Array.getElem?_eq_some_iff.1 D0).1;replace hN:Hid (NmAt w g ns):=hN;clear hi hf
 go_enter Tryz.func34,Tryz.ntmps34
 go_upto_region 1 with fail
 change Code.wp Tryz.prog _ _ _ (w.alloc (.cells #[.string (txt d.nm),.int .i64 d.st,.int .i64 d.es,.int .i64 d.mx,.int .i64 d.sz,.string (txt d.sm),.slice pf nf cf,.slice pq nq cq,.int .i64 d.po,.int .i64 d.ti,.int .i64 d.re,.int .i64 d.ag] 33));generalize w.alloc (.cells #[.string (txt d.nm),.int .i64 d.st,.int .i64 d.es,.int .i64 d.mx,.int .i64 d.sz,.string (txt d.sm),.slice pf nf cf,.slice pq nq cq,.int .i64 d.po,.int .i64 d.ti,.int .i64 d.re,.int .i64 d.ag] 33)=w0 at *;obtain ⟨c0,f0,c1,f1,c2,f2,c3,f3,c4,f4,c5,f5,c6,f6,c7,f7,c8,f8,c9,f9,c10,f10,c11,f11⟩:=rd12 D0
 go_wp2_with fail
 refine (ck.out w0 B0.out).mono ?_;rintro e y ⟨rfl,hb⟩;have DY:=(hb.block _ b0).trans D0;have BY:Hid (Below w.heap.size w y):=B0.out.trans (hb.mono B0.out.size);have NY:NmAt y g ns:=hN.out.below BY.out;obtain ⟨y0,yf⟩:=rd_cell DY 0;simp only [List.getElem?_toArray,List.getElem?_cons_zero] at y0;clear ck B0 c0 c1 c2 c3 c4 c5 c6 c7 c8 c9 c10 c11 f0 f1 f2 f3 f4 f5 f6 f7 f8 f9 f10 f11 hb D0 DY
 by_cases h0:ckE d=0
 · have hc:cN d=0:=cN_0.2 h0;rw [h0];have NY0:=NY.lt;obtain ⟨es,c,h1,h2⟩:=NY;have ins:Hid (∀ (z:World),z.heap[g]?=some (.map es c)→Instr.findNow .string (.string (txt d.nm)) es.toList 0=some none→(Instr.mapUpdate 84 (.map (some g)) (.string (txt d.nm)) (.agg #[])).run Tryz.prog z=.ok () { z with heap:=z.heap.setIfInBounds g (.map (es.push { key:=.string (txt d.nm),val:=.agg #[],born:=c }) (c + 1)) }):=
    fun z hz hf=>ins_none _ 9 126 Tryz.underlying84 Tryz.underlying9 es c (txt d.nm) _ hf z g hz
   rcases h2.look d.nm with ⟨h3,h4⟩ | ⟨i,h3,h4⟩
   · have hT:tkE ns d=0:=by unfold tkE; rw [if_pos hc,if_neg h4]
     have lk:(Instr.lookup 84 (.map (some g)) (.string (txt d.nm)) true).run Tryz.prog y=.ok (.tuple #[.agg #[],.bool false]) y:=lookup_no _ 9 126 Tryz.underlying84 Tryz.underlying9 y g es c h1 (txt d.nm) (.agg #[]) (by kernel_rfl) h3;have up:=ins.out (y.alloc (.cells #[] 126)) ((Below.heap_alloc _ _ _ NY0).trans h1) h3;have y1:(y.alloc (.cells #[] 126)).cell? ⟨w.heap.size,0,none⟩=some (.string (txt d.nm)):=(World.cell?_alloc_lt _ _ _ (World.block_lt_of_cell? y ⟨w.heap.size,0,none⟩ y0)).trans y0;have yg:Hid (w.grownBy { y.alloc (.cells #[] 126) with heap:=(y.alloc (.cells #[] 126)).heap.setIfInBounds g (.map (es.push { key:=.string (txt d.nm),val:=.agg #[],born:=c }) (c + 1)) } (some g)):=by
      have b1:=BY.out.alloc (o:=.cells #[] 126) BY.out.size;refine ⟨b1.os,b1.tape,b1.output,by simp only [Array.size_setIfInBounds]; exact b1.size,fun k hk hne=>?_⟩;show ((y.alloc (.cells #[] 126)).heap.setIfInBounds g _)[k]?=_;rw [Array.getElem?_setIfInBounds_ne (fun e=>hne (by rw [e]))];exact b1.block k hk
     have ya:Hid (NmAt { y.alloc (.cells #[] 126) with heap:=(y.alloc (.cells #[] 126)).heap.setIfInBounds g (.map (es.push { key:=.string (txt d.nm),val:=.agg #[],born:=c }) (c + 1)) } g (ns ++ [d.nm])):=by
      refine ⟨es.push { key:=.string (txt d.nm),val:=.agg #[],born:=c },c + 1,?_,h2.push d.nm c⟩;show ((y.alloc (.cells #[] 126)).heap.setIfInBounds g _)[g]?=_;rw [Array.getElem?_setIfInBounds_self_of_lt (by rw [World.size_alloc]; omega)]
     clear ins h2;go_wp2;go_ret;exact ⟨by rw [hT]; rfl,yg.out,fun _=>ya.out,fun h=>absurd hT h⟩
   · have hT:tkE ns d=8:=by unfold tkE; rw [if_pos hc,if_pos h4]
     have lk:(Instr.lookup 84 (.map (some g)) (.string (txt d.nm)) true).run Tryz.prog y=.ok (.tuple #[.agg #[],.bool true]) y:=lookup_str _ 9 126 Tryz.underlying84 Tryz.underlying9 y g es c h1 (txt d.nm) i _ h3;clear ins h2;go_wp2;go_ret;exact ⟨by rw [hT]; rfl,grown_below (BY.out.alloc BY.out.size _) _,fun h=>absurd (h.symm.trans hT) (by decide),fun _=>(hN.out.below BY.out).below ((Below.refl _ _).alloc (Nat.le_refl _) _)⟩
 · have hc:¬ cN d=0:=fun h=>h0 (cN_0.1 h)
   have hT:((tkE ns d:Nat):Int)=ckE d:=by unfold tkE; rw [if_neg hc]; exact ck_nat d
   generalize ckE d=T at *;have t0:(T == 0)=false:=beq_eq_false_iff_ne.2 h0;have t1:(T != 0)=true:=by rw [bne,t0]; rfl
   replace hT:Hid (((tkE ns d:Nat):Int)=T):=hT;go_wp2;go_ret;exact TkQ.bad hN.out hT.out h0 BY.out
def allM (ns:List Wd) (acc:Wd):List Dv→Wd × Nat
 | []=>(acc,0)
 | d :: ds=>if tkE ns d=0 then (if 4000 < acc.length + (textD d).length then ([],7) else allM (ns ++ [d.nm]) (acc ++ textD d) ds) else ([],tkE ns d)
theorem all_twice {ns:List Wd} {acc:Wd} {d:Dv} {ds:List Dv} (h:¬ tkE ns d=0):allM ns acc (d :: ds)=([],tkE ns d):=by rw [allM,if_neg h]
theorem all_long {ns:List Wd} {acc:Wd} {d:Dv} {ds:List Dv} (h:tkE ns d=0) (h2:4000 < acc.length + (textD d).length):allM ns acc (d :: ds)=([],7):=by rw [allM,if_pos h,if_pos h2]
theorem all_next {ns:List Wd} {acc:Wd} {d:Dv} {ds:List Dv} (h:tkE ns d=0) (h2:¬ 4000 < acc.length + (textD d).length):allM ns acc (d :: ds)=allM (ns ++ [d.nm]) (acc ++ textD d) ds:=by rw [allM,if_pos h,if_neg h2]
theorem tk_0 {ns:List Wd} {d:Dv}:tkE ns d=0 ↔ ckE d=0∧d.nm ∉ ns:=by
 unfold tkE;refine ⟨fun h=>?_,fun h=>?_⟩
 · split at h
   · rename_i h1
     split at h
     · cases h
     · exact ⟨cN_0.1 h1,by assumption⟩
   · exact absurd h (by assumption)
 · rw [if_pos (cN_0.2 h.1),if_neg h.2]
theorem all_good (ds:List Dv):∀ (ns:List Wd) (acc:Wd),ns.Nodup→acc.length≤4000→(allM ns acc ds).2=0 →
 (allM ns acc ds).1=acc ++ ds.flatMap textD∧(∀ d ∈ ds,ckE d=0)∧(ns ++ namesD ds).Nodup∧(acc ++ ds.flatMap textD).length≤4000:=by
 induction ds with
 | nil=>
  intro ns acc hn hl _;refine ⟨by simp [allM],fun d h=>(by cases h),by simpa [namesD] using hn,by simpa using hl⟩
 | cons d ds ih=>
  intro ns acc hn hl h
  by_cases h1:tkE ns d=0
  · by_cases h2:4000 < acc.length + (textD d).length
    · rw [all_long h1 h2] at h; cases h
    · rw [all_next h1 h2] at h ⊢;obtain ⟨k1,k2⟩:=tk_0.1 h1;have hn2:(ns ++ [d.nm]).Nodup:=by
       rw [List.nodup_append];refine ⟨hn,by simp,fun a ha b hb=>?_⟩;rw [List.mem_singleton.1 hb];intro e;exact k2 (e ▸ ha)
      obtain ⟨e1,e2,e3,e4⟩:=ih _ _ hn2 (by rw [List.length_append]; omega) h;refine ⟨by rw [e1,List.flatMap_cons,List.append_assoc],fun x hx=>?_,?_,by rw [List.flatMap_cons,← List.append_assoc]; exact e4⟩
      · rcases List.mem_cons.1 hx with rfl | hx
        · exact k1
        · exact e2 x hx
      · have:ns ++ namesD (d :: ds)=ns ++ [d.nm] ++ namesD ds:=by simp [namesD]
        rw [this]; exact e3
  · rw [all_twice h1] at h; exact absurd h h1
theorem bytes_flat (ds:List Dv):bytesL (ds.flatMap linesW)=ds.flatMap textD:=by
 induction ds with
 | nil=>rfl
 | cons d ds ih=>rw [List.flatMap_cons,List.flatMap_cons,bytesL_app,ih]; rfl
theorem flat_read {ds:List Dv} (h:∀ d ∈ ds,ckE d=0∧DvOk d) (hn:(namesD ds).Nodup) (hl:(ds.flatMap textD).length≤4000) :
 lexErr (ds.flatMap textD)=0∧linesM (lrOf (lexRows (ds.flatMap textD)))=(ds,0,0):=by
 have hok:∀ ws ∈ ds.flatMap linesW,okL ws=true:=fun ws hw=>by
  obtain ⟨d,hd,k⟩:=List.mem_flatMap.1 hw;exact (h d hd).2.lines ws k
 obtain ⟨h1,_,h3⟩:=lex_text (ds.flatMap linesW) hok (by rw [bytes_flat]; exact hl);rw [bytes_flat] at h1 h3;exact ⟨h3,by rw [h1]; exact lines_shown h hn (wds_nr _ 1)⟩
def AlI (l:List Dv) (i:Nat) (want:Wd) (bad:Nat):Prop:=(bad=0→allM [] [] l=allM (namesD (l.take i)) want (l.drop i)∧want.length≤4000)∧(¬ bad=0→allM [] [] l=([],bad))
theorem AlI.first (l:List Dv):AlI l 0 [] 0:=⟨fun _=>⟨rfl,by simp⟩,fun h=>absurd rfl h⟩
theorem AlI.skip {l:List Dv} {i:Nat} {want:Wd} {bad:Nat} (h:AlI l i want bad) (hb:¬ bad=0) (j:Nat) (w':Wd):AlI l j w' bad:=⟨fun e=>absurd e hb,h.2⟩
theorem AlI.last {l:List Dv} {want:Wd} {bad:Nat} (h:AlI l l.length want bad):(bad=0→allM [] [] l=(want,0))∧(¬ bad=0→allM [] [] l=([],bad)):=
 ⟨fun e=>by rw [(h.1 e).1,List.drop_length]; rfl,h.2⟩
theorem names_take {l:List Dv} {i:Nat} (hi:i < l.length):namesD (l.take (i + 1))=namesD (l.take i) ++ [l[i].nm]:=by
 unfold namesD;rw [List.take_add_one,List.getElem?_eq_getElem hi,List.map_append];rfl
theorem AlI.twice {l:List Dv} {i:Nat} {want:Wd} (h:AlI l i want 0) (hi:i < l.length) {E:Nat} (hE:tkE (namesD (l.take i)) l[i]=E) (h0:¬ E=0):AlI l (i + 1) want E:=
 ⟨fun e=>absurd e h0,fun _=>by rw [(h.1 rfl).1,List.drop_eq_getElem_cons hi,all_twice (by rw [hE]; exact h0),hE]⟩
theorem AlI.long {l:List Dv} {i:Nat} {want:Wd} (h:AlI l i want 0) (hi:i < l.length) (hE:tkE (namesD (l.take i)) l[i]=0) (h2:4000 < want.length + (textD l[i]).length) (w':Wd):AlI l (i + 1) w' 7:=
 ⟨fun e=>(by cases e),fun _=>by rw [(h.1 rfl).1,List.drop_eq_getElem_cons hi,all_long hE h2]⟩
theorem AlI.next {l:List Dv} {i:Nat} {want:Wd} (h:AlI l i want 0) (hi:i < l.length) (hE:tkE (namesD (l.take i)) l[i]=0) (h2:¬ 4000 < want.length + (textD l[i]).length):AlI l (i + 1) (want ++ textD l[i]) 0:=
 ⟨fun _=>⟨by rw [(h.1 rfl).1,List.drop_eq_getElem_cons hi,all_next hE h2,names_take hi],by rw [List.length_append]; omega⟩,fun e=>absurd rfl e⟩
def BldF (B b:Nat) (l:List UInt8) (w:World):Prop:=Lib.IsBuilderF 82 5 B b (Lib.byteCells l) w∧B≤w.heap.size
theorem BldF.new (w:World):BldF w.heap.size w.heap.size [] (w.alloc (.cells #[.pointer none,.slice none 0 0] 82)):=
 ⟨Lib.IsBuilderF.of (Lib.fresh_isBuilder _ _ w),by rw [World.size_alloc]; omega⟩
theorem bldF_kept {T e:TypeId} {B b:Nat} {p:Value} {bs:List Value} {w x:World} (h:Lib.BuilderAtF T e B b p bs w) (hb:Below w.heap.size w x):Lib.BuilderAtF T e B b p bs x:=by
 have hlt:=h.lt;obtain ⟨h1,v,h2,h3,h4⟩:=h;exact ⟨h1,v,(hb.block b hlt).trans h2,h3.kept (grown_below hb none) (by cases hv:v.ownBlock <;> simp),h4⟩
theorem bldF_on {T e:TypeId} {B b:Nat} {p:Value} {bs:List Value} {w x:World} (h:Lib.BuilderAtF T e B b p bs w) {gm:Nat} {es:Array MapEntry} {c:Nat} (hm:w.heap[gm]?=some (.map es c)) (hg:w.grownBy x (some gm)):Lib.BuilderAtF T e B b p bs x:=by
 have hlt:=h.lt;obtain ⟨h1,v,h2,h3,h4⟩:=h;have nb:¬ b=gm:=fun e=>by rw [e,hm] at h2; cases h2
 have nv:v.ownBlock=none ∨ v.ownBlock ≠ some gm:=by
  rcases h3.2 with ⟨rfl,_⟩ | ⟨g,cap,cur,fz,rfl,_,hgg,_⟩
  · exact .inl rfl
  · refine .inr fun e=>?_
    have e2:g=gm:=by simpa [Value.ownBlock] using e
    rw [e2,hm] at hgg
    cases hgg
 exact ⟨h1,v,(hg.block b hlt fun e=>nb (by injection e)).trans h2,h3.kept hg nv,h4⟩
theorem BldF.below {B b:Nat} {l:List UInt8} {w x:World} (h:BldF B b l w) (hb:Below w.heap.size w x):BldF B b l x:=
 ⟨h.1.imp (fun k=>bldF_kept k hb) (fun k=>bldF_kept k hb),Nat.le_trans h.2 hb.size⟩
theorem BldF.on {B b:Nat} {l:List UInt8} {w x:World} (h:BldF B b l w) {gm:Nat} {ns:List Wd} (hm:NmAt w gm ns) (hg:w.grownBy x (some gm)):BldF B b l x:=by
 obtain ⟨es,c,h1,_⟩:=hm;exact ⟨h.1.imp (fun k=>bldF_on k h1 hg) (fun k=>bldF_on k h1 hg),Nat.le_trans h.2 hg.size⟩
theorem NmAt.others {x y:World} {g:Nat} {ns:List Wd} (h:NmAt x g ns) {b:Nat} (hk:Lib.OthersKept 5 (some b) x y) (hb:¬ g=b):NmAt y g ns:=by
 obtain ⟨es,c,h1,h2⟩:=h;exact ⟨es,c,hk g _ h1 (fun e=>hb (by injection e)) (fun _ _ e=>by cases e),h2⟩
theorem bwsK_any (B b:Nat) (l:List UInt8) (s:ByteArray) (w:World) (h:BldF B b l w) (hl:l.length≤1000000000) (hs:s.size≤1000000000) :
 Calls Tryz.prog 36 #[.pointer (some ⟨b,0,none⟩),.string s] w fun e y=>e=.returned (.tuple #[.int .i64 (s.size:Int),.nilIface])∧BldF B b (l ++ s.data.toList) y∧Below B w y∧Lib.OthersKept 5 (some b) w y:=by
 refine (Any.Builder_WriteString_k lays166 bxt B b (Lib.byteCells l) s w h.1 (by rw [Lib.byteCells_length]; omega) h.2).mono ?_;rintro e y ⟨rfl,h1,h2,h3⟩;refine ⟨rfl,⟨.inr ?_,Nat.le_trans h.2 h2.size⟩,h2,h3⟩;rw [← cells_app];exact h1
theorem bstK_any (B b:Nat) (l:List UInt8) (w:World) (h:BldF B b l w):Calls Tryz.prog 37 #[.pointer (some ⟨b,0,none⟩)] w fun e y=>e=.returned (.string (txt l))∧Below B w y:=by
 refine (Any.Builder_String_any_k lays169 bxt B b l w h.1 h.2).mono ?_;rintro e y ⟨rfl,_,h2,_⟩;exact ⟨rfl,h2⟩
theorem blnK_any (B b:Nat) (l:List UInt8) (w:World) (h:BldF B b l w):Calls Tryz.prog 35 #[.pointer (some ⟨b,0,none⟩)] w fun e y=>e=.returned (.int .i64 (l.length:Int))∧y=w:=by
 have k:=Any.Builder_Len_f lays170 B b (Lib.byteCells l) w h.1;rw [Lib.byteCells_length] at k;exact k
theorem plain_any (n d:Int) (w:World):Calls Tryz.prog 32 #[rv n d] w fun e w'=>e=.returned (rv n d)∧Below w.heap.size w w':=by
 go_enter Tryz.func32,Tryz.ntmps32
 go_wp2;go_returns;exact ⟨rfl,by go_grown⟩
abbrev dvB (d:Dv) (fv qv:Value):Array Value:=#[.string (txt d.nm),.int .i64 d.st,.int .i64 d.es,.int .i64 d.mx,.int .i64 d.sz,.string (txt d.sm),fv,qv,.int .i64 d.po,.int .i64 d.ti,.int .i64 d.re,.int .i64 d.ag]
abbrev zF:Array Value:=#[.string ⟨#[]⟩,.int .i64 0,.string ⟨#[]⟩,.int .i64 0,.int .i64 0,.int .i64 0,.int .i64 0,.int .i64 0,.string ⟨#[]⟩]
abbrev fdA (f:Fd):Array Value:=#[.string (txt f.nm),.int .i64 f.pl,.string (txt f.kd),.int .i64 f.wd,.int .i64 f.sn,.int .i64 f.sd,.int .i64 f.on,.int .i64 f.od,.string (txt f.un)]
def put9 (z:World) (b:Nat) (f:Fd):World:=(((((((((z.setCell ⟨b,0,none⟩ (.string (txt f.nm))).setCell ⟨b,1,none⟩ (.int .i64 f.pl)).setCell ⟨b,2,none⟩ (.string (txt f.kd))).setCell ⟨b,3,none⟩ (.int .i64 f.wd)).setCell ⟨b,4,none⟩ (.int .i64 f.sn)).setCell ⟨b,5,none⟩ (.int .i64 f.sd)).setCell ⟨b,6,none⟩ (.int .i64 f.on)).setCell ⟨b,7,none⟩ (.int .i64 f.od)).setCell ⟨b,8,none⟩ (.string (txt f.un)))
theorem put9_at {z:World} {b:Nat} {f:Fd} {t:TypeId} (h:z.heap[b]?=some (.cells zF t (0,0))):(put9 z b f).heap[b]?=some (.cells (fdA f) t (0,0)):=by
 unfold put9;refine (rd_set (rd_set (rd_set (rd_set (rd_set (rd_set (rd_set (rd_set (rd_set h 0 _) 1 _) 2 _) 3 _) 4 _) 5 _) 6 _) 7 _) 8 _).trans ?_;simp only [List.setIfInBounds_toArray,List.set_cons_zero,List.set_cons_succ]
theorem put9_below {w z:World} {L b:Nat} {f:Fd} (h:Below L w z) (hb:L≤b):Below L w (put9 z b f):=by
 unfold put9
 repeat (refine Below.setCell ?_ hb _)
 exact h
theorem put9_off {z:World} {b k:Nat} {f:Fd} (hk:k ≠ b):(put9 z b f).heap[k]?=z.heap[k]?:=by
 unfold put9;simp only [Below.heap_setCell _ _ _ _ (show k ≠ (⟨b,_,none⟩:Addr).block from hk)]
structure SmG where
 b1:Nat
 b2:Nat
structure SmW (w0:World) (f:Fd) (γ:SmG) (x:Array Bool) (z:World):Prop where
 low:Below w0.heap.size w0 z
 o12:x.getD 12 false=true→x.getD 10 false=true
 o13:x.getD 13 false=true→x.getD 11 false=true
 bx:x.getD 10 false=true→w0.heap.size≤γ.b1∧z.heap[γ.b1]?=some (.cells (if x.getD 12 false=true then fdA f else zF) 70 (0,0))
 by':x.getD 11 false=true→w0.heap.size≤γ.b2∧z.heap[γ.b2]?=some (.cells (if x.getD 13 false=true then fdA f else zF) 64 (0,0))
 ne:x.getD 10 false=true→x.getD 11 false=true→γ.b1 ≠ γ.b2
theorem SmW.other {w0:World} {f:Fd} {γ:SmG} {x:Array Bool} {z:World} (h:SmW w0 f γ x z) {i:Nat} (hi:i < 10):SmW w0 f γ (x.setIfInBounds i true) z:=by
 obtain ⟨low,o12,o13,bx,by',ne⟩:=h;have e:∀ j,10≤j→(x.setIfInBounds i true).getD j false=x.getD j false:=fun j hj=>getD_set_ne false (by omega)
 refine ⟨low,?_,?_,?_,?_,?_⟩
 · rw [e 12 (by omega),e 10 (by omega)]; exact o12
 · rw [e 13 (by omega),e 11 (by omega)]; exact o13
 · rw [e 12 (by omega),e 10 (by omega)]; exact bx
 · rw [e 13 (by omega),e 11 (by omega)]; exact by'
 · rw [e 10 (by omega),e 11 (by omega)]; exact ne
theorem SmW.allocX {w0:World} {f:Fd} {γ:SmG} {x:Array Bool} {z:World} (h:SmW w0 f γ x z) (h10:x.getD 10 false=false) (h14:x.size=14):SmW w0 f ⟨z.heap.size,γ.b2⟩ (x.setIfInBounds 10 true) (z.alloc (.cells zF 70)):=by
 obtain ⟨low,o12,o13,bx,by',ne⟩:=h;have s10:(x.setIfInBounds 10 true).getD 10 false=true:=getD_set_at (by rw [h14]; decide);have e11:(x.setIfInBounds 10 true).getD 11 false=x.getD 11 false:=getD_set_ne false (by decide);have e12:(x.setIfInBounds 10 true).getD 12 false=x.getD 12 false:=getD_set_ne false (by decide);have e13:(x.setIfInBounds 10 true).getD 13 false=x.getD 13 false:=getD_set_ne false (by decide);have x12:x.getD 12 false=false:=by
  cases e:x.getD 12 false
  · rfl
  · rw [o12 e] at h10; cases h10
 have ba:Below z.heap.size z (z.alloc (.cells zF 70)):=(Below.refl _ _).alloc (Nat.le_refl _) _;refine ⟨low.alloc low.size _,fun _=>s10,by rw [e11,e13]; exact o13,fun _=>⟨low.size,?_⟩,?_,?_⟩
 · rw [e12,x12]; exact World.alloc_heap_new z _
 · rw [e11,e13]; intro k;have q:=by' k;exact ⟨q.1,(ba.block _ (Array.getElem?_eq_some_iff.1 q.2).1).trans q.2⟩
 · rw [e11]; intro _ k;have q:=(Array.getElem?_eq_some_iff.1 (by' k).2).1;show z.heap.size ≠ γ.b2;omega
theorem SmW.allocY {w0:World} {f:Fd} {γ:SmG} {x:Array Bool} {z:World} (h:SmW w0 f γ x z) (h11:x.getD 11 false=false) (h14:x.size=14):SmW w0 f ⟨γ.b1,z.heap.size⟩ (x.setIfInBounds 11 true) (z.alloc (.cells zF 64)):=by
 obtain ⟨low,o12,o13,bx,by',ne⟩:=h;have s11:(x.setIfInBounds 11 true).getD 11 false=true:=getD_set_at (by rw [h14]; decide);have e10:(x.setIfInBounds 11 true).getD 10 false=x.getD 10 false:=getD_set_ne false (by decide);have e12:(x.setIfInBounds 11 true).getD 12 false=x.getD 12 false:=getD_set_ne false (by decide);have e13:(x.setIfInBounds 11 true).getD 13 false=x.getD 13 false:=getD_set_ne false (by decide);have x13:x.getD 13 false=false:=by
  cases e:x.getD 13 false
  · rfl
  · rw [o13 e] at h11; cases h11
 have ba:Below z.heap.size z (z.alloc (.cells zF 64)):=(Below.refl _ _).alloc (Nat.le_refl _) _;refine ⟨low.alloc low.size _,by rw [e10,e12]; exact o12,fun _=>s11,?_,fun _=>⟨low.size,?_⟩,?_⟩
 · rw [e10,e12]; intro k;have q:=bx k;exact ⟨q.1,(ba.block _ (Array.getElem?_eq_some_iff.1 q.2).1).trans q.2⟩
 · rw [e13,x13]; exact World.alloc_heap_new z _
 · rw [e10]; intro k _;have q:=(Array.getElem?_eq_some_iff.1 (bx k).2).1;show γ.b1 ≠ z.heap.size;omega
theorem SmW.storeX {w0:World} {f:Fd} {γ:SmG} {x:Array Bool} {z:World} (h:SmW w0 f γ x z) (h10:x.getD 10 false=true) (h12:x.getD 12 false=false) (h14:x.size=14):SmW w0 f γ (x.setIfInBounds 12 true) (put9 z γ.b1 f):=by
 obtain ⟨low,o12,o13,bx,by',ne⟩:=h;have s12:(x.setIfInBounds 12 true).getD 12 false=true:=getD_set_at (by rw [h14]; decide);have e10:(x.setIfInBounds 12 true).getD 10 false=x.getD 10 false:=getD_set_ne false (by decide);have e11:(x.setIfInBounds 12 true).getD 11 false=x.getD 11 false:=getD_set_ne false (by decide);have e13:(x.setIfInBounds 12 true).getD 13 false=x.getD 13 false:=getD_set_ne false (by decide);have q:=bx h10;rw [h12] at q;refine ⟨put9_below low q.1,fun _=>e10.trans h10,by rw [e11,e13]; exact o13,fun _=>⟨q.1,by rw [s12,if_pos rfl]; exact put9_at q.2⟩,?_,by rw [e10,e11]; exact ne⟩;rw [e11,e13]; intro k;have q2:=by' k;exact ⟨q2.1,(put9_off (fun e=>ne h10 k e.symm)).trans q2.2⟩
theorem SmW.storeY {w0:World} {f:Fd} {γ:SmG} {x:Array Bool} {z:World} (h:SmW w0 f γ x z) (h11:x.getD 11 false=true) (h13:x.getD 13 false=false) (h14:x.size=14):SmW w0 f γ (x.setIfInBounds 13 true) (put9 z γ.b2 f):=by
 obtain ⟨low,o12,o13,bx,by',ne⟩:=h;have s13:(x.setIfInBounds 13 true).getD 13 false=true:=getD_set_at (by rw [h14]; decide);have e10:(x.setIfInBounds 13 true).getD 10 false=x.getD 10 false:=getD_set_ne false (by decide);have e11:(x.setIfInBounds 13 true).getD 11 false=x.getD 11 false:=getD_set_ne false (by decide);have e12:(x.setIfInBounds 13 true).getD 12 false=x.getD 12 false:=getD_set_ne false (by decide);have q:=by' h11;rw [h13] at q;refine ⟨put9_below low q.1,by rw [e10,e12]; exact o12,fun _=>e11.trans h11,?_,fun _=>⟨q.1,by rw [s13,if_pos rfl]; exact put9_at q.2⟩,by rw [e10,e11]; exact ne⟩;rw [e10,e12]; intro k;have q2:=bx k;exact ⟨q2.1,(put9_off (ne k h11)).trans q2.2⟩
def smV (A ga oa gb ob k:Nat) (fa fb:Value) (f:Fd) (γ:SmG) (i:Nat):Value:=
 (#[.pointer (some ⟨A,6,none⟩),fa,.int .i64 (k:Int),.pointer (some ⟨ga,oa + k * 9,none⟩),.agg (fdA f),.pointer (some ⟨A + 1,6,none⟩),fb,.int .i64 (k:Int),.pointer (some ⟨gb,ob + k * 9,none⟩),.agg (fdA f),.pointer (some ⟨γ.b1,0,none⟩),.pointer (some ⟨γ.b2,0,none⟩),undef,undef]:Array Value).getD i undef
def SmP (A ga oa gb ob k:Nat) (fa fb:Value) (f:Fd) (γ:SmG) (_x:Array Bool) (i:Nat) (v:Value) (_z:World):Prop:=v=smV A ga oa gb ob k fa fb f γ i
theorem smV_x {A ga oa gb ob k:Nat} {fa fb:Value} {f:Fd} {γ:SmG} {b:Nat} {j:Nat} (h:j ≠ 10):smV A ga oa gb ob k fa fb f γ j=smV A ga oa gb ob k fa fb f ⟨b,γ.b2⟩ j:=by
 unfold smV
 match j,h with
 | 0,_=>rfl
 | 1,_=>rfl
 | 2,_=>rfl
 | 3,_=>rfl
 | 4,_=>rfl
 | 5,_=>rfl
 | 6,_=>rfl
 | 7,_=>rfl
 | 8,_=>rfl
 | 9,_=>rfl
 | 10,h=>exact absurd rfl h
 | 11,_=>rfl
 | 12,_=>rfl
 | 13,_=>rfl
 | (n + 14),_=>rfl
theorem smV_y {A ga oa gb ob k:Nat} {fa fb:Value} {f:Fd} {γ:SmG} {b:Nat} {j:Nat} (h:j ≠ 11):smV A ga oa gb ob k fa fb f γ j=smV A ga oa gb ob k fa fb f ⟨γ.b1,b⟩ j:=by
 unfold smV
 match j,h with
 | 0,_=>rfl
 | 1,_=>rfl
 | 2,_=>rfl
 | 3,_=>rfl
 | 4,_=>rfl
 | 5,_=>rfl
 | 6,_=>rfl
 | 7,_=>rfl
 | 8,_=>rfl
 | 9,_=>rfl
 | 10,_=>rfl
 | 11,h=>exact absurd rfl h
 | 12,_=>rfl
 | 13,_=>rfl
 | (n + 14),_=>rfl
theorem gD_q {x:Array Bool} {j:Nat} (h:x[j]?.getD false=true):x.getD j false=true:=by rw [Array.getD_eq_getD_getElem?]; exact h
theorem FldsIn.nine {x:World} {g o:Nat} {fs:List Fd} (h:FldsIn x g o fs) {k:Nat} (hk:k < fs.length) (i:Nat) (v:Value) (hv:(fdC fs[k])[i]?=some v):x.cell? ⟨g,o + k * 9 + i,none⟩=some v:=by
 rw [Nat.mul_comm k 9]; exact h k hk i v hv
abbrev Dn10:=Dv × Value × Value
def dvCs (ps:List Dn10):List Value:=ps.flatMap fun p=>(dvB p.1 p.2.1 p.2.2).toList
theorem dvCs_snoc (ps:List Dn10) (p:Dn10):dvCs (ps ++ [p])=dvCs ps ++ (dvB p.1 p.2.1 p.2.2).toList:=by
 unfold dvCs;rw [List.flatMap_append];simp only [List.flatMap_cons,List.flatMap_nil,List.append_nil]
theorem dvCs_get (ps:List Dn10):∀ (j k:Nat) (hj:j < ps.length),k < 12→(dvCs ps)[12 * j + k]?=(dvB ps[j].1 ps[j].2.1 ps[j].2.2).toList[k]?:=by
 induction ps with
 | nil=>intro j k hj; cases hj
 | cons p ps ih=>
  intro j k hj hk;show ((dvB p.1 p.2.1 p.2.2).toList ++ dvCs ps)[12 * j + k]?=_
  cases j with
  | zero=>
   rw [List.getElem?_append_left (by show 12 * 0 + k < 12; omega),Nat.mul_zero,Nat.zero_add];rfl
  | succ j=>
   rw [List.getElem?_append_right (by show 12≤_; omega),show 12 * (j + 1) + k - (dvB p.1 p.2.1 p.2.2).toList.length=12 * j + k from by show 12 * (j + 1) + k - 12=_; omega];exact ih j k (by simpa using hj) hk
structure DvsG (T:TypeId) (N:Nat) (x:World) (lv:Value) (ps:List Dn10):Prop where
 own:x.ownsRow N T 12 lv ps.length (dvCs ps)
 fl:∀ p ∈ ps,FldsAt x p.2.1 p.1.fs∧BytesAt x p.2.2 p.1.rq
 sep:∀ p ∈ ps,∀ g,(p.2.1.ownBlock=some g ∨ p.2.2.ownBlock=some g)→N≤g∧lv.ownBlock ≠ some g
theorem DvsG.first (T:TypeId) (N:Nat) (x:World):DvsG T N x (.slice none 0 0) []:=⟨World.ownsRow_nil _ _ _ _,fun p h=>(by cases h),fun p h=>(by cases h)⟩
theorem DvsG.on {T:TypeId} {N:Nat} {x y:World} {lv:Value} {ps:List Dn10} (h:DvsG T N x lv ps) {gm:Nat} (hg:x.grownBy y (some gm)) (hm:gm < N):DvsG T N y lv ps:=by
 have hk:∀ k,N≤k→k < x.heap.size→y.heap[k]?=x.heap[k]?:=fun k h1 h2=>hg.block k h2 fun e=>by injection e with e; omega
 refine ⟨own_on h.own fun g e=>hk g (World.ownsRow.lt h.own g e).1 (World.ownsRow.lt h.own g e).2,fun p hp=>⟨(h.fl p hp).1.on fun g e=>hk g (h.sep p hp g (.inl e)).1 ((h.fl p hp).1.lt g e),(h.fl p hp).2.on fun g e=>hk g (h.sep p hp g (.inr e)).1 ((h.fl p hp).2.lt g e)⟩,h.sep⟩
theorem DvsG.push {T:TypeId} {N:Nat} {x y:World} {lv:Value} {ps:List Dn10} (h:DvsG T N x lv ps) {d:Dv} {fv qv:Value} (hf:FldsAt x fv d.fs) (hq:BytesAt x qv d.rq)
 (hs:∀ g,(fv.ownBlock=some g ∨ qv.ownBlock=some g)→N≤g∧lv.ownBlock ≠ some g) {g cap:Nat}
 (ho:y.ownsRow N T 12 (.slice (some ⟨g,0,none⟩) (ps.length + 1) cap) (ps.length + 1) (dvCs ps ++ (dvB d fv qv).toList)) (hg:x.grownBy y lv.ownBlock) (hn:lv.ownBlock=some g ∨ g=x.heap.size) :
 DvsG T N y (.slice (some ⟨g,0,none⟩) (ps.length + 1) cap) (ps ++ [(d,fv,qv)]):=by
 have all:∀ p ∈ ps ++ [(d,fv,qv)],(FldsAt x p.2.1 p.1.fs∧BytesAt x p.2.2 p.1.rq)∧∀ g,(p.2.1.ownBlock=some g ∨ p.2.2.ownBlock=some g)→N≤g∧lv.ownBlock ≠ some g:=by
  intro p hp;rcases List.mem_append.1 hp with hp | hp
  · exact ⟨h.fl p hp,h.sep p hp⟩
  · rw [List.mem_singleton.1 hp]; exact ⟨⟨hf,hq⟩,hs⟩
 have hk:∀ p ∈ ps ++ [(d,fv,qv)],∀ k,(p.2.1.ownBlock=some k ∨ p.2.2.ownBlock=some k)→k < x.heap.size:=fun p hp k e=>by
  rcases e with e | e
  · exact (all p hp).1.1.lt k e
  · exact (all p hp).1.2.lt k e
 have hb:∀ p ∈ ps ++ [(d,fv,qv)],∀ k,(p.2.1.ownBlock=some k ∨ p.2.2.ownBlock=some k)→y.heap[k]?=x.heap[k]?:=fun p hp k e=>
  hg.block k (hk p hp k e) fun e'=>((all p hp).2 k e).2 e'.symm
 refine ⟨by rw [dvCs_snoc,List.length_append]; exact ho,fun p hp=>⟨(all p hp).1.1.on fun k e=>hb p hp k (.inl e),(all p hp).1.2.on fun k e=>hb p hp k (.inr e)⟩,fun p hp k e=>⟨((all p hp).2 k e).1,fun e'=>?_⟩⟩;have e2:g=k:=by injection e'
 rcases hn with hn | hn
 · exact ((all p hp).2 k e).2 (by rw [hn,e2])
 · have:=hk p hp k e;omega
structure DvsAt (T:TypeId) (x:World) (lv:Value) (ps:List Dn10):Prop where
 own:∃ N,x.ownsRow N T 12 lv ps.length (dvCs ps)
 fl:∀ p ∈ ps,FldsAt x p.2.1 p.1.fs∧BytesAt x p.2.2 p.1.rq
theorem DvsG.at {T:TypeId} {N:Nat} {x:World} {lv:Value} {ps:List Dn10} (h:DvsG T N x lv ps):DvsAt T x lv ps:=⟨⟨N,h.own⟩,h.fl⟩
theorem DvsAt.below {T:TypeId} {x y:World} {lv:Value} {ps:List Dn10} (h:DvsAt T x lv ps) (hb:Below x.heap.size x y):DvsAt T y lv ps:=by
 obtain ⟨N,ho⟩:=h.own;exact ⟨⟨N,own_below ho hb⟩,fun p hp=>⟨(h.fl p hp).1.below hb,(h.fl p hp).2.below hb⟩⟩
theorem DvsAt.nil (T:TypeId) (x:World):DvsAt T x (.slice none 0 0) []:=⟨⟨0,World.ownsRow_nil _ _ _ _⟩,fun p h=>(by cases h)⟩
def LinesQ (t:TypeId) (w:World) (T:List Dv × Int × Nat) (e:Ending) (y:World):Prop:=
 ∃ lv ps,e=.returned (.tuple #[lv,.int .i64 T.2.1,.int .i64 ((T.2.2:Nat):Int)])∧ps.map (·.1)=T.1∧DvsAt t y lv ps∧Below w.heap.size w y
structure BkL (N:Nat) (x:World) (vo:Value) (us:List Value) (cs:List (List Rn)):Prop where
 len:us.length=cs.length
 ro:x.ownsRow N 55 1 vo us.length us
 inn:∀ i (h:i < us.length) (h':i < cs.length),x.ownsRow N 56 2 us[i] cs[i].length (rnC cs[i])
 wo:∀ c ∈ cs,∀ f ∈ c,WcAt N x f.2 f.1.2
theorem BkSt.l {w x:World} {vo:Value} {us:List Value} {cs:List (List Rn)} (h:BkSt w x vo us cs):BkL w.heap.size x vo us cs:=⟨h.len,h.ro,h.inn,h.wo⟩
theorem BkL.on {N:Nat} {x y:World} {vo:Value} {us:List Value} {cs:List (List Rn)} (h:BkL N x vo us cs) {gm:Nat} (hg:x.grownBy y (some gm)) (hm:gm < N):BkL N y vo us cs:=by
 have hk:∀ k,N≤k→k < x.heap.size→y.heap[k]?=x.heap[k]?:=fun k h1 h2=>hg.block k h2 fun e=>by injection e with e; omega
 have ok:∀ {b:Nat} {T:TypeId} {s:Nat} {v:Value} {n:Nat} {xs:List Value},N≤b→x.ownsRow b T s v n xs→y.ownsRow b T s v n xs:=fun hb h=>own_on h fun g e=>hk g (Nat.le_trans hb (World.ownsRow.lt h g e).1) (World.ownsRow.lt h g e).2
 exact ⟨h.len,ok (Nat.le_refl _) h.ro,fun i h1 h2=>ok (Nat.le_refl _) (h.inn i h1 h2),fun c hc f hf=>(h.wo c hc f hf).imp id (ok (Nat.le_refl _))⟩
theorem BkL.kept {N b:Nat} {x y:World} {vo v':Value} {us:List Value} {cs:List (List Rn)} {n:Nat} {xs:List Value} (h:BkL N x vo us cs) (h':x.ownsRow b 33 12 v' n xs) (hg:x.grownBy y v'.ownBlock):BkL N y vo us cs:=
 ⟨h.len,World.ownsRow.kept h.ro hg (own_apart h.ro h' (by decide)),fun i h1 h2=>World.ownsRow.kept (h.inn i h1 h2) hg (own_apart (h.inn i h1 h2) h' (by decide)),fun c hc f hf=>(h.wo c hc f hf).kept h' (by decide) hg⟩
theorem BkL.form {N:Nat} {x:World} {vo:Value} {us:List Value} {cs:List (List Rn)} (h:BkL N x vo us cs):∃ p cap,vo=.slice p us.length cap:=by
 rcases own_slice h.ro with ⟨e,hn⟩ | ⟨g,cap,e,_⟩
 · exact ⟨_,_,by rw [e,hn]⟩
 · exact ⟨_,_,e⟩
theorem BkL.at {N:Nat} {x:World} {p:Option Addr} {n cap:Nat} {us:List Value} {cs:List (List Rn)} (h:BkL N x (.slice p n cap) us cs) (hn:us.length=n) {i:Nat} (hi:i < us.length) (hi':i < cs.length) :
 ∃ go,p=some ⟨go,0,none⟩∧n≤cap∧x.cell? ⟨go,i,none⟩=some us[i]∧RowsC x.heap.size x us[i] (cs[i].map (·.1)):=by
 have ho:=h.ro;rcases own_slice ho with ⟨e,hz⟩ | ⟨go,c2,e,_,hl⟩
 · omega
 · injection e with e1 e2 e3
   subst e1 e3;refine ⟨go,rfl,own_room ho _ _ _ rfl,?_,?_⟩
   · rw [← hn] at ho;rw [World.ownsRow.cellAt ho i (by omega)];exact List.getElem?_eq_getElem hi
   · have hr:=h.inn i hi hi';rcases own_slice hr with ⟨e,hz⟩ | ⟨gi,ci,e,_,hl⟩
     · left
       exact ⟨e,by rw [List.length_eq_zero_iff.1 hz]; rfl⟩
     · right
       refine ⟨gi,0,ci,by rw [List.length_map]; exact e,fun j hj=>?_,hl⟩;have hj':j < cs[i].length:=by simpa using hj
       rw [e] at hr;have c0:=World.ownsRow.cellAt hr (2 * j) (by omega);have c1:=World.ownsRow.cellAt hr (2 * j + 1) (by omega);have hw:=(h.wo _ (List.getElem_mem hi') _ (List.getElem_mem hj')).wds;obtain ⟨g0,g1⟩:=rnC_get hj';refine ⟨?_,(cs[i][j]).2,?_,?_⟩
       · rw [Nat.zero_add,c0]
         simpa using g0
       · rw [Nat.zero_add,c1]
         simpa using g1
       · simpa using hw
theorem RowsC.mono {L0 L1:Nat} {x:World} {v:Value} {rs:List Lr} (h:RowsC L0 x v rs) (hl:L0≤L1):RowsC L1 x v rs:=by
 rcases h with h | ⟨g,o,cap,h1,h2,h3⟩
 · exact .inl h
 · refine .inr ⟨g,o,cap,h1,fun j hj=>?_,Nat.lt_of_lt_of_le h3 hl⟩;obtain ⟨q0,u,q1,q2⟩:=h2 j hj;refine ⟨q0,u,q1,?_⟩;rcases q2 with q | ⟨g,o,cap,q1,q2,q3,q4⟩
   · exact .inl q
   · exact .inr ⟨g,o,cap,q1,q2,q3,Nat.lt_of_lt_of_le q4 hl⟩
theorem RowsC.cons {L0:Nat} {x:World} {v:Value} {b:List Lr} (h:RowsC L0 x v b) (hb:b ≠ []):∃ g o cap,v=.slice (some ⟨g,o,none⟩) b.length cap∧x.cell? ⟨g,o,none⟩=some (.int .i64 (b.headD (0,[])).1):=by
 rcases h with ⟨_,h⟩ | ⟨g,o,cap,h1,h2,h3⟩
 · exact absurd h hb
 · cases b with
   | nil=>exact absurd rfl hb
   | cons r rs=>exact ⟨g,o,cap,h1,(h2 0 (by simp)).1⟩
theorem place_any (n:Int) (b:List Lr) (hb:b ≠ []) (v:Value) (w:World) (L0:Nat) (hv:RowsC L0 w v b) :
 Calls Tryz.prog 41 #[.int .i64 n,v] w fun e y=>e=.returned (.int .i64 (if n=0 then (b.headD (0,[])).1 else n))∧y=w:=by
 obtain ⟨g,o,cap,rfl,c0⟩:=hv.cons hb;have hl:0 < b.length:=List.length_pos_iff.2 hb;have hli:(0:Int) < (b.length:Int):=by omega
 clear hv;generalize (b.headD (0,[])).1=ln at *;generalize b.length=m at *
 by_cases h0:n=0
 · subst h0;rw [if_pos rfl]
   go_enter Tryz.func41,Tryz.ntmps41
   go_wp2;go_ret;exact ⟨rfl,rfl⟩
 · rw [if_neg h0];have t0:(n == 0)=false:=beq_eq_false_iff_ne.2 h0;have t1:(n != 0)=true:=by rw [bne,t0]; rfl
   go_enter Tryz.func41,Tryz.ntmps41
   go_wp2;go_ret;exact ⟨rfl,rfl⟩
theorem same_v (d:Dv) (fa qa fb qb:Value) (w:World) (hfa:FldsV w fa d.fs) (hqa:BytesAt w qa d.rq) (hfb:FldsV w fb d.fs) (hqb:BytesAt w qb d.rq) (hn:(d.fs.length:Int)≤4500) :
 Calls Tryz.prog 15 #[dvV d fa qa,dvV d fb qb] w fun e y=>e=.returned (.int .i64 1)∧Below w.heap.size w y:=by
 obtain ⟨pa,na,ca,rfl,hna⟩:∃ p n c,fa=.slice p n c∧n=d.fs.length:=by
  rcases hfa with ⟨a,c,h1,h2⟩ | ⟨g,o,cap,h1,_⟩
  · exact ⟨_,_,_,h1,by rw [h2]; rfl⟩
  · exact ⟨_,_,_,h1,rfl⟩
 obtain ⟨pb,nb,cb,rfl,hnb⟩:∃ p n c,fb=.slice p n c∧n=d.fs.length:=by
  rcases hfb with ⟨a,c,h1,h2⟩ | ⟨g,o,cap,h1,_⟩
  · exact ⟨_,_,_,h1,by rw [h2]; rfl⟩
  · exact ⟨_,_,_,h1,rfl⟩
 obtain rfl:na=nb:=hna.trans hnb.symm;have hn2:(na:Int)≤4500:=by omega
 replace hna:Hid (na=d.fs.length):=hna;clear hnb hn;have bA:Below w.heap.size w ((w.alloc (.cells (dvB d (.slice pa na ca) qa) 33)).alloc (.cells (dvB d (.slice pb na cb) qb) 25)):=((Below.refl _ _).alloc (Nat.le_refl _) _).alloc (by rw [World.size_alloc]; omega) _;have hA:((w.alloc (.cells (dvB d (.slice pa na ca) qa) 33)).alloc (.cells (dvB d (.slice pb na cb) qb) 25)).heap[w.heap.size]?=some (.cells (dvB d (.slice pa na ca) qa) 33 (0,0)):=map_under _ _ _ _ (World.alloc_heap_new w _);have hB:((w.alloc (.cells (dvB d (.slice pa na ca) qa) 33)).alloc (.cells (dvB d (.slice pb na cb) qb) 25)).heap[w.heap.size + 1]?=some (.cells (dvB d (.slice pb na cb) qb) 25 (0,0)):=by
  have k:=World.alloc_heap_new (w.alloc (.cells (dvB d (.slice pa na ca) qa) 33)) (.cells (dvB d (.slice pb na cb) qb) 25)
  rwa [World.size_alloc] at k
 have kqa:=conv_at (hqa.below bA);have kqb:=conv_at (hqb.below bA);have Fa:Hid (FldsV ((w.alloc (.cells (dvB d (.slice pa na ca) qa) 33)).alloc (.cells (dvB d (.slice pb na cb) qb) 25)) (.slice pa na ca) d.fs):=hfa.below bA;have Fb:Hid (FldsV ((w.alloc (.cells (dvB d (.slice pa na ca) qa) 33)).alloc (.cells (dvB d (.slice pb na cb) qb) 25)) (.slice pb na cb) d.fs):=hfb.below bA;obtain ⟨pqa,nqa,cqa,rfl⟩:=hqa.form';obtain ⟨pqb,nqb,cqb,rfl⟩:=hqb.form';clear hfa hfb hqa hqb
 go_enter Tryz.func15,Tryz.ntmps15
 go_upto_region 1 with fail
 change Code.wp Tryz.prog _ _ _ ((w.alloc (.cells (dvB d (.slice pa na ca) (.slice pqa nqa cqa)) 33)).alloc (.cells (dvB d (.slice pb na cb) (.slice pqb nqb cqb)) 25));replace bA:Hid (Below w.heap.size w ((w.alloc (.cells (dvB d (.slice pa na ca) (.slice pqa nqa cqa)) 33)).alloc (.cells (dvB d (.slice pb na cb) (.slice pqb nqb cqb)) 25))):=bA;generalize ((w.alloc (.cells (dvB d (.slice pa na ca) (.slice pqa nqa cqa)) 33)).alloc (.cells (dvB d (.slice pb na cb) (.slice pqb nqb cqb)) 25))=w1 at *;obtain ⟨c0,f0,c1,f1,c2,f2,c3,f3,c4,f4,c5,f5,c6,f6,c7,f7,c8,f8,c9,f9,c10,f10,c11,f11⟩:=rd12 hA;obtain ⟨l0,m0,l1,m1,l2,m2,l3,m3,l4,m4,l5,m5,l6,m6,l7,m7,l8,m8,l9,m9,l10,m10,l11,m11⟩:=rd12 hB;replace hA:Hid (w1.heap[w.heap.size]?=some (.cells (dvB d (.slice pa na ca) (.slice pqa nqa cqa)) 33 (0,0))):=hA;replace hB:Hid (w1.heap[w.heap.size + 1]?=some (.cells (dvB d (.slice pb na cb) (.slice pqb nqb cqb)) 25 (0,0))):=hB;go_wp2;clear c0 f0 l0 m0 c1 f1 l1 m1 c2 f2 l2 m2 c3 f3 l3 m3 c4 f4 l4 m4 c5 f5 l5 m5 c6 f6 l6 m6 c7 f7 l7 m7 c8 f8 l8 m8 c9 f9 l9 m9 c10 f10 l10 m10 c11 f11 l11 m11 kqa kqb
 go_loopw [5] (fun vi wr=>∃ k:Nat,(k:Int)≤(na:Int)∧vi=.int .i64 (k:Int)∧Hid (Below w1.heap.size w1 wr)) (fun vi wr=>((na:Int) - intOf vi).toNat)
 case atStart=>exact ⟨0,by omega,rfl,Below.refl _ _⟩
 case round=>
  obtain ⟨k,hk,rfl,hb⟩:=hrel;have hAl:Hid (wr.cell? ⟨w.heap.size,6,none⟩=some (.slice pa na ca)):=kp hb.out (rd_cell hA.out 6).1;have hBl:Hid (wr.cell? ⟨w.heap.size + 1,6,none⟩=some (.slice pb na cb)):=kp hb.out (rd_cell hB.out 6).1
  by_cases hlt:k < na
  · have hki:(k:Int) < (na:Int):=by omega
    have hkf:k < d.fs.length:=by have:=hna.out; omega
    have wk:IntKind.i64.wrap ((k:Int) + 1)=(k:Int) + 1:=by simp only [IntKind.wrap_i64]; omega
    have hkb:0≤(k:Int):=by omega
    rcases Fa.out with ⟨_,_,_,hnil⟩ | ⟨ga,oa,c1,e1,_,hia,hga⟩
    · rw [hnil] at hkf; cases hkf
    injection e1 with e1 e2 e3
    subst e1;subst e3;clear e2;rcases Fb.out with ⟨_,_,_,hnil⟩ | ⟨gb,ob,c1,e1,_,hib,hgb⟩
    · rw [hnil] at hkf; cases hkf
    injection e1 with e1 e2 e3
    subst e1;subst e3;clear e2;have Na:Hid (∀ i v,(fdC d.fs[k])[i]?=some v→wr.cell? ⟨ga,oa + k * 9 + i,none⟩=some v):=fun i v hv=>kp hb.out (hia.nine hkf i v hv)
    have Nb:Hid (∀ i v,(fdC d.fs[k])[i]?=some v→wr.cell? ⟨gb,ob + k * 9 + i,none⟩=some v):=fun i v hv=>kp hb.out (hib.nine hkf i v hv)
    generalize d.fs[k]=f at *;clear hia hib hga hgb hkf;have al0:=hAl.out;have bl0:=hBl.out
    go_upto_region 6 with fail
    refine region_props3 (SmP w.heap.size ga oa gb ob k (.slice (some ⟨ga,oa,none⟩) na ca) (.slice (some ⟨gb,ob,none⟩) na cb) f) (SmW wr f) ⟨0,0⟩ (by kernel_rfl) (by kernel_rfl) ?_ ?_ ⟨⟨rfl,rfl,rfl,Nat.le_refl _,fun _ _=>rfl⟩,fun h=>(by cases h),fun h=>(by cases h),fun h=>(by cases h),fun h=>(by cases h),fun h=>(by cases h)⟩
    · intro γ x a z i op ho hI haf hx hxi hW;have hi:i < 14:=(List.getElem?_eq_some_iff.1 ho).1;have xi:=getD_false hxi
      match i,hi with
      | 0,_=>
       obtain rfl:=Option.some.inj ho;have e1:a.tmps.getD 2 undef=.pointer (some ⟨w.heap.size,0,none⟩):=(hI.was (by kernel_rfl)).trans rfl;go_simp;exact ⟨_,rfl,γ,rfl,fun j v _ h=>h,hW.other (by decide)⟩
      | 1,_=>
       obtain rfl:=Option.some.inj ho;have e1:a.tmps.getD 101 undef=.pointer (some ⟨w.heap.size,6,none⟩):=Eq.trans (hI.val 0 _ 101 rfl rfl (dep_at haf (by kernel_rfl))) rfl;have l1:=kp hW.low al0;go_simp;exact ⟨_,rfl,γ,rfl,fun j v _ h=>h,hW.other (by decide)⟩
      | 2,_=>
       obtain rfl:=Option.some.inj ho;have e1:a.tmps.getD 5 undef=.int .i64 (k:Int):=(hI.was (by kernel_rfl)).trans rfl;go_simp;exact ⟨_,rfl,γ,rfl,fun j v _ h=>h,hW.other (by decide)⟩
      | 3,_=>
       obtain rfl:=Option.some.inj ho;have e1:a.tmps.getD 102 undef=.slice (some ⟨ga,oa,none⟩) na ca:=Eq.trans (hI.val 1 _ 102 rfl rfl (dep_at haf (by kernel_rfl))) rfl;have e2:a.tmps.getD 103 undef=.int .i64 (k:Int):=Eq.trans (hI.val 2 _ 103 rfl rfl (dep_at haf (by kernel_rfl))) rfl;go_simp;exact ⟨_,rfl,γ,rfl,fun j v _ h=>h,hW.other (by decide)⟩
      | 4,_=>
       obtain rfl:=Option.some.inj ho;have e1:a.tmps.getD 104 undef=.pointer (some ⟨ga,oa + k * 9,none⟩):=Eq.trans (hI.val 3 _ 104 rfl rfl (dep_at haf (by kernel_rfl))) rfl;have l0:=kp hW.low (Na.out 0 _ rfl);have l1:=kp hW.low (Na.out 1 _ rfl);have l2:=kp hW.low (Na.out 2 _ rfl);have l3:=kp hW.low (Na.out 3 _ rfl);have l4:=kp hW.low (Na.out 4 _ rfl);have l5:=kp hW.low (Na.out 5 _ rfl);have l6:=kp hW.low (Na.out 6 _ rfl);have l7:=kp hW.low (Na.out 7 _ rfl);have l8:=kp hW.low (Na.out 8 _ rfl);simp only [Nat.add_zero] at l0;go_simp;exact ⟨_,rfl,γ,rfl,fun j v _ h=>h,hW.other (by decide)⟩
      | 5,_=>
       obtain rfl:=Option.some.inj ho;have e1:a.tmps.getD 3 undef=.pointer (some ⟨w.heap.size + 1,0,none⟩):=(hI.was (by kernel_rfl)).trans rfl;go_simp;exact ⟨_,rfl,γ,rfl,fun j v _ h=>h,hW.other (by decide)⟩
      | 6,_=>
       obtain rfl:=Option.some.inj ho;have e1:a.tmps.getD 106 undef=.pointer (some ⟨w.heap.size + 1,6,none⟩):=Eq.trans (hI.val 5 _ 106 rfl rfl (dep_at haf (by kernel_rfl))) rfl;have l1:=kp hW.low bl0;go_simp;exact ⟨_,rfl,γ,rfl,fun j v _ h=>h,hW.other (by decide)⟩
      | 7,_=>
       obtain rfl:=Option.some.inj ho;have e1:a.tmps.getD 5 undef=.int .i64 (k:Int):=(hI.was (by kernel_rfl)).trans rfl;go_simp;exact ⟨_,rfl,γ,rfl,fun j v _ h=>h,hW.other (by decide)⟩
      | 8,_=>
       obtain rfl:=Option.some.inj ho;have e1:a.tmps.getD 107 undef=.slice (some ⟨gb,ob,none⟩) na cb:=Eq.trans (hI.val 6 _ 107 rfl rfl (dep_at haf (by kernel_rfl))) rfl;have e2:a.tmps.getD 108 undef=.int .i64 (k:Int):=Eq.trans (hI.val 7 _ 108 rfl rfl (dep_at haf (by kernel_rfl))) rfl;go_simp;exact ⟨_,rfl,γ,rfl,fun j v _ h=>h,hW.other (by decide)⟩
      | 9,_=>
       obtain rfl:=Option.some.inj ho;have e1:a.tmps.getD 109 undef=.pointer (some ⟨gb,ob + k * 9,none⟩):=Eq.trans (hI.val 8 _ 109 rfl rfl (dep_at haf (by kernel_rfl))) rfl;have l0:=kp hW.low (Nb.out 0 _ rfl);have l1:=kp hW.low (Nb.out 1 _ rfl);have l2:=kp hW.low (Nb.out 2 _ rfl);have l3:=kp hW.low (Nb.out 3 _ rfl);have l4:=kp hW.low (Nb.out 4 _ rfl);have l5:=kp hW.low (Nb.out 5 _ rfl);have l6:=kp hW.low (Nb.out 6 _ rfl);have l7:=kp hW.low (Nb.out 7 _ rfl);have l8:=kp hW.low (Nb.out 8 _ rfl);simp only [Nat.add_zero] at l0;go_simp;exact ⟨_,rfl,γ,rfl,fun j v _ h=>h,hW.other (by decide)⟩
      | 10,_=>
       obtain rfl:=Option.some.inj ho;go_simp;refine ⟨_,rfl,⟨z.heap.size,γ.b2⟩,rfl,fun j v hj h=>Eq.trans h (smV_x ?_),hW.allocX xi hx⟩;rintro rfl; have hj:=gD_q hj; rw [xi] at hj; cases hj
      | 11,_=>
       obtain rfl:=Option.some.inj ho;go_simp;refine ⟨_,rfl,⟨γ.b1,z.heap.size⟩,rfl,fun j v hj h=>Eq.trans h (smV_y ?_),hW.allocY xi hx⟩;rintro rfl; have hj:=gD_q hj; rw [xi] at hj; cases hj
      | 12,_=>
       obtain rfl:=Option.some.inj ho;have x10:x.getD 10 false=true:=dep_at haf (by kernel_rfl);have e1:a.tmps.getD 6 undef=.pointer (some ⟨γ.b1,0,none⟩):=Eq.trans (hI.val 10 _ 6 rfl rfl (dep_at haf (by kernel_rfl))) rfl;have e2:a.tmps.getD 105 undef=.agg (fdA f):=Eq.trans (hI.val 4 _ 105 rfl rfl (dep_at haf (by kernel_rfl))) rfl;have hX:=(hW.bx x10).2;rw [xi] at hX;replace hX:z.heap[γ.b1]?=some (.cells zF 70 (0,0)):=hX;have W':=hW.storeX x10 xi hx;obtain ⟨b1,b2⟩:=γ;simp only at e1 hX W';obtain ⟨l0,m0⟩:=rd_cell hX 0;obtain ⟨l1,m1⟩:=rd_cell hX 1;obtain ⟨l2,m2⟩:=rd_cell hX 2;obtain ⟨l3,m3⟩:=rd_cell hX 3;obtain ⟨l4,m4⟩:=rd_cell hX 4;obtain ⟨l5,m5⟩:=rd_cell hX 5;obtain ⟨l6,m6⟩:=rd_cell hX 6;obtain ⟨l7,m7⟩:=rd_cell hX 7;obtain ⟨l8,m8⟩:=rd_cell hX 8;simp only [List.getElem?_toArray,List.getElem?_cons_zero,List.getElem?_cons_succ] at l0 l1 l2 l3 l4 l5 l6 l7 l8;go_simp;exact ⟨⟨b1,b2⟩,fun j v _ h=>h,W'⟩
      | 13,_=>
       obtain rfl:=Option.some.inj ho;have x11:x.getD 11 false=true:=dep_at haf (by kernel_rfl);have e1:a.tmps.getD 7 undef=.pointer (some ⟨γ.b2,0,none⟩):=Eq.trans (hI.val 11 _ 7 rfl rfl (dep_at haf (by kernel_rfl))) rfl;have e2:a.tmps.getD 110 undef=.agg (fdA f):=Eq.trans (hI.val 9 _ 110 rfl rfl (dep_at haf (by kernel_rfl))) rfl;have hX:=(hW.by' x11).2;rw [xi] at hX;replace hX:z.heap[γ.b2]?=some (.cells zF 64 (0,0)):=hX;have W':=hW.storeY x11 xi hx;obtain ⟨b1,b2⟩:=γ;simp only at e1 hX W';obtain ⟨l0,m0⟩:=rd_cell hX 0;obtain ⟨l1,m1⟩:=rd_cell hX 1;obtain ⟨l2,m2⟩:=rd_cell hX 2;obtain ⟨l3,m3⟩:=rd_cell hX 3;obtain ⟨l4,m4⟩:=rd_cell hX 4;obtain ⟨l5,m5⟩:=rd_cell hX 5;obtain ⟨l6,m6⟩:=rd_cell hX 6;obtain ⟨l7,m7⟩:=rd_cell hX 7;obtain ⟨l8,m8⟩:=rd_cell hX 8;simp only [List.getElem?_toArray,List.getElem?_cons_zero,List.getElem?_cons_succ] at l0 l1 l2 l3 l4 l5 l6 l7 l8;go_simp;exact ⟨⟨b1,b2⟩,fun j v _ h=>h,W'⟩
    · intro γ x a z hx hall hI hW;have ha:=RegI.tmps (V:=smV w.heap.size ga oa gb ob k (.slice (some ⟨ga,oa,none⟩) na ca) (.slice (some ⟨gb,ob,none⟩) na cb) f γ) hI (by kernel_rfl) hall;have bX:=(hW.bx (hall 10 (by decide))).2;have bY:=(hW.by' (hall 11 (by decide))).2;rw [if_pos (hall 12 (by decide))] at bX;rw [if_pos (hall 13 (by decide))] at bY;have lo:Hid (Below w1.heap.size w1 z):=hb.out.trans (hW.low.mono hb.out.size);obtain ⟨b1,b2⟩:=γ;simp only at bX bY;simp only [putsL,smV,List.setIfInBounds_toArray,List.set_cons_zero,List.set_cons_succ,Array.getD_eq_getD_getElem?,List.getElem?_toArray,List.getElem?_cons_zero,List.getElem?_cons_succ,Option.getD_some] at ha;subst ha;clear hI hall hx hW x hb al0 bl0 Na Nb hAl hBl;obtain ⟨l0,m0⟩:=rd_cell bX 0;obtain ⟨l1,m1⟩:=rd_cell bX 1;obtain ⟨l2,m2⟩:=rd_cell bX 2;obtain ⟨l3,m3⟩:=rd_cell bX 3;obtain ⟨l4,m4⟩:=rd_cell bX 4;obtain ⟨l5,m5⟩:=rd_cell bX 5;obtain ⟨l6,m6⟩:=rd_cell bX 6;obtain ⟨l7,m7⟩:=rd_cell bX 7;obtain ⟨l8,m8⟩:=rd_cell bX 8;simp only [List.getElem?_toArray,List.getElem?_cons_zero,List.getElem?_cons_succ] at l0 l1 l2 l3 l4 l5 l6 l7 l8;obtain ⟨p0,q0⟩:=rd_cell bY 0;obtain ⟨p1,q1⟩:=rd_cell bY 1;obtain ⟨p2,q2⟩:=rd_cell bY 2;obtain ⟨p3,q3⟩:=rd_cell bY 3;obtain ⟨p4,q4⟩:=rd_cell bY 4;obtain ⟨p5,q5⟩:=rd_cell bY 5;obtain ⟨p6,q6⟩:=rd_cell bY 6;obtain ⟨p7,q7⟩:=rd_cell bY 7;obtain ⟨p8,q8⟩:=rd_cell bY 8;simp only [List.getElem?_toArray,List.getElem?_cons_zero,List.getElem?_cons_succ] at p0 p1 p2 p3 p4 p5 p6 p7 p8
      go_upto_region 7 with fail
      clear bX bY m0 q0 m1 q1 m2 q2 m3 q3 m4 q4 m5 q5 m6 q6 m7 q7 m8 q8;obtain ⟨nm,pl,kd,wd,sn,sd,on,od,un⟩:=f;simp only at *;have kl0:=cell_regrown l0;have kp0:=cell_regrown p0;have kl1:=cell_regrown l1;have kp1:=cell_regrown p1;have kl2:=cell_regrown l2;have kp2:=cell_regrown p2;have kl3:=cell_regrown l3;have kp3:=cell_regrown p3;have kl4:=cell_regrown l4;have kp4:=cell_regrown p4;have kl5:=cell_regrown l5;have kp5:=cell_regrown p5;have kl6:=cell_regrown l6;have kp6:=cell_regrown p6;have kl7:=cell_regrown l7;have kp7:=cell_regrown p7;have kl8:=cell_regrown l8;have kp8:=cell_regrown p8;refine wp_region_quiet_below (by kernel_rfl) (by kernel_rfl) ?_
      repeat (go_big_quiet_step (first
       | (go_at_call 32; with_reducible exact Calls.regrown_of (plain_any sn sd _))
       | (go_at_call 32; with_reducible exact Calls.regrown_of (plain_any on od _))))
      refine wpQuiet_nil ?_;intro _ hw';obtain ⟨⟨dq,osq⟩,hw''⟩:=hw';subst hw'';replace lo:Hid (Below w1.heap.size w1 (Sort.grow (redrawn z dq) osq)):=lo.out.trans ((below_regrown z dq osq).mono lo.out.size);clear kl0 kp0 l0 p0 kl1 kp1 l1 p1 kl2 kp2 l2 p2 kl3 kp3 l3 p3 kl4 kp4 l4 p4 kl5 kp5 l5 p5 kl6 kp6 l6 p6 kl7 kp7 l7 p7 kl8 kp8 l8 p8;generalize Sort.grow (redrawn z dq) osq=w5 at *;go_wp2;exact ⟨⟨k + 1,by omega,by simp,lo⟩,by simp [intOf]; omega⟩
  · obtain rfl:k=na:=by omega
    have hAl:=hAl.out;have hBl:=hBl.out;have lo:Hid (Below w.heap.size w wr):=bA.out.trans (hb.out.mono bA.out.size);go_wp2;go_ret;exact ⟨rfl,lo.out⟩
theorem DvsAt.form {T:TypeId} {x:World} {lv:Value} {ps:List Dn10} (h:DvsAt T x lv ps):∃ p cap,lv=.slice p ps.length cap:=by
 obtain ⟨N,ho⟩:=h.own;rcases own_slice ho with ⟨e,hz⟩ | ⟨g,cap,e,_⟩
 · exact ⟨none,0,by rw [e,hz]⟩
 · exact ⟨_,_,e⟩
theorem DvsAt.at {T:TypeId} {x:World} {p:Option Addr} {n cap:Nat} {ps:List Dn10} (h:DvsAt T x (.slice p n cap) ps) (hn:ps.length=n) {i:Nat} (hi:i < ps.length) :
 ∃ g,p=some ⟨g,0,none⟩∧n≤cap∧∀ k,k < 12→x.cell? ⟨g,i * 12 + k,none⟩=(dvB ps[i].1 ps[i].2.1 ps[i].2.2).toList[k]?:=by
 obtain ⟨N,ho⟩:=h.own;rcases own_slice ho with ⟨e,hz⟩ | ⟨g,c2,e,_⟩
 · omega
 · injection e with e1 e2 e3
   subst e1 e3;refine ⟨g,rfl,own_room ho _ _ _ rfl,fun k hk=>?_⟩;rw [← hn] at ho;rw [World.ownsRow.cellAt ho (i * 12 + k) (by omega),Nat.mul_comm i 12];exact dvCs_get ps i k hi hk
structure DvsR (x:World) (v:Value) (ps:List Dn10):Prop where
 at_:(∃ a c,v=.slice a 0 c∧ps=[]) ∨ ∃ g o cap,v=.slice (some ⟨g,o,none⟩) ps.length cap∧ps.length≤cap∧(∀ j (hj:j < ps.length) k,k < 12→x.cell? ⟨g,o + j * 12 + k,none⟩=(dvB ps[j].1 ps[j].2.1 ps[j].2.2).toList[k]?)∧g < x.heap.size
 fl:∀ p ∈ ps,FldsV x p.2.1 p.1.fs∧BytesW x p.2.2 p.1.rq
theorem DvsR.form {x:World} {v:Value} {ps:List Dn10} (h:DvsR x v ps):∃ p c,v=.slice p ps.length c:=by
 rcases h.at_ with ⟨a,c,h1,rfl⟩ | ⟨g,o,cap,h1,_⟩
 · exact ⟨_,_,h1⟩
 · exact ⟨_,_,h1⟩
theorem DvsR.below {x y:World} {v:Value} {ps:List Dn10} (h:DvsR x v ps) (hb:Below x.heap.size x y):DvsR y v ps:=by
 refine ⟨?_,fun p hp=>⟨(h.fl p hp).1.below hb,(h.fl p hp).2.below hb⟩⟩;rcases h.at_ with h1 | ⟨g,o,cap,h1,h2,h3,h4⟩
 · exact .inl h1
 · exact .inr ⟨g,o,cap,h1,h2,fun j hj k hk=>(hb.cell (p:=⟨g,o + j * 12 + k,none⟩) h4).trans (h3 j hj k hk),Nat.lt_of_lt_of_le h4 hb.size⟩
theorem DvsR.at {x:World} {p:Option Addr} {n cap:Nat} {ps:List Dn10} (h:DvsR x (.slice p n cap) ps) (hn:ps.length=n) {i:Nat} (hi:i < ps.length) :
 ∃ g o,p=some ⟨g,o,none⟩∧n≤cap∧g < x.heap.size∧(∀ k,k < 12→x.cell? ⟨g,o + i * 12 + k,none⟩=(dvB ps[i].1 ps[i].2.1 ps[i].2.2).toList[k]?)∧FldsV x ps[i].2.1 ps[i].1.fs∧BytesW x ps[i].2.2 ps[i].1.rq:=by
 have hf:=h.fl _ (List.getElem_mem hi);rcases h.at_ with ⟨a,c,h1,rfl⟩ | ⟨g,o,c2,h1,h2,h3,h4⟩
 · exact absurd hi (by simp)
 · injection h1 with e1 e2 e3
   subst e1 e3;exact ⟨g,o,rfl,by omega,h4,h3 i hi,hf.1,hf.2⟩
theorem row12 {x:World} {g o:Nat} {d:Dv} {fv qv:Value} (h:∀ k,k < 12→x.cell? ⟨g,o + k,none⟩=(dvB d fv qv).toList[k]?) :
 x.cell? ⟨g,o,none⟩=some (.string (txt d.nm))∧x.cell? ⟨g,o + 1,none⟩=some (.int .i64 d.st)∧x.cell? ⟨g,o + 2,none⟩=some (.int .i64 d.es)∧x.cell? ⟨g,o + 3,none⟩=some (.int .i64 d.mx)∧x.cell? ⟨g,o + 4,none⟩=some (.int .i64 d.sz)∧x.cell? ⟨g,o + 5,none⟩=some (.string (txt d.sm))∧x.cell? ⟨g,o + 6,none⟩=some fv∧x.cell? ⟨g,o + 7,none⟩=some qv∧x.cell? ⟨g,o + 8,none⟩=some (.int .i64 d.po)∧x.cell? ⟨g,o + 9,none⟩=some (.int .i64 d.ti)∧x.cell? ⟨g,o + 10,none⟩=some (.int .i64 d.re)∧x.cell? ⟨g,o + 11,none⟩=some (.int .i64 d.ag):=
 ⟨h 0 (by decide),h 1 (by decide),h 2 (by decide),h 3 (by decide),h 4 (by decide),h 5 (by decide),h 6 (by decide),h 7 (by decide),h 8 (by decide),h 9 (by decide),h 10 (by decide),h 11 (by decide)⟩
theorem blk12 {x:World} {b:Nat} {d:Dv} {fv qv:Value} {T:TypeId} (h:x.heap[b]?=some (.cells (dvB d fv qv) T (0,0))) :
 (x.cell? ⟨b,0,none⟩=some (.string (txt d.nm))∧x.cell? ⟨b,1,none⟩=some (.int .i64 d.st)∧x.cell? ⟨b,2,none⟩=some (.int .i64 d.es)∧x.cell? ⟨b,3,none⟩=some (.int .i64 d.mx)∧x.cell? ⟨b,4,none⟩=some (.int .i64 d.sz)∧x.cell? ⟨b,5,none⟩=some (.string (txt d.sm))∧x.cell? ⟨b,6,none⟩=some fv∧x.cell? ⟨b,7,none⟩=some qv∧x.cell? ⟨b,8,none⟩=some (.int .i64 d.po)∧x.cell? ⟨b,9,none⟩=some (.int .i64 d.ti)∧x.cell? ⟨b,10,none⟩=some (.int .i64 d.re)∧x.cell? ⟨b,11,none⟩=some (.int .i64 d.ag))∧True:=by
 have k:∀ i,x.cell? ⟨b,i,none⟩=(dvB d fv qv)[i]?:=fun i=>(rd_cell h i).1
 exact ⟨⟨k 0,k 1,k 2,k 3,k 4,k 5,k 6,k 7,k 8,k 9,k 10,k 11⟩,trivial⟩
end Go.Proofs.YthabffjgdhfbmaaGreatDoor
