/-
  Texts that belong together, one behind the other: ShBlL, LexLaid. Conditions: as each says.
-/
import Derived.Below
import Derived.BigQuiet
import Derived.BigRegion
import Derived.ChangeOld
import Derived.Deep.CutRange
import Derived.Deep.QuietTactic
import Derived.Deep.RegionHeld3
import Derived.Deep.RegionWith
import Derived.Great.BuildSlice
import Derived.Handy
import Derived.Laws.BitsAllLaws
import Derived.Laws.OwnMore
import Derived.Laws.Shifts
import Derived.Laws.Tables
import Derived.Lib.QuietBelowIn
import Derived.MakeChecks
import Derived.Maps.AppendAt
import Derived.OpenShut
import Derived.OwnWalk
import Derived.ProofKit
import Derived.RangeFuncBox
import Derived.RangeFuncCalls
import Derived.ShutString
import Derived.Sort.BigQuietIn
import Derived.Stop.LaidErr
import Derived.Test.YthabffjgdhfbmaaGreatDoorProg
import Derived.Test.YthabffjgdhfbmaaGreatDoorRows
import Derived.WalkKit
import Derived.WalkLawsBesides
import Derived.WalkSpells
import Derived.Test.YthabffjgdhfbmaaGreatDoorJb1
import Derived.Test.YthabffjgdhfbmaaGreatDoorJb2
import Derived.Test.YthabffjgdhfbmaaGreatDoorJb3
import Derived.Test.YthabffjgdhfbmaaGreatDoorJb4
import Derived.Test.YthabffjgdhfbmaaGreatDoorJb5
import Derived.Test.YthabffjgdhfbmaaGreatDoorJb6
import Derived.Test.YthabffjgdhfbmaaGreatDoorJb7
import Derived.Test.YthabffjgdhfbmaaGreatDoorJb8
import Derived.Test.YthabffjgdhfbmaaGreatDoorJb9
import Derived.Test.YthabffjgdhfbmaaGreatDoorJb10
import Derived.Test.YthabffjgdhfbmaaGreatDoorJb11
import Derived.Test.YthabffjgdhfbmaaGreatDoorJb12
import Derived.Test.YthabffjgdhfbmaaGreatDoorJb13
import Derived.Test.YthabffjgdhfbmaaGreatDoorJb14
import Derived.Test.YthabffjgdhfbmaaGreatDoorJb15
import Derived.Test.YthabffjgdhfbmaaGreatDoorJb16
import Derived.Test.YthabffjgdhfbmaaGreatDoorJb17
set_option maxRecDepth 100000
set_option maxHeartbeats 32000000
set_option linter.unusedVariables false
namespace Go.Proofs.YthabffjgdhfbmaaGreatDoor
open Go.RowKit
def ShDvC (w:World) (s:ByteArray) (T:List Dv × Int × Nat):Prop:=∀ x,Below w.heap.size w x→Calls Tryz.prog 19 #[.string s] x (LinesQ 33 x T)
def ShAlC (L:List Dv) (T:Wd × Nat):Prop:=∀ v x ps,DvsAt 33 x v ps→ps.map (·.1)=L→Calls Tryz.prog 18 #[v] x (AllQ x T)
theorem bl_long (w:World) (aw:Hid (ShAwC w)) (s:ByteArray) (q1:decide (4100 < (s.size:Int))=true) :
 Calls Tryz.prog 6 #[.string s] w fun e y=>e=.returned (.bool true)∧Below w.heap.size w y:=by
 go_enter Tryz.func6,Tryz.ntmps6
 go_wp2_with fail
 refine (aw.out w (Below.refl _ _)).mono ?_;rintro e y ⟨rfl,hb⟩;replace hb:Hid (Below w.heap.size w y):=hb
 go_wp2_with fail
 refine (aw.out y hb.out).mono ?_;rintro e y2 ⟨rfl,hb2⟩;have hb3:Hid (Below w.heap.size w y2):=hb.out.trans (hb2.mono hb.out.size);clear hb hb2;go_wp2;go_ret;exact ⟨rfl,hb3.out⟩
theorem bl_bad (w:World) (aw:Hid (ShAwC w)) (s:ByteArray) (q1:decide (4100 < (s.size:Int))=false) (rs:List Ln) (LL:List Dv) (hLL:Hid (LL=[])) (P:Int) (EN:Nat) (dv:Hid (ShDvC w s (LL,P,EN))) (rr:Hid (ShRrC s P (EN:Int) rs)) (h0:((EN:Int) == 0)=false) :
 Calls Tryz.prog 6 #[.string s] w fun e y=>e=.returned (.bool true)∧Below w.heap.size w y:=by
 have h9:(((EN:Nat):Int) != 0)=true:=by rw [bne,h0]; rfl
 have hEE:(((EN:Nat):Int) == ((EN:Nat):Int))=true:=by simp
 have hPP:(P == P)=true:=by simp
 go_enter Tryz.func6,Tryz.ntmps6
 go_wp2_with fail
 refine (aw.out w (Below.refl _ _)).mono ?_;rintro e y ⟨rfl,hb⟩;replace hb:Hid (Below w.heap.size w y):=hb;clear aw
 go_wp2_with fail
 refine (dv.out y hb.out).mono ?_;rintro e y1 ⟨lv,ps,rfl,h1,h2,h3⟩;obtain ⟨pl,cl,rfl⟩:=h2.form;have B1:Hid (Below w.heap.size w y1):=hb.out.trans (h3.mono hb.out.size);have h1':Hid (ps.map (·.1)=LL):=h1;have h2':Hid (DvsAt 33 y1 (.slice pl ps.length cl) ps):=h2;clear h1 h2 h3 hb dv
 go_wp2_with fail
 refine (rr.out y1).mono ?_;rintro e y2 ⟨v,rfl,hv,hb2⟩;have B2:Hid (Below w.heap.size w y2):=B1.out.trans (hb2.mono B1.out.size);clear hb2 hv B1 rr h2';have hps:ps=[]:=List.map_eq_nil_iff.1 (h1'.out.trans hLL.out);subst hps;clear h1' hLL;simp only [List.length_nil];go_wp2;go_ret;exact ⟨rfl,B2.out⟩
theorem bl_err (w:World) (aw:Hid (ShAwC w)) (s:ByteArray) (q1:decide (4100 < (s.size:Int))=false) (rs:List Ln) (LL:List Dv) (hLL:Hid (LL=[])) (L P:Int) (EN:Nat) (dv:Hid (ShDvC w s (LL,P,EN))) (rr:Hid (ShRrC s L 0 rs)) (h0:((EN:Int) == 0)=false)
 (hx:Hid (∃ r ∈ lrOf rs,r.1=P)) (hbd:Hid (((lrOf rs).length:Int)≤4500)) :
 Calls Tryz.prog 6 #[.string s] w fun e y=>e=.returned (.bool true)∧Below w.heap.size w y:=by
 have h9:(((EN:Nat):Int) != 0)=true:=by rw [bne,h0]; rfl
 go_enter Tryz.func6,Tryz.ntmps6
 go_wp2_with fail
 refine (aw.out w (Below.refl _ _)).mono ?_;rintro e y ⟨rfl,hb⟩;replace hb:Hid (Below w.heap.size w y):=hb;clear aw
 go_wp2_with fail
 refine (dv.out y hb.out).mono ?_;rintro e y1 ⟨lv,ps,rfl,h1,h2,h3⟩;obtain ⟨pl,cl,rfl⟩:=h2.form;have B1:Hid (Below w.heap.size w y1):=hb.out.trans (h3.mono hb.out.size);have h1':Hid (ps.map (·.1)=LL):=h1;have h2':Hid (DvsAt 33 y1 (.slice pl ps.length cl) ps):=h2;clear h1 h2 h3 hb dv
 go_wp2_with fail
 refine (rr.out y1).mono ?_;rintro e y2 ⟨v,rfl,hv,hb2⟩;have B2:Hid (Below w.heap.size w y2):=B1.out.trans (hb2.mono B1.out.size);have hv2:=lrs_of hv;generalize lrOf rs=R at *;obtain ⟨p,c,rfl⟩:=hv2.form;obtain ⟨n,hn⟩:∃ n,R.length=n:=⟨_,rfl⟩;rw [hn] at hv2 hbd ⊢;have hnn:Hid (R.length=n):=hn;have hv3:Hid (LrsAt y2 (.slice p n c) R):=hv2;have h45:=hbd.out;have hps:ps=[]:=List.map_eq_nil_iff.1 (h1'.out.trans hLL.out);subst hps;clear hb2 hv B1 rr h2' h1' hLL hv2 hn hbd;simp only [List.length_nil]
 go_wp2_with fail
 go_loop [9,10] (fun vf vi=>∃ (i:Nat) (fb:Bool),(i:Int)≤(n:Int)∧vi=.int .i64 (i:Int)∧vf=.bool fb∧Hid (fb=false→∀ r ∈ R.take i,¬ r.1=P)) (fun vf vi=>n - (intOf vi).toNat)
 case atStart=>exact ⟨0,false,by omega,rfl,rfl,fun _ r hr=>by simp at hr⟩
 case round=>
  obtain ⟨i,fb,hi,rfl,rfl,hf⟩:=hrel
  by_cases hlt:i < n
  · have hki:(i:Int) < (n:Int):=by omega
    have hiR:i < R.length:=by have:=hnn.out; omega
    obtain ⟨g,o,u,rfl,c0,c1,_⟩:=hv3.out.at hnn.out hiR;have hnx:Hid (fb=false→¬ R[i].1=P→∀ r ∈ R.take (i + 1),¬ r.1=P):=by
     intro h h' r hr;rw [List.take_add_one,List.getElem?_eq_getElem hiR] at hr;rcases List.mem_append.1 hr with hr | hr
     · exact hf.out h r hr
     · have e:r=R[i]:=by simpa using hr
       rw [e]; exact h'
    generalize R[i].1=q at *;clear hf c1
    cases fb with
    | true=>
     clear hnx c0;go_wp2;exact ⟨⟨i + 1,true,by omega,by simp,rfl,fun h=>by cases h⟩,by simp [intOf]; omega⟩
    | false=>
     by_cases hq:q=P
     · have tq:(q == P)=true:=beq_iff_eq.2 hq;clear hnx;go_wp2;exact ⟨⟨i + 1,true,by omega,by simp,rfl,fun h=>by cases h⟩,by simp [intOf]; omega⟩
     · have tq:(q == P)=false:=beq_eq_false_iff_ne.2 hq;have nx:=hnx.out rfl hq;replace nx:Hid (∀ r ∈ R.take (i + 1),¬ r.1=P):=nx;clear hnx;go_wp2;exact ⟨⟨i + 1,false,by omega,by simp,rfl,fun _=>nx.out⟩,by simp [intOf]; omega⟩
  · obtain rfl:i=n:=by omega
    have hfb:fb=true:=by
     cases fb with
     | true=>rfl
     | false=>
      obtain ⟨r,hr,e⟩:=hx.out;exact absurd e (hf.out rfl r (by rw [List.take_of_length_le (by have:=hnn.out; omega)]; exact hr))
    subst hfb;clear hf;go_wp2;go_ret;exact ⟨rfl,B2.out⟩
theorem bl_ok (w:World) (aw:Hid (ShAwC w)) (s:ByteArray) (q1:decide (4100 < (s.size:Int))=false) (rs:List Ln) (LL:List Dv) (L:Int) (dv:Hid (ShDvC w s (LL,0,0))) (rr:Hid (ShRrC s L 0 rs)) (t:Wd) (f:Nat) (al:Hid (ShAlC LL (t,f)))
 (hd:Hid (LL.length=(lrOf rs).countP isDev)) (hne:Hid (∀ r ∈ lrOf rs,¬ r.2=[])) (hf:Hid (f=7 ∨ f=0∧(0 < t.length ∨ LL.length=0))) (hbd:Hid (((lrOf rs).length:Int)≤4500)) :
 Calls Tryz.prog 6 #[.string s] w fun e y=>e=.returned (.bool true)∧Below w.heap.size w y:=by
 go_enter Tryz.func6,Tryz.ntmps6
 go_wp2_with fail
 refine (aw.out w (Below.refl _ _)).mono ?_;rintro e y ⟨rfl,hb⟩;replace hb:Hid (Below w.heap.size w y):=hb;clear aw
 go_wp2_with fail
 refine (dv.out y hb.out).mono ?_;rintro e y1 ⟨lv,ps,rfl,h1,h2,h3⟩;obtain ⟨pl,cl,rfl⟩:=h2.form;have B1:Hid (Below w.heap.size w y1):=hb.out.trans (h3.mono hb.out.size);have h1':Hid (ps.map (·.1)=LL):=h1;have h2':Hid (DvsAt 33 y1 (.slice pl ps.length cl) ps):=h2;clear h1 h2 h3 hb dv
 go_wp2_with fail
 refine (rr.out y1).mono ?_;rintro e y2 ⟨v,rfl,hv,hb2⟩;have B2:Hid (Below w.heap.size w y2):=B1.out.trans (hb2.mono B1.out.size);have hv2:=lrs_of hv;have D2:Hid (DvsAt 33 y2 (.slice pl ps.length cl) ps):=h2'.out.below hb2;have hpl:ps.length=LL.length:=by rw [← h1'.out,List.length_map]
 have alc:Hid (Calls Tryz.prog 18 #[.slice pl ps.length cl] y2 (AllQ y2 (t,f))):=al.out _ y2 ps D2.out h1'.out;rw [hd.out] at hpl;rw [hpl] at alc ⊢;generalize lrOf rs=R at *;obtain ⟨p,c,rfl⟩:=hv2.form;obtain ⟨n,hn⟩:∃ n,R.length=n:=⟨_,rfl⟩;rw [hn] at hv2 hbd ⊢;have hnn:Hid (R.length=n):=hn;have hv3:Hid (LrsAt y2 (.slice p n c) R):=hv2;have h45:=hbd.out;obtain ⟨m,hm⟩:∃ m,R.countP isDev=m:=⟨_,rfl⟩;rw [hm] at alc hd ⊢;have hmm:Hid (R.countP isDev=m):=hm;clear hb2 hv B1 rr h2' h1' hv2 hn hbd hm hpl D2 al
 go_wp2_with fail
 go_loop [11,12] (fun vh vi=>∃ (i k:Nat),(i:Int)≤(n:Int)∧vi=.int .i64 (i:Int)∧vh=.int .i64 (k:Int)∧k≤i∧Hid (k=(R.take i).countP isDev)) (fun vh vi=>n - (intOf vi).toNat)
 case atStart=>exact ⟨0,0,by omega,rfl,rfl,by omega,by unfold Hid; simp⟩
 case round=>
  obtain ⟨i,k,hi,rfl,rfl,hki0,hf2⟩:=hrel
  by_cases hlt:i < n
  · have hki:(i:Int) < (n:Int):=by omega
    have hiR:i < R.length:=by have:=hnn.out; omega
    obtain ⟨g,o,u,rfl,c0,c1,hu⟩:=hv3.out.at hnn.out hiR;obtain ⟨g2,o2,m2,c2,z,rfl,hm2,hz,c3⟩:=hu.one (hne.out _ (List.getElem_mem hiR));have hcn:=count_next hiR;have hE:=isDev_eq hz;generalize isDev R[i]=H at *;clear hz c0 hu;have hm3:(0:Int) < (m2:Int):=by omega
    generalize txt z=S at *
    cases H with
    | true=>
     have nx:Hid (k + 1=(R.take (i + 1)).countP isDev):=by unfold Hid; rw [hcn,if_pos rfl,← hf2.out]
     clear hcn hf2;go_wp2;exact ⟨⟨i + 1,k + 1,by omega,by simp,by simp,by omega,nx⟩,by simp [intOf]; omega⟩
    | false=>
     have nx:Hid (k=(R.take (i + 1)).countP isDev):=by unfold Hid; rw [hcn,if_neg (by decide),Nat.add_zero,← hf2.out]
     clear hcn hf2;go_wp2;exact ⟨⟨i + 1,k,by omega,by simp,rfl,by omega,nx⟩,by simp [intOf]; omega⟩
  · obtain rfl:i=n:=by omega
    have ek:k=m:=by rw [hf2.out,List.take_of_length_le (by have:=hnn.out; omega),hmm.out]
    subst ek;have hkk:(((k:Nat):Int) == ((k:Nat):Int))=true:=by simp
    clear hf2 hmm hv3 hne;have hf3:=hf.out;rw [hd.out] at hf3;clear hf hd
    go_wp2_with fail
    refine alc.out.mono ?_;rintro e y3 ⟨rfl,hb3⟩;have B3:Hid (Below w.heap.size w y3):=B2.out.trans (hb3.mono B2.out.size);clear hb3 alc;rcases hf3 with rfl | ⟨rfl,hf3⟩
    · by_cases hk0:k=0
      · subst hk0;generalize txt t=S at *;go_wp2;go_ret;exact ⟨rfl,B3.out⟩
      · have hk1:(((k:Nat):Int) == 0)=false:=beq_eq_false_iff_ne.2 (by omega);generalize txt t=S at *;go_wp2;go_ret;exact ⟨rfl,B3.out⟩
    · by_cases hk0:k=0
      · subst hk0;clear hf3;generalize txt t=S at *
        by_cases hS:S=ByteArray.empty
        · subst hS;go_wp2;go_ret;exact ⟨rfl,B3.out⟩
        · have hS1:0 < S.size:=Nat.pos_of_ne_zero fun h=>hS (ByteArray.size_eq_zero_iff.1 h)
          have hS2:decide ((0:Int) < (S.size:Int))=true:=decide_eq_true (by omega);go_wp2;go_ret;exact ⟨rfl,B3.out⟩
      · have hk1:(((k:Nat):Int) == 0)=false:=beq_eq_false_iff_ne.2 (by omega);have zs:=txt_size t;have hS1:0 < (txt t).size:=by omega
        have hS2:decide ((0:Int) < ((txt t).size:Int))=true:=decide_eq_true (by omega);have hS:¬ txt t=ByteArray.empty:=fun h=>by rw [h] at hS1; exact absurd hS1 (by decide)
        clear hf3 zs;generalize txt t=S at *;go_wp2;go_ret;exact ⟨rfl,B3.out⟩
theorem showblocks_any (w:World) (T7:Tab7 w) (s:ByteArray) :
 Calls Tryz.prog 6 #[.string s] w fun e y=>e=.returned (.bool true)∧Below w.heap.size w y:=by
 have aw:Hid (ShAwC w):=shAwC T7
 by_cases hl:4100 < (s.size:Int)
 · exact bl_long w aw s (decide_eq_true hl)
 · have q1:decide (4100 < (s.size:Int))=false:=decide_eq_false hl;have dv:ShDvC w s (devicesM s.data.toList):=fun x hx=>devices_any s x (T7.below hx)
   have rr:ShRrC s ((lexLine s.data.toList:Nat):Int) ((lexErr s.data.toList:Nat):Int) (lexRows s.data.toList):=fun x=>rrows_any s x
   by_cases h0:lexErr s.data.toList=0
   · have eT:devicesM s.data.toList=linesM (lrOf (lexRows s.data.toList)):=by unfold devicesM; rw [if_pos h0]
     have bd:=(lines_bd s.data.toList).1;rw [eT] at dv;rw [h0] at rr;generalize lexRows s.data.toList=rs at *
     by_cases h1:(linesM (lrOf rs)).2.2=0
     · obtain ⟨k1,k2,k3,k4⟩:=lines_heads h1;generalize hT:linesM (lrOf rs)=T at *;obtain ⟨L,P,E⟩:=T;simp only at h1 k1 k3 k4;subst h1 k4;have al:Hid (ShAlC L ((allM [] [] L).1,(allM [] [] L).2)):=fun v x ps hp he=>by
        have hk:=all_any v x ps hp.r (fun p hp2=>by
         have hm:p.1 ∈ L:=by rw [← he]; exact List.mem_map.2 ⟨p,hp2,rfl⟩
         obtain ⟨_,hj,h8⟩:=k3.ok _ hm;exact ⟨hj.i h8,hj.rq⟩) hp.max
        rwa [he] at hk
       have hgood:=fun h=>(all_good L [] [] List.nodup_nil (by simp) h).1
       have hf:Hid ((allM [] [] L).2=7 ∨ (allM [] [] L).2=0∧(0 < (allM [] [] L).1.length ∨ L.length=0)):=by
        rcases k3.ways with h | h
        · refine .inr ⟨h,?_⟩
          by_cases hL:L=[]
          · exact .inr (by rw [hL]; rfl)
          · exact .inl (by rw [hgood h]; simpa using flat_ne hL)
        · exact .inl h
       exact bl_ok w aw s q1 rs L _ dv rr _ _ al k1 k2 hf bd
     · obtain ⟨k1,k2⟩:=lines_bad h1;generalize linesM (lrOf rs)=T at *;obtain ⟨L,P,E⟩:=T;simp only at h1 k1 k2;exact bl_err w aw s q1 rs L k1 _ P E dv rr (beq_eq_false_iff_ne.2 (by omega)) k2 bd
   · have eT:devicesM s.data.toList=([],(lexLine s.data.toList:Int),lexErr s.data.toList):=by unfold devicesM; rw [if_neg h0]
     rw [eT] at dv;exact bl_bad w aw s q1 _ [] rfl _ _ dv rr (beq_eq_false_iff_ne.2 (by omega))
theorem laid_space:(Rows.laid_strings_asciiSpace:DataW Unit)=Lib.tabData .u8 Lib.asciiSpaceTab:=by kernel_rfl
theorem tab7_of {W : World} (h : laidMetH Tryz.prog [("unicode.White_Space", Rows.laid_unicode_White_Space), ("strings.asciiSpace", Rows.laid_strings_asciiSpace)] W) : Tab7 W := by
 rw [MakeChecks.laidMetH_plain _ _ _ (by kernel_rfl)] at h;have h2:=h.tail;rw [laid_space] at h2;exact Tab7.of (Lib.tabIs_of_head (g:=0) (t:=170) (e:=5) (n:=256) (by kernel_rfl) (by kernel_rfl) Tryz.underlying170 Tryz.underlying5 (by kernel_rfl) (by kernel_rfl) h2)
end Go.Proofs.YthabffjgdhfbmaaGreatDoor
