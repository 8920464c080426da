/-
  Texts that belong together, one behind the other: DsBk1. Conditions: as each says.
-/
import Derived.BigQuiet
import Derived.Deep.CutRange
import Derived.Deep.QuietTactic
import Derived.Deep.RegionHeld3
import Derived.Lib.QuietBelowIn
import Derived.Maps.AppendAt
import Derived.RangeFuncCalls
import Derived.Sort.BigQuietIn
import Derived.Test.YthabffjgdhfbmaaGreatDoorProg
import Derived.Test.YthabffjgdhfbmaaGreatDoorJm1
import Derived.Test.YthabffjgdhfbmaaGreatDoorJm2
import Derived.Test.YthabffjgdhfbmaaGreatDoorJm3
import Derived.Test.YthabffjgdhfbmaaGreatDoorJm4
import Derived.Test.YthabffjgdhfbmaaGreatDoorJm5
import Derived.Test.YthabffjgdhfbmaaGreatDoorJm6
import Derived.Test.YthabffjgdhfbmaaGreatDoorJm7
import Derived.Test.YthabffjgdhfbmaaGreatDoorJm8
set_option maxRecDepth 100000
set_option maxHeartbeats 32000000
set_option linter.unusedVariables false
namespace Go.Proofs.YthabffjgdhfbmaaGreatDoor
open Go.RowKit
def isDev (r:Lr):Bool:=
 match r.2 with
 | []=>false
 | f :: _=>decide (f=kDev)
structure BkR (rs:List Lr) (bs:List (List Lr)):Prop where
 flat:bs.flatten=rs
 ne:∀ b ∈ bs,b ≠ []
 tl:∀ b ∈ bs,∀ r ∈ b.tail,isDev r=false
 hd:∀ b ∈ bs.tail,∀ r ∈ b.head?,isDev r=true
theorem BkR.nil:BkR [] []:=⟨rfl,fun b h=>(by cases h),fun b h=>(by cases h),fun b h=>(by cases h)⟩
theorem BkR.new {rs:List Lr} {bs:List (List Lr)} (h:BkR rs bs) {r:Lr} (hr:bs=[] ∨ isDev r=true):BkR (rs ++ [r]) (bs ++ [ [r] ]):=by
 refine ⟨by rw [List.flatten_append,h.flat]; simp,fun b hb=>?_,fun b hb=>?_,fun b hb=>?_⟩
 · rcases List.mem_append.1 hb with hb | hb
   · exact h.ne b hb
   · rw [List.mem_singleton.1 hb]; simp
 · rcases List.mem_append.1 hb with hb | hb
   · exact h.tl b hb
   · rw [List.mem_singleton.1 hb]; intro q hq; cases hq
 · cases bs with
   | nil=>cases hb
   | cons c bs=>
    rcases List.mem_append.1 hb with hb | hb
    · exact h.hd b hb
    · rw [List.mem_singleton.1 hb];intro q hq;have e:r=q:=by simpa using hq
      subst e;exact hr.resolve_left (by simp)
theorem BkR.old {rs:List Lr} {bs:List (List Lr)} {c:List Lr} (h:BkR rs (bs ++ [c])) {r:Lr} (hr:isDev r=false):BkR (rs ++ [r]) (bs ++ [c ++ [r]]):=by
 have hc:c ≠ []:=h.ne c (by simp);refine ⟨by rw [← h.flat]; simp,fun b hb=>?_,fun b hb=>?_,fun b hb=>?_⟩
 · rcases List.mem_append.1 hb with hb | hb
   · exact h.ne b (by simp [hb])
   · rw [List.mem_singleton.1 hb]; simp
 · rcases List.mem_append.1 hb with hb | hb
   · exact h.tl b (by simp [hb])
   · rw [List.mem_singleton.1 hb];intro q hq;rw [List.tail_append_of_ne_nil hc] at hq;rcases List.mem_append.1 hq with hq | hq
     · exact h.tl c (by simp) q hq
     · rw [List.mem_singleton.1 hq]; exact hr
 · cases bs with
   | nil=>cases hb
   | cons d bs=>
    rcases List.mem_append.1 hb with hb | hb
    · exact h.hd b (by simp [hb])
    · rw [List.mem_singleton.1 hb];intro q hq;have e:(c ++ [r]).head?=c.head?:=by
       cases c with
       | nil=>exact absurd rfl hc
       | cons a c=>rfl
      rw [e] at hq;exact h.hd c (by simp) q hq
abbrev outR (cs:List (List Rn)):List (List Lr):=cs.map fun c=>c.map (·.1)
theorem BkR.some {rs:List Lr} {cs:List (List Rn)} (h:BkR rs (outR cs)) (hr:rs ≠ []):cs ≠ []:=by
 intro e;subst e;exact hr h.flat.symm
structure BkG where
 p:Option Addr
 c:Nat
 b:Nat
 g:Nat
 cap:Nat
def bkV (go K capo N rb:Nat) (u:Value) (ln:Int) (pu:Option Addr) (m cu n:Nat) (γ:BkG):Nat→Value
 | 0=>.slice (some ⟨go,0,none⟩) N capo
 | 1=>.int .i64 (K:Int)
 | 2=>.slice (some ⟨go,0,none⟩) N capo
 | 3=>.int .i64 (K:Int)
 | 4=>.pointer (some ⟨go,K,none⟩)
 | 5=>u
 | 6=>.pointer (some ⟨rb,0,none⟩)
 | 7=>.int .i64 ln
 | 8=>.pointer (some ⟨rb,1,none⟩)
 | 9=>.slice pu m cu
 | 10=>.slice γ.p m γ.c
 | 11=>.agg #[.int .i64 ln,.slice γ.p m γ.c]
 | 12=>.slice (some ⟨γ.b,0,none⟩) 1 1
 | 13=>.slice (some ⟨γ.g,0,none⟩) (n + 1) γ.cap
 | 14=>.pointer (some ⟨go,K,none⟩)
 | _=>undef
def BkP (go K capo N rb:Nat) (u:Value) (ln:Int) (pu:Option Addr) (m cu n:Nat) (γ:BkG) (i:Nat) (v:Value):Prop:=v=bkV go K capo N rb u ln pu m cu n γ i
theorem bkV_pc {go K capo N rb:Nat} {u:Value} {ln:Int} {pu:Option Addr} {m cu n:Nat} {γ:BkG} {p:Option Addr} {c:Nat} {j:Nat} (h1:j ≠ 10) (h2:j ≠ 11):bkV go K capo N rb u ln pu m cu n γ j=bkV go K capo N rb u ln pu m cu n ⟨p,c,γ.b,γ.g,γ.cap⟩ j:=by
 unfold bkV
 split <;> first | rfl | (exact absurd rfl h1) | (exact absurd rfl h2)
theorem bkV_b {go K capo N rb:Nat} {u:Value} {ln:Int} {pu:Option Addr} {m cu n:Nat} {γ:BkG} {b:Nat} {j:Nat} (h1:j ≠ 12):bkV go K capo N rb u ln pu m cu n γ j=bkV go K capo N rb u ln pu m cu n ⟨γ.p,γ.c,b,γ.g,γ.cap⟩ j:=by
 unfold bkV
 split <;> first | rfl | (exact absurd rfl h1)
theorem bkV_g {go K capo N rb:Nat} {u:Value} {ln:Int} {pu:Option Addr} {m cu n:Nat} {γ:BkG} {g cap:Nat} {j:Nat} (h1:j ≠ 13):bkV go K capo N rb u ln pu m cu n γ j=bkV go K capo N rb u ln pu m cu n ⟨γ.p,γ.c,γ.b,g,cap⟩ j:=by
 unfold bkV
 split <;> first | rfl | (exact absurd rfl h1)
structure BkA (w wq:World) (u:Value) (c:List Rn) (ln:Int) (ws:List Wd) (m:Nat) (γ:BkG) (z3:World):Prop where
 z:∃ z2,Below wq.heap.size wq z2∧z2.grownBy z3 u.ownBlock∧(u.ownBlock=some γ.g ∨ z2.heap.size≤γ.g)∧WcAt w.heap.size z2 (.slice γ.p m γ.c) ws
 own:z3.ownsRow w.heap.size 56 2 (.slice (some ⟨γ.g,0,none⟩) (c.length + 1) γ.cap) (c.length + 1) (rnC c ++ [.int .i64 ln,.slice γ.p m γ.c])
structure BkW (w wq:World) (go K:Nat) (u:Value) (c:List Rn) (ln:Int) (ws:List Wd) (m:Nat) (γ:BkG) (x:Array Bool) (z:World):Prop where
 a:x.getD 13 false=false→Below wq.heap.size wq z
 bl:x.getD 12 false=true→x.getD 13 false=false→z.heap[γ.b]?=some (.cells #[.int .i64 ln,.slice γ.p m γ.c] 56 (0,0))
 ap:x.getD 13 false=true→∃ z3,BkA w wq u c ln ws m γ z3∧(x.getD 15 false=false→z=z3)∧(x.getD 15 false=true→z=z3.setCell ⟨go,K,none⟩ (.slice (some ⟨γ.g,0,none⟩) (c.length + 1) γ.cap))
 cl:x.getD 10 false=true→x.getD 13 false=false→WcAt w.heap.size z (.slice γ.p m γ.c) ws
theorem BkW.other {w wq:World} {go K:Nat} {u:Value} {c:List Rn} {ln:Int} {ws:List Wd} {m:Nat} {γ:BkG} {x:Array Bool} {z:World} (h:BkW w wq go K u c ln ws m γ x z) {i:Nat} (h10:i ≠ 10) (h12:i ≠ 12) (h13:i ≠ 13) (h15:i ≠ 15):BkW w wq go K u c ln ws m γ (x.setIfInBounds i true) z:=by
 refine ⟨?_,?_,?_,?_⟩
 · rw [getD_set_ne false h13]; exact h.a
 · rw [getD_set_ne false h12,getD_set_ne false h13]; exact h.bl
 · rw [getD_set_ne false h13,getD_set_ne false h15]; exact h.ap
 · rw [getD_set_ne false h10,getD_set_ne false h13]; exact h.cl
theorem no_bit {x:Array Bool} {i j:Nat} (hi:x.getD i false=false) (h:x.getD j false=true→x.getD i false=true):x.getD j false=false:=by
 cases e:x.getD j false with
 | false=>rfl
 | true=>rw [h e] at hi; cases hi
theorem BkW.call {w wq:World} {go K:Nat} {u:Value} {c:List Rn} {ln:Int} {ws:List Wd} {m:Nat} {γ:BkG} {x:Array Bool} {z z':World} (h:BkW w wq go K u c ln ws m γ x z) (h12:x.getD 12 false=false) (h13:x.getD 13 false=false) (hb:Below z.heap.size z z') (p:Option Addr) (cc:Nat) (hwc:WcAt w.heap.size z' (.slice p m cc) ws):BkW w wq go K u c ln ws m ⟨p,cc,γ.b,γ.g,γ.cap⟩ (x.setIfInBounds 10 true) z':=by
 refine ⟨fun _=>?_,?_,?_,fun _ _=>hwc⟩
 · have k:=h.a h13; exact k.trans (hb.mono k.size)
 · rw [getD_set_ne false (by decide),h12]; intro e; cases e
 · rw [getD_set_ne false (by decide),h13]; intro e; cases e
theorem BkW.block {w wq:World} {go K:Nat} {u:Value} {c:List Rn} {ln:Int} {ws:List Wd} {m:Nat} {γ:BkG} {x:Array Bool} {z:World} (h:BkW w wq go K u c ln ws m γ x z) (h13:x.getD 13 false=false):BkW w wq go K u c ln ws m ⟨γ.p,γ.c,z.heap.size,γ.g,γ.cap⟩ (x.setIfInBounds 12 true) (z.alloc (.cells #[.int .i64 ln,.slice γ.p m γ.c] 56)):=by
 refine ⟨fun _=>?_,fun _ _=>World.alloc_heap_new z _,?_,?_⟩
 · have k:=h.a h13; exact k.alloc k.size _
 · rw [getD_set_ne false (by decide),h13]; intro e; cases e
 · rw [getD_set_ne false (by decide)]; intro h10 _; exact (h.cl h10 h13).below ((Below.refl _ _).alloc (Nat.le_refl _) _)
theorem BkW.appd {w wq:World} {go K:Nat} {u:Value} {c:List Rn} {ln:Int} {ws:List Wd} {m:Nat} {γ:BkG} {x:Array Bool} {z z':World} (h:BkW w wq go K u c ln ws m γ x z) (h10:x.getD 10 false=true) (h13:x.getD 13 false=false) (h15:x.getD 15 false=false) (hs:13 < x.size) {g cap:Nat} (hg:z.grownBy z' u.ownBlock) (hat:u.ownBlock=some g ∨ g=z.heap.size)
 (ho:z'.ownsRow w.heap.size 56 2 (.slice (some ⟨g,0,none⟩) (c.length + 1) cap) (c.length + 1) (rnC c ++ [.int .i64 ln,.slice γ.p m γ.c])):BkW w wq go K u c ln ws m ⟨γ.p,γ.c,γ.b,g,cap⟩ (x.setIfInBounds 13 true) z':=by
 refine ⟨?_,?_,fun _=>⟨z',⟨⟨z,h.a h13,hg,hat.imp id (fun e=>by rw [e]; exact Nat.le_refl _),h.cl h10 h13⟩,ho⟩,fun _=>rfl,?_⟩,?_⟩
 · rw [getD_set_at hs]; intro e; cases e
 · rw [getD_set_at hs]; intro _ e; cases e
 · rw [getD_set_ne false (by decide),h15]; intro e; cases e
 · rw [getD_set_at hs]; intro _ e; cases e
theorem BkW.put {w wq:World} {go K:Nat} {u:Value} {c:List Rn} {ln:Int} {ws:List Wd} {m:Nat} {γ:BkG} {x:Array Bool} {z:World} (h:BkW w wq go K u c ln ws m γ x z) (h13:x.getD 13 false=true) (h15:x.getD 15 false=false) (hs:15 < x.size):BkW w wq go K u c ln ws m γ (x.setIfInBounds 15 true) (z.setCell ⟨go,K,none⟩ (.slice (some ⟨γ.g,0,none⟩) (c.length + 1) γ.cap)):=by
 obtain ⟨z3,h1,h2,_⟩:=h.ap h13;refine ⟨?_,?_,fun _=>⟨z3,h1,?_,fun _=>by rw [h2 h15]⟩,?_⟩
 · rw [getD_set_ne false (by decide),h13]; intro e; cases e
 · rw [getD_set_ne false (by decide),getD_set_ne false (by decide),h13]; intro _ e; cases e
 · rw [getD_set_at hs]; intro e; cases e
 · rw [getD_set_ne false (by decide),getD_set_ne false (by decide),h13]; intro _ e; cases e
theorem BkW.fin {w wq:World} {go K N capo:Nat} {us0:List Value} {u:Value} {cs0:List (List Rn)} {c:List Rn} {ln:Int} {ws:List Wd} {m:Nat} {γ:BkG} {x:Array Bool} {z:World} (h:BkW w wq go K u c ln ws m γ x z) (h13:x.getD 13 false=true) (h15:x.getD 15 false=true) (hK:us0.length=K)
 (st:BkSt w wq (.slice (some ⟨go,0,none⟩) N capo) (us0 ++ [u]) (cs0 ++ [c])):BkSt w z (.slice (some ⟨go,0,none⟩) N capo) (us0 ++ [.slice (some ⟨γ.g,0,none⟩) (c.length + 1) γ.cap]) (cs0 ++ [c ++ [((ln,ws),.slice γ.p m γ.c)]]):=by
 obtain ⟨z3,h1,_,h2⟩:=h.ap h13;obtain ⟨z2,hb,hg,hat,hwc⟩:=h1.z;rw [h2 h15];subst hK;exact BkSt.grow (f:=((ln,ws),.slice γ.p m γ.c)) st hb h1.own hg (hat.imp (fun e=>e.symm) (fun e=>⟨γ.g,rfl,e⟩)) hwc
end Go.Proofs.YthabffjgdhfbmaaGreatDoor
