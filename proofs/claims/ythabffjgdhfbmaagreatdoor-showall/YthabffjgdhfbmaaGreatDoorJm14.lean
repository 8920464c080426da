/-
  Texts that belong together, one behind the other: SumTab, SumSz, SnA, FldV, SnB. Conditions: as each says.
-/
import Derived.ChangeOld
import Derived.Deep.RegionHeld3
import Derived.Laws.BitsAllLaws
import Derived.Laws.EntriesVeiled
import Derived.Laws.OwnMore
import Derived.Laws.Shifts
import Derived.Laws.StructEq
import Derived.OpenShut
import Derived.ProofKit
import Derived.ShutString
import Derived.Test.YthabffjgdhfbmaaGreatDoorJm1
import Derived.Test.YthabffjgdhfbmaaGreatDoorJm2
import Derived.Test.YthabffjgdhfbmaaGreatDoorJm3
import Derived.Test.YthabffjgdhfbmaaGreatDoorJm8
import Derived.Test.YthabffjgdhfbmaaGreatDoorJm9
import Derived.Test.YthabffjgdhfbmaaGreatDoorJm10
import Derived.Test.YthabffjgdhfbmaaGreatDoorJm13
set_option maxRecDepth 100000
set_option maxHeartbeats 32000000
set_option linter.unusedVariables false
namespace Go.Proofs.YthabffjgdhfbmaaGreatDoor
open Go.RowKit
section
variable {P:Program}
theorem insert_at (T K E:TypeId) (ht:P.underlying T=some (.map K E)) (hk:P.underlying K=some .string) (es:Array MapEntry) (c:Nat) (s:ByteArray) (v:Value) (hf:Instr.findNow .string (.string s) es.toList 0=some none) (w:World) (g:Nat) (hb:w.heap[g]?=some (.map es c)) :
 (Instr.mapUpdate T (.map (some g)) (.string s) v).run P w=.ok () { w with heap:=w.heap.setIfInBounds g (.map (es.push { key:=.string s,val:=v,born:=c }) (c + 1)) }:=by
 have hs:=set_map (P:=P) w g es c hb (o:=.map (es.push { key:=.string s,val:=v,born:=c }) (c + 1));unfold Instr.mapUpdate;simp [run_underlying ht,obj_map _ _ _ _ hb,key_str _ _ _ hk,find_str _ _ hk _ _ _ hf,hs,Result.andThen]
end
theorem push_under (h:Array Obj) (i:Nat) (o x:Obj) (hi:i < h.size):(h.push x).setIfInBounds i o=(h.setIfInBounds i o).push x:=by
 apply Array.ext_getElem?;intro j
 by_cases e:i=j
 · subst e;rw [Array.getElem?_setIfInBounds,if_pos rfl,Array.size_push,if_pos (by omega),Array.getElem?_push,Array.size_setIfInBounds,if_neg (by omega),Array.getElem?_setIfInBounds,if_pos rfl,if_pos hi]
 · rw [Array.getElem?_setIfInBounds,if_neg e,Array.getElem?_push,Array.getElem?_push,Array.size_setIfInBounds,Array.getElem?_setIfInBounds,if_neg e]
theorem set_under (w:World) (g:Nat) (o b:Obj) (hg:g < w.heap.size):({ w.alloc b with heap:=(w.alloc b).heap.setIfInBounds g o }:World)=({ w with heap:=w.heap.setIfInBounds g o }:World).alloc b:=by
 show ({ w with heap:=(w.heap.push b).setIfInBounds g o }:World)={ w with heap:=(w.heap.setIfInBounds g o).push b };rw [push_under _ _ _ _ hg]
theorem set_2 (w:World) (o o' a:Obj):({ (w.alloc o).alloc a with heap:=((w.alloc o).alloc a).heap.setIfInBounds w.heap.size o' }:World)=(w.alloc o').alloc a:=by
 rw [set_under _ _ _ _ (by rw [World.size_alloc]; omega),mset_last]
theorem set_3 (w:World) (o o' a b:Obj):({ ((w.alloc o).alloc a).alloc b with heap:=(((w.alloc o).alloc a).alloc b).heap.setIfInBounds w.heap.size o' }:World)=((w.alloc o').alloc a).alloc b:=by
 rw [set_under _ _ _ _ (by rw [World.size_alloc,World.size_alloc]; omega),set_2]
theorem set_4 (w:World) (o o' a b c:Obj):({ (((w.alloc o).alloc a).alloc b).alloc c with heap:=((((w.alloc o).alloc a).alloc b).alloc c).heap.setIfInBounds w.heap.size o' }:World)=(((w.alloc o').alloc a).alloc b).alloc c:=by
 rw [set_under _ _ _ _ (by rw [World.size_alloc,World.size_alloc,World.size_alloc]; omega),set_3]
theorem set_5 (w:World) (o o' a b c d:Obj):({ ((((w.alloc o).alloc a).alloc b).alloc c).alloc d with heap:=(((((w.alloc o).alloc a).alloc b).alloc c).alloc d).heap.setIfInBounds w.heap.size o' }:World)=((((w.alloc o').alloc a).alloc b).alloc c).alloc d:=by
 rw [set_under _ _ _ _ (by rw [World.size_alloc,World.size_alloc,World.size_alloc,World.size_alloc]; omega),set_4]
theorem smap_under (w:World) (o:Obj) (b:Obj) (g:Nat) (h:w.heap[g]?=some o):(w.alloc b).heap[g]?=some o:=by
 have hg:g < w.heap.size:=(Array.getElem?_eq_some_iff.1 h).1;rw [show (w.alloc b).heap=w.heap.push b from rfl,Array.getElem?_push_lt hg,← Array.getElem?_eq_getElem hg]; exact h
def kindsA (n:Nat):Array MapEntry:=#[{ key:=.string ⟨#[110,111,110,101]⟩,val:=.agg #[.int .i64 0,.int .i64 0,.func (.func 131) #[] #[]],born:=0 },{ key:=.string ⟨#[115,117,109]⟩,val:=.agg #[.int .i64 1,.int .i64 1,.func (.func 132) #[] #[]],born:=1 },{ key:=.string ⟨#[108,114,99]⟩,val:=.agg #[.int .i64 2,.int .i64 1,.func (.func 133) #[] #[]],born:=2 },{ key:=.string ⟨#[120,111,114]⟩,val:=.agg #[.int .i64 3,.int .i64 1,.func (.func 134) #[] #[]],born:=3 },{ key:=.string ⟨#[102,108,101,116,99,104,101,114]⟩,val:=.agg #[.int .i64 4,.int .i64 2,.func (.func 135) #[] #[]],born:=4 },{ key:=.string ⟨#[99,114,99,56]⟩,val:=.agg #[.int .i64 5,.int .i64 1,.func (.func 146) #[] #[.pointer (some ⟨n + 1,0,none⟩)]],born:=5 },{ key:=.string ⟨#[99,114,99,49,54]⟩,val:=.agg #[.int .i64 6,.int .i64 2,.func (.func 146) #[] #[.pointer (some ⟨n + 2,0,none⟩)]],born:=6 },{ key:=.string ⟨#[99,99,105,116,116]⟩,val:=.agg #[.int .i64 7,.int .i64 2,.func (.func 146) #[] #[.pointer (some ⟨n + 3,0,none⟩)]],born:=7 },{ key:=.string ⟨#[99,114,99,51,50]⟩,val:=.agg #[.int .i64 8,.int .i64 4,.func (.func 146) #[] #[.pointer (some ⟨n + 4,0,none⟩)]],born:=8 }]
def KW (w:World):World:=((((w.alloc (.map (kindsA w.heap.size) 9)).alloc (.cells #[.string e5] 9)).alloc (.cells #[.string e6] 9)).alloc (.cells #[.string e7] 9)).alloc (.cells #[.string e8] 9)
theorem ins_5 (w:World):(Instr.mapUpdate 185 (.map (some w.heap.size)) (.string ⟨#[99,114,99,56]⟩) (.agg #[.int .i64 5,.int .i64 1,.func (.func 146) #[] #[.pointer (some ⟨w.heap.size + 1,0,none⟩)]])).run Tryz.prog ((w.alloc (.map #[{ key:=.string ⟨#[110,111,110,101]⟩,val:=.agg #[.int .i64 0,.int .i64 0,.func (.func 131) #[] #[]],born:=0 },{ key:=.string ⟨#[115,117,109]⟩,val:=.agg #[.int .i64 1,.int .i64 1,.func (.func 132) #[] #[]],born:=1 },{ key:=.string ⟨#[108,114,99]⟩,val:=.agg #[.int .i64 2,.int .i64 1,.func (.func 133) #[] #[]],born:=2 },{ key:=.string ⟨#[120,111,114]⟩,val:=.agg #[.int .i64 3,.int .i64 1,.func (.func 134) #[] #[]],born:=3 },{ key:=.string ⟨#[102,108,101,116,99,104,101,114]⟩,val:=.agg #[.int .i64 4,.int .i64 2,.func (.func 135) #[] #[]],born:=4 }] 5)).alloc (.cells #[.string e5] 9))=.ok () ((w.alloc (.map #[{ key:=.string ⟨#[110,111,110,101]⟩,val:=.agg #[.int .i64 0,.int .i64 0,.func (.func 131) #[] #[]],born:=0 },{ key:=.string ⟨#[115,117,109]⟩,val:=.agg #[.int .i64 1,.int .i64 1,.func (.func 132) #[] #[]],born:=1 },{ key:=.string ⟨#[108,114,99]⟩,val:=.agg #[.int .i64 2,.int .i64 1,.func (.func 133) #[] #[]],born:=2 },{ key:=.string ⟨#[120,111,114]⟩,val:=.agg #[.int .i64 3,.int .i64 1,.func (.func 134) #[] #[]],born:=3 },{ key:=.string ⟨#[102,108,101,116,99,104,101,114]⟩,val:=.agg #[.int .i64 4,.int .i64 2,.func (.func 135) #[] #[]],born:=4 },{ key:=.string ⟨#[99,114,99,56]⟩,val:=.agg #[.int .i64 5,.int .i64 1,.func (.func 146) #[] #[.pointer (some ⟨w.heap.size + 1,0,none⟩)]],born:=5 }] 6)).alloc (.cells #[.string e5] 9)):=by
 have h0:(w.alloc (.map #[{ key:=.string ⟨#[110,111,110,101]⟩,val:=.agg #[.int .i64 0,.int .i64 0,.func (.func 131) #[] #[]],born:=0 },{ key:=.string ⟨#[115,117,109]⟩,val:=.agg #[.int .i64 1,.int .i64 1,.func (.func 132) #[] #[]],born:=1 },{ key:=.string ⟨#[108,114,99]⟩,val:=.agg #[.int .i64 2,.int .i64 1,.func (.func 133) #[] #[]],born:=2 },{ key:=.string ⟨#[120,111,114]⟩,val:=.agg #[.int .i64 3,.int .i64 1,.func (.func 134) #[] #[]],born:=3 },{ key:=.string ⟨#[102,108,101,116,99,104,101,114]⟩,val:=.agg #[.int .i64 4,.int .i64 2,.func (.func 135) #[] #[]],born:=4 }] 5)).heap[w.heap.size]?=some (.map #[{ key:=.string ⟨#[110,111,110,101]⟩,val:=.agg #[.int .i64 0,.int .i64 0,.func (.func 131) #[] #[]],born:=0 },{ key:=.string ⟨#[115,117,109]⟩,val:=.agg #[.int .i64 1,.int .i64 1,.func (.func 132) #[] #[]],born:=1 },{ key:=.string ⟨#[108,114,99]⟩,val:=.agg #[.int .i64 2,.int .i64 1,.func (.func 133) #[] #[]],born:=2 },{ key:=.string ⟨#[120,111,114]⟩,val:=.agg #[.int .i64 3,.int .i64 1,.func (.func 134) #[] #[]],born:=3 },{ key:=.string ⟨#[102,108,101,116,99,104,101,114]⟩,val:=.agg #[.int .i64 4,.int .i64 2,.func (.func 135) #[] #[]],born:=4 }] 5):=World.alloc_heap_new w _;have h1:=smap_under _ _ (.cells #[.string e5] 9) _ h0;rw [insert_at 185 9 183 Tryz.underlying185 Tryz.underlying9 _ 5 _ _ (by kernel_rfl) _ _ h1];exact congrArg (Result.ok ()) (set_2 w _ _ _)
theorem div_5 (w:World) (o:Obj):Calls Tryz.prog 136 #[.string ⟨#[99,114,99,56]⟩] (w.alloc o) fun e w'=>e=.returned (.func (.func 146) #[] #[.pointer (some ⟨w.heap.size + 1,0,none⟩)])∧w'=(w.alloc o).alloc (.cells #[.string e5] 9):=by
 refine (divided_any _ _).mono ?_;rintro e w1 ⟨rfl,rfl⟩;exact ⟨by simp [World.size_alloc],rfl⟩
theorem ins_6 (w:World):(Instr.mapUpdate 185 (.map (some w.heap.size)) (.string ⟨#[99,114,99,49,54]⟩) (.agg #[.int .i64 6,.int .i64 2,.func (.func 146) #[] #[.pointer (some ⟨w.heap.size + 2,0,none⟩)]])).run Tryz.prog (((w.alloc (.map #[{ key:=.string ⟨#[110,111,110,101]⟩,val:=.agg #[.int .i64 0,.int .i64 0,.func (.func 131) #[] #[]],born:=0 },{ key:=.string ⟨#[115,117,109]⟩,val:=.agg #[.int .i64 1,.int .i64 1,.func (.func 132) #[] #[]],born:=1 },{ key:=.string ⟨#[108,114,99]⟩,val:=.agg #[.int .i64 2,.int .i64 1,.func (.func 133) #[] #[]],born:=2 },{ key:=.string ⟨#[120,111,114]⟩,val:=.agg #[.int .i64 3,.int .i64 1,.func (.func 134) #[] #[]],born:=3 },{ key:=.string ⟨#[102,108,101,116,99,104,101,114]⟩,val:=.agg #[.int .i64 4,.int .i64 2,.func (.func 135) #[] #[]],born:=4 },{ key:=.string ⟨#[99,114,99,56]⟩,val:=.agg #[.int .i64 5,.int .i64 1,.func (.func 146) #[] #[.pointer (some ⟨w.heap.size + 1,0,none⟩)]],born:=5 }] 6)).alloc (.cells #[.string e5] 9)).alloc (.cells #[.string e6] 9))=.ok () (((w.alloc (.map #[{ key:=.string ⟨#[110,111,110,101]⟩,val:=.agg #[.int .i64 0,.int .i64 0,.func (.func 131) #[] #[]],born:=0 },{ key:=.string ⟨#[115,117,109]⟩,val:=.agg #[.int .i64 1,.int .i64 1,.func (.func 132) #[] #[]],born:=1 },{ key:=.string ⟨#[108,114,99]⟩,val:=.agg #[.int .i64 2,.int .i64 1,.func (.func 133) #[] #[]],born:=2 },{ key:=.string ⟨#[120,111,114]⟩,val:=.agg #[.int .i64 3,.int .i64 1,.func (.func 134) #[] #[]],born:=3 },{ key:=.string ⟨#[102,108,101,116,99,104,101,114]⟩,val:=.agg #[.int .i64 4,.int .i64 2,.func (.func 135) #[] #[]],born:=4 },{ key:=.string ⟨#[99,114,99,56]⟩,val:=.agg #[.int .i64 5,.int .i64 1,.func (.func 146) #[] #[.pointer (some ⟨w.heap.size + 1,0,none⟩)]],born:=5 },{ key:=.string ⟨#[99,114,99,49,54]⟩,val:=.agg #[.int .i64 6,.int .i64 2,.func (.func 146) #[] #[.pointer (some ⟨w.heap.size + 2,0,none⟩)]],born:=6 }] 7)).alloc (.cells #[.string e5] 9)).alloc (.cells #[.string e6] 9)):=by
 have h0:(w.alloc (.map #[{ key:=.string ⟨#[110,111,110,101]⟩,val:=.agg #[.int .i64 0,.int .i64 0,.func (.func 131) #[] #[]],born:=0 },{ key:=.string ⟨#[115,117,109]⟩,val:=.agg #[.int .i64 1,.int .i64 1,.func (.func 132) #[] #[]],born:=1 },{ key:=.string ⟨#[108,114,99]⟩,val:=.agg #[.int .i64 2,.int .i64 1,.func (.func 133) #[] #[]],born:=2 },{ key:=.string ⟨#[120,111,114]⟩,val:=.agg #[.int .i64 3,.int .i64 1,.func (.func 134) #[] #[]],born:=3 },{ key:=.string ⟨#[102,108,101,116,99,104,101,114]⟩,val:=.agg #[.int .i64 4,.int .i64 2,.func (.func 135) #[] #[]],born:=4 },{ key:=.string ⟨#[99,114,99,56]⟩,val:=.agg #[.int .i64 5,.int .i64 1,.func (.func 146) #[] #[.pointer (some ⟨w.heap.size + 1,0,none⟩)]],born:=5 }] 6)).heap[w.heap.size]?=some (.map #[{ key:=.string ⟨#[110,111,110,101]⟩,val:=.agg #[.int .i64 0,.int .i64 0,.func (.func 131) #[] #[]],born:=0 },{ key:=.string ⟨#[115,117,109]⟩,val:=.agg #[.int .i64 1,.int .i64 1,.func (.func 132) #[] #[]],born:=1 },{ key:=.string ⟨#[108,114,99]⟩,val:=.agg #[.int .i64 2,.int .i64 1,.func (.func 133) #[] #[]],born:=2 },{ key:=.string ⟨#[120,111,114]⟩,val:=.agg #[.int .i64 3,.int .i64 1,.func (.func 134) #[] #[]],born:=3 },{ key:=.string ⟨#[102,108,101,116,99,104,101,114]⟩,val:=.agg #[.int .i64 4,.int .i64 2,.func (.func 135) #[] #[]],born:=4 },{ key:=.string ⟨#[99,114,99,56]⟩,val:=.agg #[.int .i64 5,.int .i64 1,.func (.func 146) #[] #[.pointer (some ⟨w.heap.size + 1,0,none⟩)]],born:=5 }] 6):=World.alloc_heap_new w _;have h1:=smap_under _ _ (.cells #[.string e5] 9) _ h0;have h2:=smap_under _ _ (.cells #[.string e6] 9) _ h1;rw [insert_at 185 9 183 Tryz.underlying185 Tryz.underlying9 _ 6 _ _ (by kernel_rfl) _ _ h2];exact congrArg (Result.ok ()) (set_3 w _ _ _ _)
theorem div_6 (w:World) (o:Obj) (a:Obj):Calls Tryz.prog 136 #[.string ⟨#[99,114,99,49,54]⟩] ((w.alloc o).alloc a) fun e w'=>e=.returned (.func (.func 146) #[] #[.pointer (some ⟨w.heap.size + 2,0,none⟩)])∧w'=((w.alloc o).alloc a).alloc (.cells #[.string e6] 9):=by
 refine (divided_any _ _).mono ?_;rintro e w1 ⟨rfl,rfl⟩;exact ⟨by simp [World.size_alloc],rfl⟩
theorem ins_7 (w:World):(Instr.mapUpdate 185 (.map (some w.heap.size)) (.string ⟨#[99,99,105,116,116]⟩) (.agg #[.int .i64 7,.int .i64 2,.func (.func 146) #[] #[.pointer (some ⟨w.heap.size + 3,0,none⟩)]])).run Tryz.prog ((((w.alloc (.map #[{ key:=.string ⟨#[110,111,110,101]⟩,val:=.agg #[.int .i64 0,.int .i64 0,.func (.func 131) #[] #[]],born:=0 },{ key:=.string ⟨#[115,117,109]⟩,val:=.agg #[.int .i64 1,.int .i64 1,.func (.func 132) #[] #[]],born:=1 },{ key:=.string ⟨#[108,114,99]⟩,val:=.agg #[.int .i64 2,.int .i64 1,.func (.func 133) #[] #[]],born:=2 },{ key:=.string ⟨#[120,111,114]⟩,val:=.agg #[.int .i64 3,.int .i64 1,.func (.func 134) #[] #[]],born:=3 },{ key:=.string ⟨#[102,108,101,116,99,104,101,114]⟩,val:=.agg #[.int .i64 4,.int .i64 2,.func (.func 135) #[] #[]],born:=4 },{ key:=.string ⟨#[99,114,99,56]⟩,val:=.agg #[.int .i64 5,.int .i64 1,.func (.func 146) #[] #[.pointer (some ⟨w.heap.size + 1,0,none⟩)]],born:=5 },{ key:=.string ⟨#[99,114,99,49,54]⟩,val:=.agg #[.int .i64 6,.int .i64 2,.func (.func 146) #[] #[.pointer (some ⟨w.heap.size + 2,0,none⟩)]],born:=6 }] 7)).alloc (.cells #[.string e5] 9)).alloc (.cells #[.string e6] 9)).alloc (.cells #[.string e7] 9))=.ok () ((((w.alloc (.map #[{ key:=.string ⟨#[110,111,110,101]⟩,val:=.agg #[.int .i64 0,.int .i64 0,.func (.func 131) #[] #[]],born:=0 },{ key:=.string ⟨#[115,117,109]⟩,val:=.agg #[.int .i64 1,.int .i64 1,.func (.func 132) #[] #[]],born:=1 },{ key:=.string ⟨#[108,114,99]⟩,val:=.agg #[.int .i64 2,.int .i64 1,.func (.func 133) #[] #[]],born:=2 },{ key:=.string ⟨#[120,111,114]⟩,val:=.agg #[.int .i64 3,.int .i64 1,.func (.func 134) #[] #[]],born:=3 },{ key:=.string ⟨#[102,108,101,116,99,104,101,114]⟩,val:=.agg #[.int .i64 4,.int .i64 2,.func (.func 135) #[] #[]],born:=4 },{ key:=.string ⟨#[99,114,99,56]⟩,val:=.agg #[.int .i64 5,.int .i64 1,.func (.func 146) #[] #[.pointer (some ⟨w.heap.size + 1,0,none⟩)]],born:=5 },{ key:=.string ⟨#[99,114,99,49,54]⟩,val:=.agg #[.int .i64 6,.int .i64 2,.func (.func 146) #[] #[.pointer (some ⟨w.heap.size + 2,0,none⟩)]],born:=6 },{ key:=.string ⟨#[99,99,105,116,116]⟩,val:=.agg #[.int .i64 7,.int .i64 2,.func (.func 146) #[] #[.pointer (some ⟨w.heap.size + 3,0,none⟩)]],born:=7 }] 8)).alloc (.cells #[.string e5] 9)).alloc (.cells #[.string e6] 9)).alloc (.cells #[.string e7] 9)):=by
 have h0:(w.alloc (.map #[{ key:=.string ⟨#[110,111,110,101]⟩,val:=.agg #[.int .i64 0,.int .i64 0,.func (.func 131) #[] #[]],born:=0 },{ key:=.string ⟨#[115,117,109]⟩,val:=.agg #[.int .i64 1,.int .i64 1,.func (.func 132) #[] #[]],born:=1 },{ key:=.string ⟨#[108,114,99]⟩,val:=.agg #[.int .i64 2,.int .i64 1,.func (.func 133) #[] #[]],born:=2 },{ key:=.string ⟨#[120,111,114]⟩,val:=.agg #[.int .i64 3,.int .i64 1,.func (.func 134) #[] #[]],born:=3 },{ key:=.string ⟨#[102,108,101,116,99,104,101,114]⟩,val:=.agg #[.int .i64 4,.int .i64 2,.func (.func 135) #[] #[]],born:=4 },{ key:=.string ⟨#[99,114,99,56]⟩,val:=.agg #[.int .i64 5,.int .i64 1,.func (.func 146) #[] #[.pointer (some ⟨w.heap.size + 1,0,none⟩)]],born:=5 },{ key:=.string ⟨#[99,114,99,49,54]⟩,val:=.agg #[.int .i64 6,.int .i64 2,.func (.func 146) #[] #[.pointer (some ⟨w.heap.size + 2,0,none⟩)]],born:=6 }] 7)).heap[w.heap.size]?=some (.map #[{ key:=.string ⟨#[110,111,110,101]⟩,val:=.agg #[.int .i64 0,.int .i64 0,.func (.func 131) #[] #[]],born:=0 },{ key:=.string ⟨#[115,117,109]⟩,val:=.agg #[.int .i64 1,.int .i64 1,.func (.func 132) #[] #[]],born:=1 },{ key:=.string ⟨#[108,114,99]⟩,val:=.agg #[.int .i64 2,.int .i64 1,.func (.func 133) #[] #[]],born:=2 },{ key:=.string ⟨#[120,111,114]⟩,val:=.agg #[.int .i64 3,.int .i64 1,.func (.func 134) #[] #[]],born:=3 },{ key:=.string ⟨#[102,108,101,116,99,104,101,114]⟩,val:=.agg #[.int .i64 4,.int .i64 2,.func (.func 135) #[] #[]],born:=4 },{ key:=.string ⟨#[99,114,99,56]⟩,val:=.agg #[.int .i64 5,.int .i64 1,.func (.func 146) #[] #[.pointer (some ⟨w.heap.size + 1,0,none⟩)]],born:=5 },{ key:=.string ⟨#[99,114,99,49,54]⟩,val:=.agg #[.int .i64 6,.int .i64 2,.func (.func 146) #[] #[.pointer (some ⟨w.heap.size + 2,0,none⟩)]],born:=6 }] 7):=World.alloc_heap_new w _;have h1:=smap_under _ _ (.cells #[.string e5] 9) _ h0;have h2:=smap_under _ _ (.cells #[.string e6] 9) _ h1;have h3:=smap_under _ _ (.cells #[.string e7] 9) _ h2;rw [insert_at 185 9 183 Tryz.underlying185 Tryz.underlying9 _ 7 _ _ (by kernel_rfl) _ _ h3];exact congrArg (Result.ok ()) (set_4 w _ _ _ _ _)
theorem div_7 (w:World) (o:Obj) (a:Obj) (b:Obj):Calls Tryz.prog 136 #[.string ⟨#[99,99,105,116,116]⟩] (((w.alloc o).alloc a).alloc b) fun e w'=>e=.returned (.func (.func 146) #[] #[.pointer (some ⟨w.heap.size + 3,0,none⟩)])∧w'=(((w.alloc o).alloc a).alloc b).alloc (.cells #[.string e7] 9):=by
 refine (divided_any _ _).mono ?_;rintro e w1 ⟨rfl,rfl⟩;exact ⟨by simp [World.size_alloc],rfl⟩
theorem ins_8 (w:World):(Instr.mapUpdate 185 (.map (some w.heap.size)) (.string ⟨#[99,114,99,51,50]⟩) (.agg #[.int .i64 8,.int .i64 4,.func (.func 146) #[] #[.pointer (some ⟨w.heap.size + 4,0,none⟩)]])).run Tryz.prog (((((w.alloc (.map #[{ key:=.string ⟨#[110,111,110,101]⟩,val:=.agg #[.int .i64 0,.int .i64 0,.func (.func 131) #[] #[]],born:=0 },{ key:=.string ⟨#[115,117,109]⟩,val:=.agg #[.int .i64 1,.int .i64 1,.func (.func 132) #[] #[]],born:=1 },{ key:=.string ⟨#[108,114,99]⟩,val:=.agg #[.int .i64 2,.int .i64 1,.func (.func 133) #[] #[]],born:=2 },{ key:=.string ⟨#[120,111,114]⟩,val:=.agg #[.int .i64 3,.int .i64 1,.func (.func 134) #[] #[]],born:=3 },{ key:=.string ⟨#[102,108,101,116,99,104,101,114]⟩,val:=.agg #[.int .i64 4,.int .i64 2,.func (.func 135) #[] #[]],born:=4 },{ key:=.string ⟨#[99,114,99,56]⟩,val:=.agg #[.int .i64 5,.int .i64 1,.func (.func 146) #[] #[.pointer (some ⟨w.heap.size + 1,0,none⟩)]],born:=5 },{ key:=.string ⟨#[99,114,99,49,54]⟩,val:=.agg #[.int .i64 6,.int .i64 2,.func (.func 146) #[] #[.pointer (some ⟨w.heap.size + 2,0,none⟩)]],born:=6 },{ key:=.string ⟨#[99,99,105,116,116]⟩,val:=.agg #[.int .i64 7,.int .i64 2,.func (.func 146) #[] #[.pointer (some ⟨w.heap.size + 3,0,none⟩)]],born:=7 }] 8)).alloc (.cells #[.string e5] 9)).alloc (.cells #[.string e6] 9)).alloc (.cells #[.string e7] 9)).alloc (.cells #[.string e8] 9))=.ok () (((((w.alloc (.map #[{ key:=.string ⟨#[110,111,110,101]⟩,val:=.agg #[.int .i64 0,.int .i64 0,.func (.func 131) #[] #[]],born:=0 },{ key:=.string ⟨#[115,117,109]⟩,val:=.agg #[.int .i64 1,.int .i64 1,.func (.func 132) #[] #[]],born:=1 },{ key:=.string ⟨#[108,114,99]⟩,val:=.agg #[.int .i64 2,.int .i64 1,.func (.func 133) #[] #[]],born:=2 },{ key:=.string ⟨#[120,111,114]⟩,val:=.agg #[.int .i64 3,.int .i64 1,.func (.func 134) #[] #[]],born:=3 },{ key:=.string ⟨#[102,108,101,116,99,104,101,114]⟩,val:=.agg #[.int .i64 4,.int .i64 2,.func (.func 135) #[] #[]],born:=4 },{ key:=.string ⟨#[99,114,99,56]⟩,val:=.agg #[.int .i64 5,.int .i64 1,.func (.func 146) #[] #[.pointer (some ⟨w.heap.size + 1,0,none⟩)]],born:=5 },{ key:=.string ⟨#[99,114,99,49,54]⟩,val:=.agg #[.int .i64 6,.int .i64 2,.func (.func 146) #[] #[.pointer (some ⟨w.heap.size + 2,0,none⟩)]],born:=6 },{ key:=.string ⟨#[99,99,105,116,116]⟩,val:=.agg #[.int .i64 7,.int .i64 2,.func (.func 146) #[] #[.pointer (some ⟨w.heap.size + 3,0,none⟩)]],born:=7 },{ key:=.string ⟨#[99,114,99,51,50]⟩,val:=.agg #[.int .i64 8,.int .i64 4,.func (.func 146) #[] #[.pointer (some ⟨w.heap.size + 4,0,none⟩)]],born:=8 }] 9)).alloc (.cells #[.string e5] 9)).alloc (.cells #[.string e6] 9)).alloc (.cells #[.string e7] 9)).alloc (.cells #[.string e8] 9)):=by
 have h0:(w.alloc (.map #[{ key:=.string ⟨#[110,111,110,101]⟩,val:=.agg #[.int .i64 0,.int .i64 0,.func (.func 131) #[] #[]],born:=0 },{ key:=.string ⟨#[115,117,109]⟩,val:=.agg #[.int .i64 1,.int .i64 1,.func (.func 132) #[] #[]],born:=1 },{ key:=.string ⟨#[108,114,99]⟩,val:=.agg #[.int .i64 2,.int .i64 1,.func (.func 133) #[] #[]],born:=2 },{ key:=.string ⟨#[120,111,114]⟩,val:=.agg #[.int .i64 3,.int .i64 1,.func (.func 134) #[] #[]],born:=3 },{ key:=.string ⟨#[102,108,101,116,99,104,101,114]⟩,val:=.agg #[.int .i64 4,.int .i64 2,.func (.func 135) #[] #[]],born:=4 },{ key:=.string ⟨#[99,114,99,56]⟩,val:=.agg #[.int .i64 5,.int .i64 1,.func (.func 146) #[] #[.pointer (some ⟨w.heap.size + 1,0,none⟩)]],born:=5 },{ key:=.string ⟨#[99,114,99,49,54]⟩,val:=.agg #[.int .i64 6,.int .i64 2,.func (.func 146) #[] #[.pointer (some ⟨w.heap.size + 2,0,none⟩)]],born:=6 },{ key:=.string ⟨#[99,99,105,116,116]⟩,val:=.agg #[.int .i64 7,.int .i64 2,.func (.func 146) #[] #[.pointer (some ⟨w.heap.size + 3,0,none⟩)]],born:=7 }] 8)).heap[w.heap.size]?=some (.map #[{ key:=.string ⟨#[110,111,110,101]⟩,val:=.agg #[.int .i64 0,.int .i64 0,.func (.func 131) #[] #[]],born:=0 },{ key:=.string ⟨#[115,117,109]⟩,val:=.agg #[.int .i64 1,.int .i64 1,.func (.func 132) #[] #[]],born:=1 },{ key:=.string ⟨#[108,114,99]⟩,val:=.agg #[.int .i64 2,.int .i64 1,.func (.func 133) #[] #[]],born:=2 },{ key:=.string ⟨#[120,111,114]⟩,val:=.agg #[.int .i64 3,.int .i64 1,.func (.func 134) #[] #[]],born:=3 },{ key:=.string ⟨#[102,108,101,116,99,104,101,114]⟩,val:=.agg #[.int .i64 4,.int .i64 2,.func (.func 135) #[] #[]],born:=4 },{ key:=.string ⟨#[99,114,99,56]⟩,val:=.agg #[.int .i64 5,.int .i64 1,.func (.func 146) #[] #[.pointer (some ⟨w.heap.size + 1,0,none⟩)]],born:=5 },{ key:=.string ⟨#[99,114,99,49,54]⟩,val:=.agg #[.int .i64 6,.int .i64 2,.func (.func 146) #[] #[.pointer (some ⟨w.heap.size + 2,0,none⟩)]],born:=6 },{ key:=.string ⟨#[99,99,105,116,116]⟩,val:=.agg #[.int .i64 7,.int .i64 2,.func (.func 146) #[] #[.pointer (some ⟨w.heap.size + 3,0,none⟩)]],born:=7 }] 8):=World.alloc_heap_new w _;have h1:=smap_under _ _ (.cells #[.string e5] 9) _ h0;have h2:=smap_under _ _ (.cells #[.string e6] 9) _ h1;have h3:=smap_under _ _ (.cells #[.string e7] 9) _ h2;have h4:=smap_under _ _ (.cells #[.string e8] 9) _ h3;rw [insert_at 185 9 183 Tryz.underlying185 Tryz.underlying9 _ 8 _ _ (by kernel_rfl) _ _ h4];exact congrArg (Result.ok ()) (set_5 w _ _ _ _ _ _)
theorem div_8 (w:World) (o:Obj) (a:Obj) (b:Obj) (c:Obj):Calls Tryz.prog 136 #[.string ⟨#[99,114,99,51,50]⟩] ((((w.alloc o).alloc a).alloc b).alloc c) fun e w'=>e=.returned (.func (.func 146) #[] #[.pointer (some ⟨w.heap.size + 4,0,none⟩)])∧w'=((((w.alloc o).alloc a).alloc b).alloc c).alloc (.cells #[.string e8] 9):=by
 refine (divided_any _ _).mono ?_;rintro e w1 ⟨rfl,rfl⟩;exact ⟨by simp [World.size_alloc],rfl⟩
theorem kinds_any (w:World):Calls Tryz.prog 108 #[] w fun e w'=>e=.returned (.map (some w.heap.size))∧w'=KW w:=by
 have hmm:=@run_makeMap Tryz.prog;have i0:∀ w:World,(Instr.mapUpdate 185 (.map (some w.heap.size)) (.string ⟨#[110,111,110,101]⟩) (.agg #[.int .i64 0,.int .i64 0,.func (.func 131) #[] #[]])).run Tryz.prog (w.alloc (.map #[] 0))=.ok () (w.alloc (.map #[{ key:=.string ⟨#[110,111,110,101]⟩,val:=.agg #[.int .i64 0,.int .i64 0,.func (.func 131) #[] #[]],born:=0 }] 1)):=fun w=>insert_str 185 9 183 Tryz.underlying185 Tryz.underlying9 _ 0 _ _ (by kernel_rfl) w
 have i1:∀ w:World,(Instr.mapUpdate 185 (.map (some w.heap.size)) (.string ⟨#[115,117,109]⟩) (.agg #[.int .i64 1,.int .i64 1,.func (.func 132) #[] #[]])).run Tryz.prog (w.alloc (.map #[{ key:=.string ⟨#[110,111,110,101]⟩,val:=.agg #[.int .i64 0,.int .i64 0,.func (.func 131) #[] #[]],born:=0 }] 1))=.ok () (w.alloc (.map #[{ key:=.string ⟨#[110,111,110,101]⟩,val:=.agg #[.int .i64 0,.int .i64 0,.func (.func 131) #[] #[]],born:=0 },{ key:=.string ⟨#[115,117,109]⟩,val:=.agg #[.int .i64 1,.int .i64 1,.func (.func 132) #[] #[]],born:=1 }] 2)):=fun w=>insert_str 185 9 183 Tryz.underlying185 Tryz.underlying9 _ 1 _ _ (by kernel_rfl) w
 have i2:∀ w:World,(Instr.mapUpdate 185 (.map (some w.heap.size)) (.string ⟨#[108,114,99]⟩) (.agg #[.int .i64 2,.int .i64 1,.func (.func 133) #[] #[]])).run Tryz.prog (w.alloc (.map #[{ key:=.string ⟨#[110,111,110,101]⟩,val:=.agg #[.int .i64 0,.int .i64 0,.func (.func 131) #[] #[]],born:=0 },{ key:=.string ⟨#[115,117,109]⟩,val:=.agg #[.int .i64 1,.int .i64 1,.func (.func 132) #[] #[]],born:=1 }] 2))=.ok () (w.alloc (.map #[{ key:=.string ⟨#[110,111,110,101]⟩,val:=.agg #[.int .i64 0,.int .i64 0,.func (.func 131) #[] #[]],born:=0 },{ key:=.string ⟨#[115,117,109]⟩,val:=.agg #[.int .i64 1,.int .i64 1,.func (.func 132) #[] #[]],born:=1 },{ key:=.string ⟨#[108,114,99]⟩,val:=.agg #[.int .i64 2,.int .i64 1,.func (.func 133) #[] #[]],born:=2 }] 3)):=fun w=>insert_str 185 9 183 Tryz.underlying185 Tryz.underlying9 _ 2 _ _ (by kernel_rfl) w
 have i3:∀ w:World,(Instr.mapUpdate 185 (.map (some w.heap.size)) (.string ⟨#[120,111,114]⟩) (.agg #[.int .i64 3,.int .i64 1,.func (.func 134) #[] #[]])).run Tryz.prog (w.alloc (.map #[{ key:=.string ⟨#[110,111,110,101]⟩,val:=.agg #[.int .i64 0,.int .i64 0,.func (.func 131) #[] #[]],born:=0 },{ key:=.string ⟨#[115,117,109]⟩,val:=.agg #[.int .i64 1,.int .i64 1,.func (.func 132) #[] #[]],born:=1 },{ key:=.string ⟨#[108,114,99]⟩,val:=.agg #[.int .i64 2,.int .i64 1,.func (.func 133) #[] #[]],born:=2 }] 3))=.ok () (w.alloc (.map #[{ key:=.string ⟨#[110,111,110,101]⟩,val:=.agg #[.int .i64 0,.int .i64 0,.func (.func 131) #[] #[]],born:=0 },{ key:=.string ⟨#[115,117,109]⟩,val:=.agg #[.int .i64 1,.int .i64 1,.func (.func 132) #[] #[]],born:=1 },{ key:=.string ⟨#[108,114,99]⟩,val:=.agg #[.int .i64 2,.int .i64 1,.func (.func 133) #[] #[]],born:=2 },{ key:=.string ⟨#[120,111,114]⟩,val:=.agg #[.int .i64 3,.int .i64 1,.func (.func 134) #[] #[]],born:=3 }] 4)):=fun w=>insert_str 185 9 183 Tryz.underlying185 Tryz.underlying9 _ 3 _ _ (by kernel_rfl) w
 have i4:∀ w:World,(Instr.mapUpdate 185 (.map (some w.heap.size)) (.string ⟨#[102,108,101,116,99,104,101,114]⟩) (.agg #[.int .i64 4,.int .i64 2,.func (.func 135) #[] #[]])).run Tryz.prog (w.alloc (.map #[{ key:=.string ⟨#[110,111,110,101]⟩,val:=.agg #[.int .i64 0,.int .i64 0,.func (.func 131) #[] #[]],born:=0 },{ key:=.string ⟨#[115,117,109]⟩,val:=.agg #[.int .i64 1,.int .i64 1,.func (.func 132) #[] #[]],born:=1 },{ key:=.string ⟨#[108,114,99]⟩,val:=.agg #[.int .i64 2,.int .i64 1,.func (.func 133) #[] #[]],born:=2 },{ key:=.string ⟨#[120,111,114]⟩,val:=.agg #[.int .i64 3,.int .i64 1,.func (.func 134) #[] #[]],born:=3 }] 4))=.ok () (w.alloc (.map #[{ key:=.string ⟨#[110,111,110,101]⟩,val:=.agg #[.int .i64 0,.int .i64 0,.func (.func 131) #[] #[]],born:=0 },{ key:=.string ⟨#[115,117,109]⟩,val:=.agg #[.int .i64 1,.int .i64 1,.func (.func 132) #[] #[]],born:=1 },{ key:=.string ⟨#[108,114,99]⟩,val:=.agg #[.int .i64 2,.int .i64 1,.func (.func 133) #[] #[]],born:=2 },{ key:=.string ⟨#[120,111,114]⟩,val:=.agg #[.int .i64 3,.int .i64 1,.func (.func 134) #[] #[]],born:=3 },{ key:=.string ⟨#[102,108,101,116,99,104,101,114]⟩,val:=.agg #[.int .i64 4,.int .i64 2,.func (.func 135) #[] #[]],born:=4 }] 5)):=fun w=>insert_str 185 9 183 Tryz.underlying185 Tryz.underlying9 _ 4 _ _ (by kernel_rfl) w
 have i5:=ins_5;have i6:=ins_6;have i7:=ins_7;have i8:=ins_8
 go_enter Tryz.func108,Tryz.ntmps108
 go_wp2_with fail
 refine (div_5 w _).mono ?_;rintro e w1 ⟨rfl,rfl⟩
 go_wp2_with fail
 refine (div_6 w _ _).mono ?_;rintro e w1 ⟨rfl,rfl⟩
 go_wp2_with fail
 refine (div_7 w _ _ _).mono ?_;rintro e w1 ⟨rfl,rfl⟩
 go_wp2_with fail
 refine (div_8 w _ _ _ _).mono ?_;rintro e w1 ⟨rfl,rfl⟩;go_wp2;go_ret;exact ⟨rfl,rfl⟩
theorem kw_map (w:World):(KW w).heap[w.heap.size]?=some (.map (kindsA w.heap.size) 9):=by
 have h0:(w.alloc (.map (kindsA w.heap.size) 9)).heap[w.heap.size]?=some (.map (kindsA w.heap.size) 9):=World.alloc_heap_new w _;exact smap_under _ _ _ _ (smap_under _ _ _ _ (smap_under _ _ _ _ (smap_under _ _ _ _ h0)))
theorem kw_size (w:World):(KW w).heap.size=w.heap.size + 5:=by unfold KW; simp [World.size_alloc]
theorem kw_below (w:World):Below w.heap.size w (KW w):=by
 unfold KW;exact ((((((Below.refl _ _).alloc (Nat.le_refl _) _).alloc (by simp) _).alloc (by simp; omega) _).alloc (by simp; omega) _).alloc (by simp; omega) _)
def fnV (n k:Nat):Value:=
 match k with
 | 0=>.func (.func 131) #[] #[]
 | 1=>.func (.func 132) #[] #[]
 | 2=>.func (.func 133) #[] #[]
 | 3=>.func (.func 134) #[] #[]
 | 4=>.func (.func 135) #[] #[]
 | 5=>.func (.func 146) #[] #[.pointer (some ⟨n + 1,0,none⟩)]
 | 6=>.func (.func 146) #[] #[.pointer (some ⟨n + 2,0,none⟩)]
 | 7=>.func (.func 146) #[] #[.pointer (some ⟨n + 3,0,none⟩)]
 | 8=>.func (.func 146) #[] #[.pointer (some ⟨n + 4,0,none⟩)]
 | _=>.nilFunc
def kindV (n k:Nat):Value:=.agg #[.int .i64 (k:Int),.int .i64 ((sizeK k:Nat):Int),fnV n k]
theorem find0 (n:Nat):Instr.findNow .string (.string (nameN 0)) (kindsA n).toList 0=some (some (0,kindV n 0)):=by kernel_rfl
theorem find1 (n:Nat):Instr.findNow .string (.string (nameN 1)) (kindsA n).toList 0=some (some (1,kindV n 1)):=by kernel_rfl
theorem find2 (n:Nat):Instr.findNow .string (.string (nameN 2)) (kindsA n).toList 0=some (some (2,kindV n 2)):=by kernel_rfl
theorem find3 (n:Nat):Instr.findNow .string (.string (nameN 3)) (kindsA n).toList 0=some (some (3,kindV n 3)):=by kernel_rfl
theorem find4 (n:Nat):Instr.findNow .string (.string (nameN 4)) (kindsA n).toList 0=some (some (4,kindV n 4)):=by kernel_rfl
theorem find5 (n:Nat):Instr.findNow .string (.string (nameN 5)) (kindsA n).toList 0=some (some (5,kindV n 5)):=by kernel_rfl
theorem find6 (n:Nat):Instr.findNow .string (.string (nameN 6)) (kindsA n).toList 0=some (some (6,kindV n 6)):=by kernel_rfl
theorem find7 (n:Nat):Instr.findNow .string (.string (nameN 7)) (kindsA n).toList 0=some (some (7,kindV n 7)):=by kernel_rfl
theorem find8 (n:Nat):Instr.findNow .string (.string (nameN 8)) (kindsA n).toList 0=some (some (8,kindV n 8)):=by kernel_rfl
theorem kinds_find (n:Nat) {k:Nat} (hk:k < 9):Instr.findNow .string (.string (nameN k)) (kindsA n).toList 0=some (some (k,kindV n k)):=by
 match k,hk with
 | 0,_=>exact find0 n
 | 1,_=>exact find1 n
 | 2,_=>exact find2 n
 | 3,_=>exact find3 n
 | 4,_=>exact find4 n
 | 5,_=>exact find5 n
 | 6,_=>exact find6 n
 | 7,_=>exact find7 n
 | 8,_=>exact find8 n
theorem kinds_not (n:Nat) {s:ByteArray} (h:NoName s):Instr.findNow .string (.string s) (kindsA n).toList 0=some none:=by
 obtain ⟨n0,n1,n2,n3,n4,n5,n6,n7,n8⟩:=h;have b:∀ t:ByteArray,¬ s=t→(s == t)=false:=fun t h=>by rw [beq_toListBytes]; exact txt_no h
 simp only [kindsA,Instr.findNow,Instr.sameNow,b _ n0,b _ n1,b _ n2,b _ n3,b _ n4,b _ n5,b _ n6,b _ n7,b _ n8]
theorem zero_kind (w:World):(zeroValue 183).run Tryz.prog w=.ok (.agg #[.int .i64 0,.int .i64 0,.nilFunc]) w:=by kernel_rfl
theorem look_yes {k:Nat} (hk:k < 9) (w:World):(Instr.lookup 185 (.map (some w.heap.size)) (.string (nameN k)) true).run Tryz.prog (KW w)=.ok (.tuple #[kindV w.heap.size k,.bool true]) (KW w):=
 lookup_str 185 9 183 Tryz.underlying185 Tryz.underlying9 _ _ _ _ (kw_map w) _ k _ (kinds_find _ hk)
theorem look_no {s:ByteArray} (h:NoName s) (w:World):(Instr.lookup 185 (.map (some w.heap.size)) (.string s) true).run Tryz.prog (KW w)=.ok (.tuple #[.agg #[.int .i64 0,.int .i64 0,.nilFunc],.bool false]) (KW w):=
 lookup_no 185 9 183 Tryz.underlying185 Tryz.underlying9 _ _ _ _ (kw_map w) _ _ (zero_kind _) (kinds_not _ h)
def MakeC:Prop:=∀ w,Calls Tryz.prog 108 #[] w fun e w'=>e=.returned (.map (some w.heap.size))∧w'=KW w
theorem makeC:MakeC:=kinds_any
theorem kw_alloc (w:World) (o:Obj):Below w.heap.size w ((KW w).alloc o):=(kw_below w).alloc (by rw [kw_size]; omega) _
theorem size_no:SizeN:=fun s w hs=>by
 have lk:=look_no hs w;have mk:=makeC;have B:Hid (Below w.heap.size w ((KW w).alloc (.cells #[.int .i64 0,.int .i64 0,.nilFunc] 183))):=kw_alloc w _
 go_enter Tryz.func80,Tryz.ntmps80
 go_wp2_with fail
 refine (mk _).mono ?_;rintro e w1 ⟨rfl,rfl⟩;clear mk;go_wp2
 go_ret2
 exact ⟨rfl,B.out⟩
theorem size_0 (w:World):Calls Tryz.prog 80 #[.string e0] w fun e w'=>e=.returned (.tuple #[.int .i64 0,.bool true])∧Below w.heap.size w w':=by
 have lk:(Instr.lookup 185 (.map (some w.heap.size)) (.string e0) true).run Tryz.prog (KW w)=.ok (.tuple #[.agg #[.int .i64 0,.int .i64 0,.func (.func 131) #[] #[]],.bool true]) (KW w):=look_yes (k:=0) (by omega) w;have mk:=makeC;have B:Hid (Below w.heap.size w ((KW w).alloc (.cells #[.int .i64 0,.int .i64 0,.func (.func 131) #[] #[]] 183))):=kw_alloc w _
 go_enter Tryz.func80,Tryz.ntmps80
 go_wp2_with fail
 refine (mk _).mono ?_;rintro e w1 ⟨rfl,rfl⟩;clear mk;go_wp2
 go_ret2
 exact ⟨rfl,B.out⟩
theorem size_1 (w:World):Calls Tryz.prog 80 #[.string e1] w fun e w'=>e=.returned (.tuple #[.int .i64 1,.bool true])∧Below w.heap.size w w':=by
 have lk:(Instr.lookup 185 (.map (some w.heap.size)) (.string e1) true).run Tryz.prog (KW w)=.ok (.tuple #[.agg #[.int .i64 1,.int .i64 1,.func (.func 132) #[] #[]],.bool true]) (KW w):=look_yes (k:=1) (by omega) w;have mk:=makeC;have B:Hid (Below w.heap.size w ((KW w).alloc (.cells #[.int .i64 1,.int .i64 1,.func (.func 132) #[] #[]] 183))):=kw_alloc w _
 go_enter Tryz.func80,Tryz.ntmps80
 go_wp2_with fail
 refine (mk _).mono ?_;rintro e w1 ⟨rfl,rfl⟩;clear mk;go_wp2
 go_ret2
 exact ⟨rfl,B.out⟩
theorem size_2 (w:World):Calls Tryz.prog 80 #[.string e2] w fun e w'=>e=.returned (.tuple #[.int .i64 1,.bool true])∧Below w.heap.size w w':=by
 have lk:(Instr.lookup 185 (.map (some w.heap.size)) (.string e2) true).run Tryz.prog (KW w)=.ok (.tuple #[.agg #[.int .i64 2,.int .i64 1,.func (.func 133) #[] #[]],.bool true]) (KW w):=look_yes (k:=2) (by omega) w;have mk:=makeC;have B:Hid (Below w.heap.size w ((KW w).alloc (.cells #[.int .i64 2,.int .i64 1,.func (.func 133) #[] #[]] 183))):=kw_alloc w _
 go_enter Tryz.func80,Tryz.ntmps80
 go_wp2_with fail
 refine (mk _).mono ?_;rintro e w1 ⟨rfl,rfl⟩;clear mk;go_wp2
 go_ret2
 exact ⟨rfl,B.out⟩
theorem size_3 (w:World):Calls Tryz.prog 80 #[.string e3] w fun e w'=>e=.returned (.tuple #[.int .i64 1,.bool true])∧Below w.heap.size w w':=by
 have lk:(Instr.lookup 185 (.map (some w.heap.size)) (.string e3) true).run Tryz.prog (KW w)=.ok (.tuple #[.agg #[.int .i64 3,.int .i64 1,.func (.func 134) #[] #[]],.bool true]) (KW w):=look_yes (k:=3) (by omega) w;have mk:=makeC;have B:Hid (Below w.heap.size w ((KW w).alloc (.cells #[.int .i64 3,.int .i64 1,.func (.func 134) #[] #[]] 183))):=kw_alloc w _
 go_enter Tryz.func80,Tryz.ntmps80
 go_wp2_with fail
 refine (mk _).mono ?_;rintro e w1 ⟨rfl,rfl⟩;clear mk;go_wp2
 go_ret2
 exact ⟨rfl,B.out⟩
theorem size_4 (w:World):Calls Tryz.prog 80 #[.string e4] w fun e w'=>e=.returned (.tuple #[.int .i64 2,.bool true])∧Below w.heap.size w w':=by
 have lk:(Instr.lookup 185 (.map (some w.heap.size)) (.string e4) true).run Tryz.prog (KW w)=.ok (.tuple #[.agg #[.int .i64 4,.int .i64 2,.func (.func 135) #[] #[]],.bool true]) (KW w):=look_yes (k:=4) (by omega) w;have mk:=makeC;have B:Hid (Below w.heap.size w ((KW w).alloc (.cells #[.int .i64 4,.int .i64 2,.func (.func 135) #[] #[]] 183))):=kw_alloc w _
 go_enter Tryz.func80,Tryz.ntmps80
 go_wp2_with fail
 refine (mk _).mono ?_;rintro e w1 ⟨rfl,rfl⟩;clear mk;go_wp2
 go_ret2
 exact ⟨rfl,B.out⟩
theorem size_5 (w:World):Calls Tryz.prog 80 #[.string e5] w fun e w'=>e=.returned (.tuple #[.int .i64 1,.bool true])∧Below w.heap.size w w':=by
 have lk:(Instr.lookup 185 (.map (some w.heap.size)) (.string e5) true).run Tryz.prog (KW w)=.ok (.tuple #[.agg #[.int .i64 5,.int .i64 1,.func (.func 146) #[] #[.pointer (some ⟨w.heap.size + 1,0,none⟩)]],.bool true]) (KW w):=look_yes (k:=5) (by omega) w;have mk:=makeC;have B:Hid (Below w.heap.size w ((KW w).alloc (.cells #[.int .i64 5,.int .i64 1,.func (.func 146) #[] #[.pointer (some ⟨w.heap.size + 1,0,none⟩)]] 183))):=kw_alloc w _
 go_enter Tryz.func80,Tryz.ntmps80
 go_wp2_with fail
 refine (mk _).mono ?_;rintro e w1 ⟨rfl,rfl⟩;clear mk;go_wp2
 go_ret2
 exact ⟨rfl,B.out⟩
theorem size_6 (w:World):Calls Tryz.prog 80 #[.string e6] w fun e w'=>e=.returned (.tuple #[.int .i64 2,.bool true])∧Below w.heap.size w w':=by
 have lk:(Instr.lookup 185 (.map (some w.heap.size)) (.string e6) true).run Tryz.prog (KW w)=.ok (.tuple #[.agg #[.int .i64 6,.int .i64 2,.func (.func 146) #[] #[.pointer (some ⟨w.heap.size + 2,0,none⟩)]],.bool true]) (KW w):=look_yes (k:=6) (by omega) w;have mk:=makeC;have B:Hid (Below w.heap.size w ((KW w).alloc (.cells #[.int .i64 6,.int .i64 2,.func (.func 146) #[] #[.pointer (some ⟨w.heap.size + 2,0,none⟩)]] 183))):=kw_alloc w _
 go_enter Tryz.func80,Tryz.ntmps80
 go_wp2_with fail
 refine (mk _).mono ?_;rintro e w1 ⟨rfl,rfl⟩;clear mk;go_wp2
 go_ret2
 exact ⟨rfl,B.out⟩
theorem size_7 (w:World):Calls Tryz.prog 80 #[.string e7] w fun e w'=>e=.returned (.tuple #[.int .i64 2,.bool true])∧Below w.heap.size w w':=by
 have lk:(Instr.lookup 185 (.map (some w.heap.size)) (.string e7) true).run Tryz.prog (KW w)=.ok (.tuple #[.agg #[.int .i64 7,.int .i64 2,.func (.func 146) #[] #[.pointer (some ⟨w.heap.size + 3,0,none⟩)]],.bool true]) (KW w):=look_yes (k:=7) (by omega) w;have mk:=makeC;have B:Hid (Below w.heap.size w ((KW w).alloc (.cells #[.int .i64 7,.int .i64 2,.func (.func 146) #[] #[.pointer (some ⟨w.heap.size + 3,0,none⟩)]] 183))):=kw_alloc w _
 go_enter Tryz.func80,Tryz.ntmps80
 go_wp2_with fail
 refine (mk _).mono ?_;rintro e w1 ⟨rfl,rfl⟩;clear mk;go_wp2
 go_ret2
 exact ⟨rfl,B.out⟩
theorem size_8 (w:World):Calls Tryz.prog 80 #[.string e8] w fun e w'=>e=.returned (.tuple #[.int .i64 4,.bool true])∧Below w.heap.size w w':=by
 have lk:(Instr.lookup 185 (.map (some w.heap.size)) (.string e8) true).run Tryz.prog (KW w)=.ok (.tuple #[.agg #[.int .i64 8,.int .i64 4,.func (.func 146) #[] #[.pointer (some ⟨w.heap.size + 4,0,none⟩)]],.bool true]) (KW w):=look_yes (k:=8) (by omega) w;have mk:=makeC;have B:Hid (Below w.heap.size w ((KW w).alloc (.cells #[.int .i64 8,.int .i64 4,.func (.func 146) #[] #[.pointer (some ⟨w.heap.size + 4,0,none⟩)]] 183))):=kw_alloc w _
 go_enter Tryz.func80,Tryz.ntmps80
 go_wp2_with fail
 refine (mk _).mono ?_;rintro e w1 ⟨rfl,rfl⟩;clear mk;go_wp2
 go_ret2
 exact ⟨rfl,B.out⟩
theorem size_yes:SizeP:=fun k w hk=>by
 match k,hk with
 | 0,_=>exact size_0 w
 | 1,_=>exact size_1 w
 | 2,_=>exact size_2 w
 | 3,_=>exact size_3 w
 | 4,_=>exact size_4 w
 | 5,_=>exact size_5 w
 | 6,_=>exact size_6 w
 | 7,_=>exact size_7 w
 | 8,_=>exact size_8 w
abbrev fdV (f:Fd):Value:=.agg #[.string (txt f.nm),.int .i64 f.pl,.string (txt f.kd),.int .i64 f.wd,.int .i64 f.sn,.int .i64 f.sd,.int .i64 f.on,.int .i64 f.od,.string (txt f.un)]
theorem ret_bool {x y:Bool} (h:x=y):Ending.returned (.bool x)=.returned (.bool y):=by rw [h]
theorem sum_yes {s:ByteArray} {k:Nat} (hk:k < 9) (h:whichN s=k):isSum s=true:=by unfold isSum; rw [h]; exact decide_eq_true hk
theorem sum_not {s:ByteArray} (h:whichN s=9):isSum s=false:=by unfold isSum; rw [h]; rfl
theorem summed_any (s:ByteArray) (w:World):Calls Tryz.prog 49 #[.string s] w fun e w'=>e=.returned (.bool (isSum s))∧Below w.heap.size w w':=by
 have sz:∃ n:Int,Hid (∀ w,Calls Tryz.prog 80 #[.string s] w fun e w'=>e=.returned (.tuple #[.int .i64 n,.bool (isSum s)])∧Below w.heap.size w w'):=by
  rcases which_cases s with ⟨k,hk,e,hw⟩ | ⟨hw,hn⟩
  · rw [sum_yes hk hw,e];exact ⟨_,fun x=>size_yes k x hk⟩
  · rw [sum_not hw];exact ⟨0,fun x=>size_no s x hn⟩
 obtain ⟨n,sz⟩:=sz;generalize isSum s=T at *
 go_enter Tryz.func49,Tryz.ntmps49
 go_wp2_with fail
 refine (sz.out _).mono ?_;rintro e w1 ⟨rfl,hb⟩;have B:Hid (Below w.heap.size w w1):=hb;clear hb sz;go_wp2;go_ret;exact ⟨rfl,B.out⟩
theorem inside_any (sz:Int) (f:Fd) (w:World) (h:I64 sz):Calls Tryz.prog 113 #[fdV f,.int .i64 sz] w fun e w'=>e=.returned (.bool (gdP sz f))∧Below w.heap.size w w':=by
 obtain ⟨nm,pl,kd,wd,sn,sd,on,od,un⟩:=f;unfold gdP I64 at *;simp only at *;obtain ⟨h1,h2⟩:=h;have B:Hid (∀ o,Below w.heap.size w (w.alloc o)):=fun o=>(Below.refl _ _).alloc (Nat.le_refl _) o
 by_cases c1:0≤pl
 · rw [decide_eq_true c1]
   by_cases c2:pl < sz
   · rw [decide_eq_true c2]
     by_cases c3:wd≤sz - pl
     · rw [decide_eq_true c3]
       go_enter Tryz.func113,Tryz.ntmps113
       go_wp2;go_ret;exact ⟨rfl,B.out _⟩
     · rw [decide_eq_false c3]
       go_enter Tryz.func113,Tryz.ntmps113
       go_wp2;go_ret;exact ⟨rfl,B.out _⟩
   · rw [decide_eq_false c2]
     go_enter Tryz.func113,Tryz.ntmps113
     go_wp2;go_ret;exact ⟨rfl,B.out _⟩
 · rw [decide_eq_false c1]
   go_enter Tryz.func113,Tryz.ntmps113
   go_wp2;go_ret;exact ⟨rfl,B.out _⟩
def IntsIn (x:World) (g o:Nat) (ns:List Int):Prop:=∀ j (h:j < ns.length),x.cell? ⟨g,o + j,none⟩=some (.int .i64 ns[j])
def AllI (lo hi:Int) (l:List Int) (T:Bool):Prop:=l.all (inB lo hi)=T
theorem AllI.fin {lo hi:Int} {T:Bool} (h:AllI lo hi [] T):true=T:=h
theorem AllI.no {lo hi n:Int} {l:List Int} {T:Bool} (h:AllI lo hi (n :: l) T) (hn:n < lo ∨ hi < n):false=T:=by
 unfold AllI at h;rw [← h,List.all_cons];have:inB lo hi n=false:=by unfold inB; rw [Bool.and_eq_false_iff,decide_eq_false_iff_not,decide_eq_false_iff_not]; omega
 rw [this]; rfl
theorem AllI.yes {lo hi n:Int} {l:List Int} {T:Bool} (h:AllI lo hi (n :: l) T) (h1:lo≤n) (h2:n≤hi):AllI lo hi l T:=by
 unfold AllI at *;rw [← h,List.all_cons];have:inB lo hi n=true:=by unfold inB; rw [Bool.and_eq_true,decide_eq_true_eq,decide_eq_true_eq]; omega
 rw [this]; rfl
theorem within_any (lo hi:Int) (ns:List Int) (g o cap:Nat) (w:World) (hc:IntsIn w g o ns) (hl:(ns.length:Int)≤100) :
 Calls Tryz.prog 79 #[.int .i64 lo,.int .i64 hi,.slice (some ⟨g,o,none⟩) ns.length cap] w fun e w'=>e=.returned (.bool (ns.all (inB lo hi)))∧w'=w:=by
 obtain ⟨T,hT⟩:∃ T,ns.all (inB lo hi)=T:=⟨_,rfl⟩;rw [hT];have I0:Hid (AllI lo hi (ns.drop 0) T):=hT;clear hT;obtain ⟨len,hlen⟩:∃ len,ns.length=len:=⟨_,rfl⟩;rw [hlen] at hl ⊢;replace hlen:Hid (ns.length=len):=hlen;replace hc:Hid (IntsIn w g o ns):=hc
 go_enter Tryz.func79,Tryz.ntmps79
 go_wp2
 go_loop [11] (fun vi=>∃ k:Nat,(k:Int)≤(len:Int)∧vi=.int .i64 (k:Int)∧Hid (AllI lo hi (ns.drop k) T)) (fun vi=>len - (intOf vi).toNat)
 case atStart=>exact ⟨0,by omega,rfl,I0⟩
 case round=>
  obtain ⟨k,hk,rfl,lf⟩:=hrel;clear I0
  by_cases hlt:(k:Int) < (len:Int)
  · have hkl:k < ns.length:=by have:=hlen.out; omega
    have c:=hc.out k hkl;have lq:=lf.out;rw [List.drop_eq_getElem_cons hkl] at lq;generalize ns[k]=n at *;clear lf hc hkl
    by_cases c1:n < lo
    · have fin:Hid (false=T):=lq.no (.inl c1);clear lq;go_wp2;go_ret;exact ⟨ret_bool fin.out,rfl⟩
    · by_cases c2:hi < n
      · have fin:Hid (false=T):=lq.no (.inr c2);clear lq;go_wp2;go_ret;exact ⟨ret_bool fin.out,rfl⟩
      · have nx:Hid (AllI lo hi (ns.drop (k + 1)) T):=lq.yes (by omega) (by omega);clear lq;go_wp2;exact ⟨⟨k + 1,by omega,by simp,nx⟩,by simp [intOf]; omega⟩
  · obtain rfl:k=len:=by omega
    have fin:Hid (true=T):=by
     have lq:=lf.out;rw [List.drop_of_length_le (by have:=hlen.out; omega)] at lq;exact lq.fin
    clear lf hc;go_wp2;go_ret;exact ⟨ret_bool fin.out,rfl⟩
def HasN (n:Int) (l:List Int) (T:Bool):Prop:=l.any (fun m=>decide (n=m))=T
theorem HasN.fin {n:Int} {T:Bool} (h:HasN n [] T):false=T:=h
theorem HasN.yes {n m:Int} {l:List Int} {T:Bool} (h:HasN n (m :: l) T) (e:n=m):true=T:=by
 unfold HasN at h;rw [← h,List.any_cons,decide_eq_true e]; rfl
theorem HasN.no {n m:Int} {l:List Int} {T:Bool} (h:HasN n (m :: l) T) (e:¬ n=m):HasN n l T:=by
 unfold HasN at *;rw [← h,List.any_cons,decide_eq_false e]; rfl
theorem snindex_any (n:Int) (ns:List Int) (g o cap:Nat) (w:World) (hc:IntsIn w g o ns) (hl:(ns.length:Int)≤100) :
 Calls Tryz.prog 109 #[.slice (some ⟨g,o,none⟩) ns.length cap,.int .i64 n] w fun e w'=>(∃ r:Int,e=.returned (.int .i64 r)∧(-1≤r∧r≤100)∧decide (0≤r)=ns.any (fun m=>decide (n=m)))∧w'=w:=by
 obtain ⟨T,hT⟩:∃ T,ns.any (fun m=>decide (n=m))=T:=⟨_,rfl⟩;rw [hT];have I0:Hid (HasN n (ns.drop 0) T):=hT;clear hT;obtain ⟨len,hlen⟩:∃ len,ns.length=len:=⟨_,rfl⟩;rw [hlen] at hl ⊢;replace hlen:Hid (ns.length=len):=hlen;replace hc:Hid (IntsIn w g o ns):=hc
 go_enter Tryz.func109,Tryz.ntmps109
 go_wp2
 go_loop [8] (fun vi=>∃ k:Nat,(k:Int)≤(len:Int)∧vi=.int .i64 (k:Int)∧Hid (HasN n (ns.drop k) T)) (fun vi=>len - (intOf vi).toNat)
 case atStart=>exact ⟨0,by omega,rfl,I0⟩
 case round=>
  obtain ⟨k,hk,rfl,lf⟩:=hrel;clear I0
  by_cases hlt:(k:Int) < (len:Int)
  · have hkl:k < ns.length:=by have:=hlen.out; omega
    have c:=hc.out k hkl;have lq:=lf.out;rw [List.drop_eq_getElem_cons hkl] at lq;generalize ns[k]=m at *;clear lf hc hkl
    by_cases c1:n=m
    · have fin:Hid (true=T):=lq.yes c1;have q:(n == m)=true:=beq_iff_eq.2 c1;clear lq;go_wp2;go_ret;exact ⟨⟨_,rfl,⟨by omega,by omega⟩,by rw [← fin.out]; exact decide_eq_true (by omega)⟩,rfl⟩
    · have nx:Hid (HasN n (ns.drop (k + 1)) T):=lq.no c1;have q:(n == m)=false:=beq_eq_false_iff_ne.2 c1;clear lq;go_wp2;exact ⟨⟨k + 1,by omega,by simp,nx⟩,by simp [intOf]; omega⟩
  · obtain rfl:k=len:=by omega
    have fin:Hid (false=T):=by
     have lq:=lf.out;rw [List.drop_of_length_le (by have:=hlen.out; omega)] at lq;exact lq.fin
    clear lf hc;go_wp2;go_ret;exact ⟨⟨_,rfl,⟨by omega,by omega⟩,by rw [← fin.out]; rfl⟩,rfl⟩
theorem contains_any (n:Int) (ns:List Int) (g o cap:Nat) (w:World) (hc:IntsIn w g o ns) (hl:(ns.length:Int)≤100) :
 Calls Tryz.prog 81 #[.slice (some ⟨g,o,none⟩) ns.length cap,.int .i64 n] w fun e w'=>e=.returned (.bool (ns.any (fun m=>decide (n=m))))∧w'=w:=by
 have ix:=snindex_any n ns g o cap w hc hl;replace ix:Hid (Calls Tryz.prog 109 #[.slice (some ⟨g,o,none⟩) ns.length cap,.int .i64 n] w fun e w'=>(∃ r:Int,e=.returned (.int .i64 r)∧(-1≤r∧r≤100)∧decide (0≤r)=ns.any (fun m=>decide (n=m)))∧w'=w):=ix;clear hc hl;generalize ns.any (fun m=>decide (n=m))=T at *;generalize ns.length=len at *
 go_enter Tryz.func81,Tryz.ntmps81
 go_wp2_with fail
 refine ix.out.mono ?_;rintro e w1 ⟨⟨r,rfl,hr,hd⟩,hw⟩;obtain rfl:=hw.symm;clear ix;subst hd;go_wp2;go_ret;exact ⟨rfl,rfl⟩
def FldsV (x:World) (v:Value) (fs:List Fd):Prop:=(∃ a c,v=.slice a 0 c∧fs=[]) ∨ ∃ g o cap,v=.slice (some ⟨g,o,none⟩) fs.length cap∧fs.length≤cap∧FldsIn x g o fs∧g < x.heap.size
theorem FldsV.below {x y:World} {v:Value} {fs:List Fd} (h:FldsV x v fs) (k:Below x.heap.size x y):FldsV y v fs:=by
 rcases h with h | ⟨g,o,cap,h1,h0,h2,h3⟩
 · exact .inl h
 · exact .inr ⟨g,o,cap,h1,h0,fun j hj i u hu=>(k.cell (p:=⟨g,o + 9 * j + i,none⟩) h3).trans (h2 j hj i u hu),Nat.lt_of_lt_of_le h3 k.size⟩
theorem FldsV.form {x:World} {v:Value} {fs:List Fd} (h:FldsV x v fs):∃ p cap,v=.slice p fs.length cap:=by
 rcases h with ⟨a,c,h,rfl⟩ | ⟨g,o,cap,h,_⟩
 · exact ⟨_,_,h⟩
 · exact ⟨_,_,h⟩
theorem FldsAt.v {x:World} {v:Value} {fs:List Fd} (h:FldsAt x v fs):FldsV x v fs:=by
 rcases h with ⟨h1,h2⟩ | ⟨g,o,cap,h1,h2,h3,h4⟩
 · exact .inl ⟨none,0,h1,h2⟩
 · exact .inr ⟨g,o,cap,h1,h2,h3,h4⟩
theorem FldsIn.cells {x:World} {g o:Nat} {fs:List Fd} (h:FldsIn x g o fs) {j:Nat} (hj:j < fs.length) {f:Fd} (hf:fs[j]=f) :
 x.cell? ⟨g,o + j * 9,none⟩=some (.string (txt f.nm))∧x.cell? ⟨g,o + j * 9 + 1,none⟩=some (.int .i64 f.pl)∧x.cell? ⟨g,o + j * 9 + 2,none⟩=some (.string (txt f.kd))∧x.cell? ⟨g,o + j * 9 + 3,none⟩=some (.int .i64 f.wd)
 ∧ x.cell? ⟨g,o + j * 9 + 4,none⟩=some (.int .i64 f.sn)∧x.cell? ⟨g,o + j * 9 + 5,none⟩=some (.int .i64 f.sd)∧x.cell? ⟨g,o + j * 9 + 6,none⟩=some (.int .i64 f.on)∧x.cell? ⟨g,o + j * 9 + 7,none⟩=some (.int .i64 f.od)∧x.cell? ⟨g,o + j * 9 + 8,none⟩=some (.string (txt f.un)):=by
 subst hf;have k:=h j hj;rw [Nat.mul_comm 9 j] at k;exact ⟨k 0 _ rfl,k 1 _ rfl,k 2 _ rfl,k 3 _ rfl,k 4 _ rfl,k 5 _ rfl,k 6 _ rfl,k 7 _ rfl,k 8 _ rfl⟩
theorem FldsIn.take {x:World} {g o:Nat} {fs:List Fd} (h:FldsIn x g o fs) (k:Nat):FldsIn x g o (fs.take k):=by
 intro j hj i u hu;rw [List.length_take] at hj;refine h j (by omega) i u ?_
 rwa [List.getElem_take] at hu
theorem txtw_eqL (a b:Wd):((txt a).toList == (txt b).toList)=decide (a=b):=by
 have e:∀ z,(txt z).toList=z:=fun z=>by rw [ByteArray.toList_eq]; rfl
 rw [e,e]
 by_cases h:a=b
 · rw [h,decide_eq_true rfl]; exact beq_self_eq_true _
 · rw [decide_eq_false h]; exact beq_eq_false_iff_ne.2 h
theorem named1_any (nm:Wd) (f:Fd) (p:Nat) (w:World) (hp:w.cell? ⟨p,0,none⟩=some (.string (txt nm))) :
 Calls Tryz.prog 119 #[fdV f,.pointer (some ⟨p,0,none⟩)] w fun e w'=>e=.returned (.bool (decide (f.nm=nm)))∧Below w.heap.size w w':=by
 obtain ⟨fm,pl,kd,wd,sn,sd,on,od,un⟩:=f;have q2:=txtw_eqL fm nm;have B:Hid (∀ o,Below w.heap.size w (w.alloc o)):=fun o=>(Below.refl _ _).alloc (Nat.le_refl _) o
 have hpa:∀ o,(w.alloc o).cell? ⟨p,0,none⟩=some (.string (txt nm)):=fun o=>(((Below.refl _ _).alloc (Nat.le_refl _) o).cell (p:=⟨p,0,none⟩) (block_lt_of_cell hp)).trans hp
 have hpb:=hpa (.cells #[.string (txt fm),.int .i64 pl,.string (txt kd),.int .i64 wd,.int .i64 sn,.int .i64 sd,.int .i64 on,.int .i64 od,.string (txt un)] 70);clear hpa hp;unfold fdV;simp only;generalize decide (fm=nm)=T at *;generalize txt fm=S1 at *;generalize txt nm=S2 at *
 go_enter Tryz.func119,Tryz.ntmps119
 go_wp2;go_ret;exact ⟨rfl,B.out _⟩
def HasW (nm:Wd) (l:List Fd) (T:Bool):Prop:=decide (nm ∈ l.map (·.nm))=T
theorem HasW.fin {nm:Wd} {T:Bool} (h:HasW nm [] T):false=T:=h
theorem HasW.yes {nm:Wd} {f:Fd} {l:List Fd} {T:Bool} (h:HasW nm (f :: l) T) (e:decide (f.nm=nm)=true):true=T:=by
 unfold HasW at h;rw [← h,decide_eq_true (by rw [List.map_cons,List.mem_cons]; exact .inl (of_decide_eq_true e).symm)]
theorem HasW.no {nm:Wd} {f:Fd} {l:List Fd} {T:Bool} (h:HasW nm (f :: l) T) (e:decide (f.nm=nm)=false):HasW nm l T:=by
 unfold HasW at *;rw [← h,decide_eq_decide,List.map_cons,List.mem_cons];have:=of_decide_eq_false e;exact ⟨.inr,fun k=>k.elim (fun k=>absurd k.symm this) id⟩
theorem idxf_any (nm:Wd) (p:Nat) (v:Value) (fs:List Fd) (w:World) (hp:w.cell? ⟨p,0,none⟩=some (.string (txt nm))) (hv:FldsV w v fs) (hl:(fs.length:Int)≤100) :
 Calls Tryz.prog 139 #[v,.func (.func 119) #[] #[.pointer (some ⟨p,0,none⟩)]] w fun e w'=>(∃ r:Int,e=.returned (.int .i64 r)∧(-1≤r∧r≤100)∧decide (0≤r)=decide (nm ∈ fs.map (·.nm)))∧Below w.heap.size w w':=by
 obtain ⟨pv,cap,rfl⟩:=hv.form;obtain ⟨T,hT⟩:∃ T,decide (nm ∈ fs.map (·.nm))=T:=⟨_,rfl⟩;rw [hT];have I0:Hid (HasW nm (fs.drop 0) T):=hT;clear hT;obtain ⟨len,hlen⟩:∃ len,fs.length=len:=⟨_,rfl⟩;rw [hlen] at hl hv ⊢;replace hlen:Hid (fs.length=len):=hlen;replace hv:Hid (FldsV w (.slice pv len cap) fs):=hv;replace hp:Hid (w.cell? ⟨p,0,none⟩=some (.string (txt nm))):=hp;have B0:Hid (Below w.heap.size w w):=Below.refl _ _
 go_enter Tryz.func139,Tryz.ntmps139
 go_wp2
 go_loopw [8] (fun vi wr=>∃ k:Nat,(k:Int)≤(len:Int)∧vi=.int .i64 (k:Int)∧Hid (HasW nm (fs.drop k) T)∧Hid (Below w.heap.size w wr)) (fun vi _=>len - (intOf vi).toNat)
 case atStart=>exact ⟨0,by omega,rfl,I0,B0⟩
 case round=>
  obtain ⟨k,hk,rfl,lf,B⟩:=hrel;clear I0 B0
  by_cases hlt:(k:Int) < (len:Int)
  · have hkl:k < fs.length:=by have:=hlen.out; omega
    have hvr:=hv.out.below B.out;have hpr:=(B.out.cell (p:=⟨p,0,none⟩) (block_lt_of_cell hp.out)).trans hp.out;have lq:=lf.out;rw [List.drop_eq_getElem_cons hkl] at lq;rcases hvr with ⟨_,_,_,e⟩ | ⟨g,o,cap',e,_,hin,_⟩
    · rw [e] at hkl; cases hkl
    · injection e with e1 e2 e3
      subst e1;obtain ⟨f,hf⟩:∃ f,fs[k]=f:=⟨_,rfl⟩;obtain ⟨c0,c1,c2,c3,c4,c5,c6,c7,c8⟩:=hin.cells hkl hf;rw [hf] at lq;have nc:Hid (Calls Tryz.prog 119 #[fdV f,.pointer (some ⟨p,0,none⟩)] wr fun e w'=>e=.returned (.bool (decide (f.nm=nm)))∧Below wr.heap.size wr w'):=named1_any nm f p wr hpr;obtain ⟨fm,pl,kd,wd,sn,sd,on,od,un⟩:=f;simp only at c0 c1 c2 c3 c4 c5 c6 c7 c8 nc;replace lq:Hid (HasW nm (⟨fm,pl,kd,wd,sn,sd,on,od,un⟩ :: fs.drop (k + 1)) T):=lq;clear lf hin hf hpr e2 e3 hv hp
      go_wp2_with fail
      refine nc.out.mono ?_;clear nc c0 c1 c2 c3 c4 c5 c6 c7 c8;rintro e w1 ⟨rfl,hb⟩;have B1:Hid (Below w.heap.size w w1):=B.out.trans (hb.mono B.out.size);clear hb B
      cases hd:decide (fm=nm)
      · have nx:Hid (HasW nm (fs.drop (k + 1)) T):=lq.out.no hd;clear lq hd;go_wp2;exact ⟨⟨k + 1,by omega,by simp,nx,B1⟩,by simp [intOf]; omega⟩
      · have fin:Hid (true=T):=lq.out.yes hd;clear lq hd;go_wp2;go_ret;exact ⟨⟨_,rfl,⟨by omega,by omega⟩,by rw [← fin.out]; exact decide_eq_true (by omega)⟩,B1.out⟩
  · obtain rfl:k=len:=by omega
    have fin:Hid (false=T):=by
     have lq:=lf.out;rw [List.drop_of_length_le (by have:=hlen.out; omega)] at lq;exact lq.fin
    clear lf hv hp;go_wp2;go_ret;exact ⟨⟨_,rfl,⟨by omega,by omega⟩,by rw [← fin.out]; rfl⟩,B.out⟩
theorem contf_any (nm:Wd) (p:Nat) (v:Value) (fs:List Fd) (w:World) (hp:w.cell? ⟨p,0,none⟩=some (.string (txt nm))) (hv:FldsV w v fs) (hl:(fs.length:Int)≤100) :
 Calls Tryz.prog 118 #[v,.func (.func 119) #[] #[.pointer (some ⟨p,0,none⟩)]] w fun e w'=>e=.returned (.bool (decide (nm ∈ fs.map (·.nm))))∧Below w.heap.size w w':=by
 have ix:Hid (Calls Tryz.prog 139 #[v,.func (.func 119) #[] #[.pointer (some ⟨p,0,none⟩)]] w fun e w'=>(∃ r:Int,e=.returned (.int .i64 r)∧(-1≤r∧r≤100)∧decide (0≤r)=decide (nm ∈ fs.map (·.nm)))∧Below w.heap.size w w'):=idxf_any nm p v fs w hp hv hl;obtain ⟨pv,cap,rfl⟩:=hv.form;clear hp hv hl;generalize decide (nm ∈ fs.map (·.nm))=T at *
 go_enter Tryz.func118,Tryz.ntmps118
 go_wp2_with fail
 refine ix.out.mono ?_;rintro e w1 ⟨⟨r,rfl,hr,hd⟩,hb⟩;replace hb:Hid (Below w.heap.size w w1):=hb;clear ix;subst hd;go_wp2;go_ret;exact ⟨rfl,hb.out⟩
theorem named_any (nm:Wd) (v:Value) (fs:List Fd) (w:World) (hv:FldsV w v fs) (hl:(fs.length:Int)≤100) :
 Calls Tryz.prog 85 #[v,.string (txt nm)] w fun e w'=>e=.returned (.bool (decide (nm ∈ fs.map (·.nm))))∧Below w.heap.size w w':=by
 have hb0:Below w.heap.size w (w.alloc (.cells #[.string (txt nm)] 9)):=(Below.refl _ _).alloc (Nat.le_refl _) _;have cf:=contf_any nm w.heap.size v fs (w.alloc (.cells #[.string (txt nm)] 9)) (by simp) (hv.below hb0) hl;replace cf:Hid (Calls Tryz.prog 118 #[v,.func (.func 119) #[] #[.pointer (some ⟨w.heap.size,0,none⟩)]] (w.alloc (.cells #[.string (txt nm)] 9)) fun e w'=>e=.returned (.bool (decide (nm ∈ fs.map (·.nm))))∧Below (w.alloc (.cells #[.string (txt nm)] 9)).heap.size (w.alloc (.cells #[.string (txt nm)] 9)) w'):=cf;have hmf:∀ (fn:Fn) (first cap:Array Value) (w:World),(Instr.makeFunc fn first cap).run Tryz.prog w=.ok (.func fn first cap) w:=fun _ _ _ _=>rfl
 replace hb0:Hid (Below w.heap.size w (w.alloc (.cells #[.string (txt nm)] 9))):=hb0;obtain ⟨pv,cap,rfl⟩:=hv.form;clear hv hl;generalize decide (nm ∈ fs.map (·.nm))=T at *;generalize txt nm=S at *
 go_enter Tryz.func85,Tryz.ntmps85
 go_wp2_with fail
 refine cf.out.mono ?_;rintro e w1 ⟨rfl,hb⟩;have B1:Hid (Below w.heap.size w w1):=hb0.out.trans (hb.mono hb0.out.size);clear cf hb hb0;go_wp2;go_ret;exact ⟨rfl,B1.out⟩
end Go.Proofs.YthabffjgdhfbmaaGreatDoor
