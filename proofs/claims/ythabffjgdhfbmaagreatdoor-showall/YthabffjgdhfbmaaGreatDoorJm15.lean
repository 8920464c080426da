/-
  Texts that belong together, one behind the other: SnC, ShField, ShWr. Conditions: as each says.
-/
import Derived.BigQuiet
import Derived.ChangeOld
import Derived.Deep.CutRange
import Derived.Deep.QuietTactic
import Derived.Deep.RegionHeld3
import Derived.Laws.BitsAllLaws
import Derived.Laws.OwnMore
import Derived.Laws.Shifts
import Derived.Lib.QuietBelowIn
import Derived.Maps.AppendAt
import Derived.OpenShut
import Derived.ProofKit
import Derived.RangeFuncCalls
import Derived.ShutString
import Derived.Sort.BigQuietIn
import Derived.Test.YthabffjgdhfbmaaGreatDoorProg
import Derived.Test.YthabffjgdhfbmaaGreatDoorJm1
import Derived.Test.YthabffjgdhfbmaaGreatDoorJm2
import Derived.Test.YthabffjgdhfbmaaGreatDoorJm3
import Derived.Test.YthabffjgdhfbmaaGreatDoorJm4
import Derived.Test.YthabffjgdhfbmaaGreatDoorJm5
import Derived.Test.YthabffjgdhfbmaaGreatDoorJm6
import Derived.Test.YthabffjgdhfbmaaGreatDoorJm7
import Derived.Test.YthabffjgdhfbmaaGreatDoorJm8
import Derived.Test.YthabffjgdhfbmaaGreatDoorJm9
import Derived.Test.YthabffjgdhfbmaaGreatDoorJm10
import Derived.Test.YthabffjgdhfbmaaGreatDoorJm11
import Derived.Test.YthabffjgdhfbmaaGreatDoorJm12
import Derived.Test.YthabffjgdhfbmaaGreatDoorJm13
import Derived.Test.YthabffjgdhfbmaaGreatDoorJm14
set_option maxRecDepth 100000
set_option maxHeartbeats 32000000
set_option linter.unusedVariables false
namespace Go.Proofs.YthabffjgdhfbmaaGreatDoor
open Go.RowKit
def dvL (d:Dv) (fv qv:Value):List Value:=[.string (txt d.nm),.int .i64 d.st,.int .i64 d.es,.int .i64 d.mx,.int .i64 d.sz,.string (txt d.sm),fv,qv,.int .i64 d.po,.int .i64 d.ti,.int .i64 d.re,.int .i64 d.ag]
structure DevB (x:World) (b:Nat) (d:Dv) (fv qv:Value):Prop where
 c:∀ k v,(dvL d fv qv)[k]?=some v→x.cell? ⟨b,k,none⟩=some v
 fl:FldsV x fv d.fs
 lt:b < x.heap.size
theorem DevB.below {x y:World} {b:Nat} {d:Dv} {fv qv:Value} (h:DevB x b d fv qv) (k:Below x.heap.size x y):DevB y b d fv qv:=
 ⟨fun i v hv=>(k.cell (p:=⟨b,i,none⟩) h.lt).trans (h.c i v hv),h.fl.below k,Nat.lt_of_lt_of_le h.lt k.size⟩
theorem DevB.cells {x:World} {b:Nat} {d:Dv} {fv qv:Value} (h:DevB x b d fv qv) :
 x.cell? ⟨b,0,none⟩=some (.string (txt d.nm))∧x.cell? ⟨b,1,none⟩=some (.int .i64 d.st)∧x.cell? ⟨b,2,none⟩=some (.int .i64 d.es)∧x.cell? ⟨b,3,none⟩=some (.int .i64 d.mx)∧x.cell? ⟨b,4,none⟩=some (.int .i64 d.sz)∧x.cell? ⟨b,5,none⟩=some (.string (txt d.sm))
 ∧ x.cell? ⟨b,6,none⟩=some fv∧x.cell? ⟨b,7,none⟩=some qv∧x.cell? ⟨b,8,none⟩=some (.int .i64 d.po)∧x.cell? ⟨b,9,none⟩=some (.int .i64 d.ti)∧x.cell? ⟨b,10,none⟩=some (.int .i64 d.re)∧x.cell? ⟨b,11,none⟩=some (.int .i64 d.ag):=
 ⟨h.c 0 _ rfl,h.c 1 _ rfl,h.c 2 _ rfl,h.c 3 _ rfl,h.c 4 _ rfl,h.c 5 _ rfl,h.c 6 _ rfl,h.c 7 _ rfl,h.c 8 _ rfl,h.c 9 _ rfl,h.c 10 _ rfl,h.c 11 _ rfl⟩
theorem cells_new (w:World) (l:List Value) (T:TypeId):∀ k v,l[k]?=some v→(w.alloc (.cells l.toArray T)).cell? ⟨w.heap.size,k,none⟩=some v:=by
 intro k v hv;have hb:(w.alloc (.cells l.toArray T)).heap[w.heap.size]?=some (.cells l.toArray T):=World.alloc_heap_new w _;simp only [World.cell?,hb,List.getElem?_toArray,hv];rfl
theorem DevB.new {w:World} {d:Dv} {fv qv:Value} (h:FldsV w fv d.fs) (T:TypeId):DevB (w.alloc (.cells #[.string (txt d.nm),.int .i64 d.st,.int .i64 d.es,.int .i64 d.mx,.int .i64 d.sz,.string (txt d.sm),fv,qv,.int .i64 d.po,.int .i64 d.ti,.int .i64 d.re,.int .i64 d.ag] T)) w.heap.size d fv qv:=
 ⟨cells_new w (dvL d fv qv) T,h.below ((Below.refl _ _).alloc (Nat.le_refl _) _),by rw [World.size_alloc]; omega⟩
structure FdB (x:World) (b:Nat) (f:Fd):Prop where
 c:∀ k v,(fdC f)[k]?=some v→x.cell? ⟨b,k,none⟩=some v
 lt:b < x.heap.size
theorem FdB.below {x y:World} {b:Nat} {f:Fd} (h:FdB x b f) (k:Below x.heap.size x y):FdB y b f:=
 ⟨fun i v hv=>(k.cell (p:=⟨b,i,none⟩) h.lt).trans (h.c i v hv),Nat.lt_of_lt_of_le h.lt k.size⟩
theorem FdB.cells {x:World} {b:Nat} {f:Fd} (h:FdB x b f) :
 x.cell? ⟨b,0,none⟩=some (.string (txt f.nm))∧x.cell? ⟨b,1,none⟩=some (.int .i64 f.pl)∧x.cell? ⟨b,2,none⟩=some (.string (txt f.kd))∧x.cell? ⟨b,3,none⟩=some (.int .i64 f.wd)
 ∧ x.cell? ⟨b,4,none⟩=some (.int .i64 f.sn)∧x.cell? ⟨b,5,none⟩=some (.int .i64 f.sd)∧x.cell? ⟨b,6,none⟩=some (.int .i64 f.on)∧x.cell? ⟨b,7,none⟩=some (.int .i64 f.od)∧x.cell? ⟨b,8,none⟩=some (.string (txt f.un)):=
 ⟨h.c 0 _ rfl,h.c 1 _ rfl,h.c 2 _ rfl,h.c 3 _ rfl,h.c 4 _ rfl,h.c 5 _ rfl,h.c 6 _ rfl,h.c 7 _ rfl,h.c 8 _ rfl⟩
theorem FdB.new (w:World) (f:Fd) (T:TypeId):FdB (w.alloc (.cells #[.string (txt f.nm),.int .i64 f.pl,.string (txt f.kd),.int .i64 f.wd,.int .i64 f.sn,.int .i64 f.sd,.int .i64 f.on,.int .i64 f.od,.string (txt f.un)] T)) w.heap.size f:=
 ⟨cells_new w (fdC f) T,by rw [World.size_alloc]; omega⟩
structure MuAt (x:World) (p q:Nat) (F:Value) (n:Int):Prop where
 f:x.cell? ⟨p,0,none⟩=some F
 n:x.cell? ⟨q,0,none⟩=some (.int .i64 n)
theorem MuAt.below {x y:World} {p q:Nat} {F:Value} {n:Int} (h:MuAt x p q F n) (k:Below x.heap.size x y):MuAt y p q F n:=
 ⟨(k.cell (p:=⟨p,0,none⟩) (block_lt_of_cell h.f)).trans h.f,(k.cell (p:=⟨q,0,none⟩) (block_lt_of_cell h.n)).trans h.n⟩
theorem must_any (n:Int) (N:FuncId) (caps:Array Value) (w:World):Calls Tryz.prog 44 #[.int .i64 n,.func (.func N) #[] caps] w fun e w'=>∃ p q,e=.returned (.func (.func 78) #[] #[.pointer (some ⟨p,0,none⟩),.pointer (some ⟨q,0,none⟩)])∧MuAt w' p q (.func (.func N) #[] caps) n∧Below w.heap.size w w':=by
 have hmf:∀ (fn:Fn) (first cap:Array Value) (w:World),(Instr.makeFunc fn first cap).run Tryz.prog w=.ok (.func fn first cap) w:=fun _ _ _ _=>rfl
 go_enter Tryz.func44,Tryz.ntmps44
 go_wp2;go_ret;refine ⟨_,_,rfl,⟨?_,?_⟩,?_⟩
 · simp
 · simp
 · go_grown
abbrev QA (x:World) (n:Int):Ending→World→Prop:=fun e y=>e=.returned (.int .i64 n)∧Below x.heap.size x y
abbrev BA (x:World) (b:Bool):Ending→World→Prop:=fun e y=>e=.returned (.bool b)∧Below x.heap.size x y
theorem must1_0 (c0 p q:Nat) (n:Int) (B:Bool) (x:World) (h:MuAt x p q (.func (.func 45) #[] #[.pointer (some ⟨c0,0,none⟩)]) n) (hc:Calls Tryz.prog 45 #[.pointer (some ⟨c0,0,none⟩)] x (BA x B)):Calls Tryz.prog 78 #[.pointer (some ⟨p,0,none⟩),.pointer (some ⟨q,0,none⟩)] x (QA x (orE B n)):=by
 have m:=h.f;have m2:Hid (x.cell? ⟨q,0,none⟩=some (.int .i64 n)):=h.n;replace hc:Hid (Calls Tryz.prog 45 #[.pointer (some ⟨c0,0,none⟩)] x (BA x B)):=hc;clear h
 go_enter Tryz.func78,Tryz.ntmps78
 go_wp2_with fail
 refine hc.out.mono ?_;rintro e y ⟨rfl,hb⟩;have k2:y.cell? ⟨q,0,none⟩=some (.int .i64 n):=(hb.cell (p:=⟨q,0,none⟩) (block_lt_of_cell m2.out)).trans m2.out;have b1:Hid (Below x.heap.size x y):=hb;clear hc m2 m hb
 cases B
 · go_wp2;go_ret;exact ⟨rfl,b1.out⟩
 · go_wp2;go_ret;exact ⟨rfl,b1.out⟩
theorem must1_1 (c0 p q:Nat) (n:Int) (B:Bool) (x:World) (h:MuAt x p q (.func (.func 48) #[] #[.pointer (some ⟨c0,0,none⟩)]) n) (hc:Calls Tryz.prog 48 #[.pointer (some ⟨c0,0,none⟩)] x (BA x B)):Calls Tryz.prog 78 #[.pointer (some ⟨p,0,none⟩),.pointer (some ⟨q,0,none⟩)] x (QA x (orE B n)):=by
 have m:=h.f;have m2:Hid (x.cell? ⟨q,0,none⟩=some (.int .i64 n)):=h.n;replace hc:Hid (Calls Tryz.prog 48 #[.pointer (some ⟨c0,0,none⟩)] x (BA x B)):=hc;clear h
 go_enter Tryz.func78,Tryz.ntmps78
 go_wp2_with fail
 refine hc.out.mono ?_;rintro e y ⟨rfl,hb⟩;have k2:y.cell? ⟨q,0,none⟩=some (.int .i64 n):=(hb.cell (p:=⟨q,0,none⟩) (block_lt_of_cell m2.out)).trans m2.out;have b1:Hid (Below x.heap.size x y):=hb;clear hc m2 m hb
 cases B
 · go_wp2;go_ret;exact ⟨rfl,b1.out⟩
 · go_wp2;go_ret;exact ⟨rfl,b1.out⟩
theorem must1_2 (c0 p q:Nat) (n:Int) (B:Bool) (x:World) (h:MuAt x p q (.func (.func 50) #[] #[.pointer (some ⟨c0,0,none⟩)]) n) (hc:Calls Tryz.prog 50 #[.pointer (some ⟨c0,0,none⟩)] x (BA x B)):Calls Tryz.prog 78 #[.pointer (some ⟨p,0,none⟩),.pointer (some ⟨q,0,none⟩)] x (QA x (orE B n)):=by
 have m:=h.f;have m2:Hid (x.cell? ⟨q,0,none⟩=some (.int .i64 n)):=h.n;replace hc:Hid (Calls Tryz.prog 50 #[.pointer (some ⟨c0,0,none⟩)] x (BA x B)):=hc;clear h
 go_enter Tryz.func78,Tryz.ntmps78
 go_wp2_with fail
 refine hc.out.mono ?_;rintro e y ⟨rfl,hb⟩;have k2:y.cell? ⟨q,0,none⟩=some (.int .i64 n):=(hb.cell (p:=⟨q,0,none⟩) (block_lt_of_cell m2.out)).trans m2.out;have b1:Hid (Below x.heap.size x y):=hb;clear hc m2 m hb
 cases B
 · go_wp2;go_ret;exact ⟨rfl,b1.out⟩
 · go_wp2;go_ret;exact ⟨rfl,b1.out⟩
theorem must1_3 (c0 p q:Nat) (n:Int) (B:Bool) (x:World) (h:MuAt x p q (.func (.func 52) #[] #[.pointer (some ⟨c0,0,none⟩)]) n) (hc:Calls Tryz.prog 52 #[.pointer (some ⟨c0,0,none⟩)] x (BA x B)):Calls Tryz.prog 78 #[.pointer (some ⟨p,0,none⟩),.pointer (some ⟨q,0,none⟩)] x (QA x (orE B n)):=by
 have m:=h.f;have m2:Hid (x.cell? ⟨q,0,none⟩=some (.int .i64 n)):=h.n;replace hc:Hid (Calls Tryz.prog 52 #[.pointer (some ⟨c0,0,none⟩)] x (BA x B)):=hc;clear h
 go_enter Tryz.func78,Tryz.ntmps78
 go_wp2_with fail
 refine hc.out.mono ?_;rintro e y ⟨rfl,hb⟩;have k2:y.cell? ⟨q,0,none⟩=some (.int .i64 n):=(hb.cell (p:=⟨q,0,none⟩) (block_lt_of_cell m2.out)).trans m2.out;have b1:Hid (Below x.heap.size x y):=hb;clear hc m2 m hb
 cases B
 · go_wp2;go_ret;exact ⟨rfl,b1.out⟩
 · go_wp2;go_ret;exact ⟨rfl,b1.out⟩
theorem must1_4 (c0 p q:Nat) (n:Int) (B:Bool) (x:World) (h:MuAt x p q (.func (.func 110) #[] #[.pointer (some ⟨c0,0,none⟩)]) n) (hc:Calls Tryz.prog 110 #[.pointer (some ⟨c0,0,none⟩)] x (BA x B)):Calls Tryz.prog 78 #[.pointer (some ⟨p,0,none⟩),.pointer (some ⟨q,0,none⟩)] x (QA x (orE B n)):=by
 have m:=h.f;have m2:Hid (x.cell? ⟨q,0,none⟩=some (.int .i64 n)):=h.n;replace hc:Hid (Calls Tryz.prog 110 #[.pointer (some ⟨c0,0,none⟩)] x (BA x B)):=hc;clear h
 go_enter Tryz.func78,Tryz.ntmps78
 go_wp2_with fail
 refine hc.out.mono ?_;rintro e y ⟨rfl,hb⟩;have k2:y.cell? ⟨q,0,none⟩=some (.int .i64 n):=(hb.cell (p:=⟨q,0,none⟩) (block_lt_of_cell m2.out)).trans m2.out;have b1:Hid (Below x.heap.size x y):=hb;clear hc m2 m hb
 cases B
 · go_wp2;go_ret;exact ⟨rfl,b1.out⟩
 · go_wp2;go_ret;exact ⟨rfl,b1.out⟩
theorem must1_5 (c0 c1 p q:Nat) (n:Int) (B:Bool) (x:World) (h:MuAt x p q (.func (.func 112) #[] #[.pointer (some ⟨c0,0,none⟩),.pointer (some ⟨c1,0,none⟩)]) n) (hc:Calls Tryz.prog 112 #[.pointer (some ⟨c0,0,none⟩),.pointer (some ⟨c1,0,none⟩)] x (BA x B)):Calls Tryz.prog 78 #[.pointer (some ⟨p,0,none⟩),.pointer (some ⟨q,0,none⟩)] x (QA x (orE B n)):=by
 have m:=h.f;have m2:Hid (x.cell? ⟨q,0,none⟩=some (.int .i64 n)):=h.n;replace hc:Hid (Calls Tryz.prog 112 #[.pointer (some ⟨c0,0,none⟩),.pointer (some ⟨c1,0,none⟩)] x (BA x B)):=hc;clear h
 go_enter Tryz.func78,Tryz.ntmps78
 go_wp2_with fail
 refine hc.out.mono ?_;rintro e y ⟨rfl,hb⟩;have k2:y.cell? ⟨q,0,none⟩=some (.int .i64 n):=(hb.cell (p:=⟨q,0,none⟩) (block_lt_of_cell m2.out)).trans m2.out;have b1:Hid (Below x.heap.size x y):=hb;clear hc m2 m hb
 cases B
 · go_wp2;go_ret;exact ⟨rfl,b1.out⟩
 · go_wp2;go_ret;exact ⟨rfl,b1.out⟩
theorem must1_6 (c0 p q:Nat) (n:Int) (B:Bool) (x:World) (h:MuAt x p q (.func (.func 114) #[] #[.pointer (some ⟨c0,0,none⟩)]) n) (hc:Calls Tryz.prog 114 #[.pointer (some ⟨c0,0,none⟩)] x (BA x B)):Calls Tryz.prog 78 #[.pointer (some ⟨p,0,none⟩),.pointer (some ⟨q,0,none⟩)] x (QA x (orE B n)):=by
 have m:=h.f;have m2:Hid (x.cell? ⟨q,0,none⟩=some (.int .i64 n)):=h.n;replace hc:Hid (Calls Tryz.prog 114 #[.pointer (some ⟨c0,0,none⟩)] x (BA x B)):=hc;clear h
 go_enter Tryz.func78,Tryz.ntmps78
 go_wp2_with fail
 refine hc.out.mono ?_;rintro e y ⟨rfl,hb⟩;have k2:y.cell? ⟨q,0,none⟩=some (.int .i64 n):=(hb.cell (p:=⟨q,0,none⟩) (block_lt_of_cell m2.out)).trans m2.out;have b1:Hid (Below x.heap.size x y):=hb;clear hc m2 m hb
 cases B
 · go_wp2;go_ret;exact ⟨rfl,b1.out⟩
 · go_wp2;go_ret;exact ⟨rfl,b1.out⟩
theorem must1_7 (c0 p q:Nat) (n:Int) (B:Bool) (x:World) (h:MuAt x p q (.func (.func 116) #[] #[.pointer (some ⟨c0,0,none⟩)]) n) (hc:Calls Tryz.prog 116 #[.pointer (some ⟨c0,0,none⟩)] x (BA x B)):Calls Tryz.prog 78 #[.pointer (some ⟨p,0,none⟩),.pointer (some ⟨q,0,none⟩)] x (QA x (orE B n)):=by
 have m:=h.f;have m2:Hid (x.cell? ⟨q,0,none⟩=some (.int .i64 n)):=h.n;replace hc:Hid (Calls Tryz.prog 116 #[.pointer (some ⟨c0,0,none⟩)] x (BA x B)):=hc;clear h
 go_enter Tryz.func78,Tryz.ntmps78
 go_wp2_with fail
 refine hc.out.mono ?_;rintro e y ⟨rfl,hb⟩;have k2:y.cell? ⟨q,0,none⟩=some (.int .i64 n):=(hb.cell (p:=⟨q,0,none⟩) (block_lt_of_cell m2.out)).trans m2.out;have b1:Hid (Below x.heap.size x y):=hb;clear hc m2 m hb
 cases B
 · go_wp2;go_ret;exact ⟨rfl,b1.out⟩
 · go_wp2;go_ret;exact ⟨rfl,b1.out⟩
theorem must1_8 (c0 c1 c2 p q:Nat) (n:Int) (B:Bool) (x:World) (h:MuAt x p q (.func (.func 84) #[] #[.pointer (some ⟨c0,0,none⟩),.pointer (some ⟨c1,0,none⟩),.pointer (some ⟨c2,0,none⟩)]) n) (hc:Calls Tryz.prog 84 #[.pointer (some ⟨c0,0,none⟩),.pointer (some ⟨c1,0,none⟩),.pointer (some ⟨c2,0,none⟩)] x (BA x B)):Calls Tryz.prog 78 #[.pointer (some ⟨p,0,none⟩),.pointer (some ⟨q,0,none⟩)] x (QA x (orE B n)):=by
 have m:=h.f;have m2:Hid (x.cell? ⟨q,0,none⟩=some (.int .i64 n)):=h.n;replace hc:Hid (Calls Tryz.prog 84 #[.pointer (some ⟨c0,0,none⟩),.pointer (some ⟨c1,0,none⟩),.pointer (some ⟨c2,0,none⟩)] x (BA x B)):=hc;clear h
 go_enter Tryz.func78,Tryz.ntmps78
 go_wp2_with fail
 refine hc.out.mono ?_;rintro e y ⟨rfl,hb⟩;have k2:y.cell? ⟨q,0,none⟩=some (.int .i64 n):=(hb.cell (p:=⟨q,0,none⟩) (block_lt_of_cell m2.out)).trans m2.out;have b1:Hid (Below x.heap.size x y):=hb;clear hc m2 m hb
 cases B
 · go_wp2;go_ret;exact ⟨rfl,b1.out⟩
 · go_wp2;go_ret;exact ⟨rfl,b1.out⟩
def flV (B:Nat) (f:Fd) (γ:Nat):Nat→Value
 | 0=>.pointer (some ⟨B,0,none⟩)
 | 1=>.string (txt f.nm)
 | 2=>.pointer (some ⟨B,1,none⟩)
 | 3=>.int .i64 f.pl
 | 4=>.string (txt (textL f.pl))
 | 5=>.pointer (some ⟨B,2,none⟩)
 | 6=>.string (txt f.kd)
 | 7=>.pointer (some ⟨B,3,none⟩)
 | 8=>.int .i64 f.wd
 | 9=>.string (txt (textL f.wd))
 | 10=>.pointer (some ⟨B,4,none⟩)
 | 11=>rv f.sn f.sd
 | 12=>.string (txt (ratW f.sn f.sd))
 | 13=>.pointer (some ⟨B,6,none⟩)
 | 14=>rv f.on f.od
 | 15=>.string (txt (ratW f.on f.od))
 | 16=>.pointer (some ⟨B,8,none⟩)
 | 17=>.string (txt f.un)
 | 18=>.slice (some ⟨γ,0,none⟩) 8 8
 | 19=>.string (txt (lineB (fieldW f)))
 | 20=>.string (txt (lineB (fieldW f)))
 | _=>undef
def FlP (B:Nat) (f:Fd) (γ:Nat) (_x:Array Bool) (i:Nat) (v:Value) (_z:World):Prop:=v=flV B f γ i
theorem flV_g {B:Nat} {f:Fd} {γ γ':Nat} {j:Nat} (h:j ≠ 18):flV B f γ j=flV B f γ' j:=by
 unfold flV
 split <;> first | rfl | (exact absurd rfl h)
structure FlW (w0:World) (B:Nat) (f:Fd) (γ:Nat) (x:Array Bool) (z:World):Prop where
 fb:FdB z B f
 low:Below w0.heap.size w0 z
 bl:x.getD 18 false=true→StrsIn z γ 0 (fieldW f)∧γ < z.heap.size
theorem FlW.go {w0:World} {B:Nat} {f:Fd} {γ:Nat} {x:Array Bool} {z z':World} (h:FlW w0 B f γ x z) {i:Nat} (hi:i ≠ 18) (hb:Below z.heap.size z z'):FlW w0 B f γ (x.setIfInBounds i true) z':=by
 refine ⟨h.fb.below hb,h.low.trans (hb.mono h.low.size),?_⟩;rw [getD_set_ne false hi];intro e;have k:=h.bl e;exact ⟨strs_below k.1 k.2 hb,Nat.lt_of_lt_of_le k.2 hb.size⟩
theorem strs_new (w:World) (ws:List Wd) (T:TypeId):StrsIn (w.alloc (.cells (strV ws).toArray T)) w.heap.size 0 ws:=fun j hj=>by
 rw [Nat.zero_add];refine cells_new w (strV ws) T j _ ?_;unfold strV;rw [List.getElem?_map,List.getElem?_eq_getElem hj];rfl
theorem FlW.blk {w0:World} {B:Nat} {f:Fd} {γ:Nat} {x:Array Bool} {z:World} (h:FlW w0 B f γ x z):FlW w0 B f z.heap.size (x.setIfInBounds 18 true) (z.alloc (.cells #[.string ⟨#[102,105,101,108,100]⟩,.string (txt f.nm),.string (txt (textL f.pl)),.string (txt f.kd),.string (txt (textL f.wd)),.string (txt (ratW f.sn f.sd)),.string (txt (ratW f.on f.od)),.string (txt f.un)] 9)):=by
 have hb:Below z.heap.size z (z.alloc (.cells #[.string ⟨#[102,105,101,108,100]⟩,.string (txt f.nm),.string (txt (textL f.pl)),.string (txt f.kd),.string (txt (textL f.wd)),.string (txt (ratW f.sn f.sd)),.string (txt (ratW f.on f.od)),.string (txt f.un)] 9)):=(Below.refl _ _).alloc (Nat.le_refl _) _;exact ⟨h.fb.below hb,h.low.trans (hb.mono h.low.size),fun _=>⟨strs_new z (fieldW f) 9,by rw [World.size_alloc]; omega⟩⟩
def ShTxC (f:FuncId) (args:Array Value) (l:List UInt8):Prop:=∀ z,Calls Tryz.prog f args z fun e y=>e=.returned (.string (txt l))∧Below z.heap.size z y
def ShLnC (ws:List Wd) (n:Nat):Prop:=∀ z g,StrsIn z g 0 ws→g < z.heap.size→Calls Tryz.prog 55 #[.slice (some ⟨g,0,none⟩) n n] z fun e y=>e=.returned (.string (txt (lineB ws)))∧Below z.heap.size z y
theorem shLnC {ws:List Wd} (hn:ws.length≤20) (hl:∀ x ∈ ws,x.length≤10000):ShLnC ws ws.length:=fun z g hi hg=>shline_any ws g 0 ws.length z hi hg (Nat.le_refl _) hn hl
theorem ratC {n d:Int} (hn:I64 n) (hd:I64 d):ShTxC 89 #[rv n d] (ratW n d):=fun z=>by
 rw [txt_ratW];exact ratText_any n d z hn hd
structure FdW (f:Fd):Prop where
 nm:f.nm.length≤5000
 kd:f.kd.length≤5000
 un:f.un.length≤5000
 pl:I64 f.pl
 wd:I64 f.wd
 sn:I64 f.sn
 sd:I64 f.sd
 on:I64 f.on
 od:I64 f.od
theorem FdW.ln {f:Fd} (h:FdW f):ShLnC (fieldW f) 8:=shLnC (ws:=fieldW f) (by simp [fieldW]) (fun x hx=>by
 simp only [fieldW,List.mem_cons,List.not_mem_nil,or_false] at hx;rcases hx with e | e | e | e | e | e | e | e <;> subst e
 · decide
 · have:=h.nm; omega
 · have:=(textL_len f.pl).2; omega
 · have:=h.kd; omega
 · have:=(textL_len f.wd).2; omega
 · have:=ratW_len f.sn f.sd; omega
 · have:=ratW_len f.on f.od; omega
 · have:=h.un; omega)
theorem shfield_any (f:Fd) (w:World) (hf:FdW f):Calls Tryz.prog 58 #[fdV f] w fun e y=>e=.returned (.string (txt (lineB (fieldW f))))∧Below w.heap.size w y:=by
 have cp:Hid (ShTxC 57 #[.int .i64 f.pl] (textL f.pl)):=fun z=>shnum_any f.pl z hf.pl
 have cw:Hid (ShTxC 57 #[.int .i64 f.wd] (textL f.wd)):=fun z=>shnum_any f.wd z hf.wd
 have cs:Hid (ShTxC 89 #[rv f.sn f.sd] (ratW f.sn f.sd)):=ratC hf.sn hf.sd;have co:Hid (ShTxC 89 #[rv f.on f.od] (ratW f.on f.od)):=ratC hf.on hf.od;have cl:Hid (ShLnC (fieldW f) 8):=hf.ln;have F0:Hid (FdB (w.alloc (.cells #[.string (txt f.nm),.int .i64 f.pl,.string (txt f.kd),.int .i64 f.wd,.int .i64 f.sn,.int .i64 f.sd,.int .i64 f.on,.int .i64 f.od,.string (txt f.un)] 70)) w.heap.size f):=FdB.new w f _;have B0:Hid (Below w.heap.size w (w.alloc (.cells #[.string (txt f.nm),.int .i64 f.pl,.string (txt f.kd),.int .i64 f.wd,.int .i64 f.sn,.int .i64 f.sd,.int .i64 f.on,.int .i64 f.od,.string (txt f.un)] 70))):=(Below.refl _ _).alloc (Nat.le_refl _) _;clear hf
 go_enter Tryz.func58,Tryz.ntmps58
 go_upto_region 1 with fail
 generalize w.alloc (.cells #[.string (txt f.nm),.int .i64 f.pl,.string (txt f.kd),.int .i64 f.wd,.int .i64 f.sn,.int .i64 f.sd,.int .i64 f.on,.int .i64 f.od,.string (txt f.un)] 70)=w0 at *;refine region_props3 (FlP w.heap.size f) (FlW w0 w.heap.size f) 0 (by kernel_rfl) (by kernel_rfl) ?_ ?_ ⟨F0.out.below (Below.refl _ _).drew,(Below.refl _ _).drew,fun h=>(by cases h)⟩
 · intro γ x a z i op ho hI haf hx hxi hW;have hi:i < 21:=(List.getElem?_eq_some_iff.1 ho).1;have xi:=getD_false hxi
   match i,hi with
    | 0,_=>
     obtain rfl:=Option.some.inj ho;have e1:a.tmps.getD 1 undef=.pointer (some ⟨w.heap.size,0,none⟩):=(hI.was (by kernel_rfl)).trans rfl;go_simp;exact ⟨_,rfl,γ,rfl,fun j v _ h=>h,hW.go (by decide) (Below.refl _ _)⟩
    | 1,_=>
     obtain rfl:=Option.some.inj ho;have e1:a.tmps.getD 3 undef=.pointer (some ⟨w.heap.size,0,none⟩):=Eq.trans (hI.val 0 _ 3 rfl rfl (dep_at haf (by kernel_rfl))) rfl;have m0:=hW.fb.c 0 _ rfl;go_simp;exact ⟨_,rfl,γ,rfl,fun j v _ h=>h,hW.go (by decide) (Below.refl _ _)⟩
    | 2,_=>
     obtain rfl:=Option.some.inj ho;have e1:a.tmps.getD 1 undef=.pointer (some ⟨w.heap.size,0,none⟩):=(hI.was (by kernel_rfl)).trans rfl;go_simp;exact ⟨_,rfl,γ,rfl,fun j v _ h=>h,hW.go (by decide) (Below.refl _ _)⟩
    | 3,_=>
     obtain rfl:=Option.some.inj ho;have e1:a.tmps.getD 5 undef=.pointer (some ⟨w.heap.size,1,none⟩):=Eq.trans (hI.val 2 _ 5 rfl rfl (dep_at haf (by kernel_rfl))) rfl;have m0:=hW.fb.c 1 _ rfl;go_simp;exact ⟨_,rfl,γ,rfl,fun j v _ h=>h,hW.go (by decide) (Below.refl _ _)⟩
    | 4,_=>
     obtain rfl:=Option.some.inj ho;have e1:a.tmps.getD 6 undef=.int .i64 f.pl:=Eq.trans (hI.val 3 _ 6 rfl rfl (dep_at haf (by kernel_rfl))) rfl;go_simp;refine (cp.out z).mono ?_;rintro e z' ⟨rfl,hb⟩;exact ⟨_,rfl,γ,rfl,fun j v _ h=>h,hW.go (by decide) hb⟩
    | 5,_=>
     obtain rfl:=Option.some.inj ho;have e1:a.tmps.getD 1 undef=.pointer (some ⟨w.heap.size,0,none⟩):=(hI.was (by kernel_rfl)).trans rfl;go_simp;exact ⟨_,rfl,γ,rfl,fun j v _ h=>h,hW.go (by decide) (Below.refl _ _)⟩
    | 6,_=>
     obtain rfl:=Option.some.inj ho;have e1:a.tmps.getD 8 undef=.pointer (some ⟨w.heap.size,2,none⟩):=Eq.trans (hI.val 5 _ 8 rfl rfl (dep_at haf (by kernel_rfl))) rfl;have m0:=hW.fb.c 2 _ rfl;go_simp;exact ⟨_,rfl,γ,rfl,fun j v _ h=>h,hW.go (by decide) (Below.refl _ _)⟩
    | 7,_=>
     obtain rfl:=Option.some.inj ho;have e1:a.tmps.getD 1 undef=.pointer (some ⟨w.heap.size,0,none⟩):=(hI.was (by kernel_rfl)).trans rfl;go_simp;exact ⟨_,rfl,γ,rfl,fun j v _ h=>h,hW.go (by decide) (Below.refl _ _)⟩
    | 8,_=>
     obtain rfl:=Option.some.inj ho;have e1:a.tmps.getD 10 undef=.pointer (some ⟨w.heap.size,3,none⟩):=Eq.trans (hI.val 7 _ 10 rfl rfl (dep_at haf (by kernel_rfl))) rfl;have m0:=hW.fb.c 3 _ rfl;go_simp;exact ⟨_,rfl,γ,rfl,fun j v _ h=>h,hW.go (by decide) (Below.refl _ _)⟩
    | 9,_=>
     obtain rfl:=Option.some.inj ho;have e1:a.tmps.getD 11 undef=.int .i64 f.wd:=Eq.trans (hI.val 8 _ 11 rfl rfl (dep_at haf (by kernel_rfl))) rfl;go_simp;refine (cw.out z).mono ?_;rintro e z' ⟨rfl,hb⟩;exact ⟨_,rfl,γ,rfl,fun j v _ h=>h,hW.go (by decide) hb⟩
    | 10,_=>
     obtain rfl:=Option.some.inj ho;have e1:a.tmps.getD 1 undef=.pointer (some ⟨w.heap.size,0,none⟩):=(hI.was (by kernel_rfl)).trans rfl;go_simp;exact ⟨_,rfl,γ,rfl,fun j v _ h=>h,hW.go (by decide) (Below.refl _ _)⟩
    | 11,_=>
     obtain rfl:=Option.some.inj ho;have e1:a.tmps.getD 13 undef=.pointer (some ⟨w.heap.size,4,none⟩):=Eq.trans (hI.val 10 _ 13 rfl rfl (dep_at haf (by kernel_rfl))) rfl;have m0:=hW.fb.c 4 _ rfl;have m1:=hW.fb.c 5 _ rfl;go_simp;exact ⟨_,rfl,γ,rfl,fun j v _ h=>h,hW.go (by decide) (Below.refl _ _)⟩
    | 12,_=>
     obtain rfl:=Option.some.inj ho;have e1:a.tmps.getD 14 undef=rv f.sn f.sd:=Eq.trans (hI.val 11 _ 14 rfl rfl (dep_at haf (by kernel_rfl))) rfl;go_simp;refine (cs.out z).mono ?_;rintro e z' ⟨rfl,hb⟩;exact ⟨_,rfl,γ,rfl,fun j v _ h=>h,hW.go (by decide) hb⟩
    | 13,_=>
     obtain rfl:=Option.some.inj ho;have e1:a.tmps.getD 1 undef=.pointer (some ⟨w.heap.size,0,none⟩):=(hI.was (by kernel_rfl)).trans rfl;go_simp;exact ⟨_,rfl,γ,rfl,fun j v _ h=>h,hW.go (by decide) (Below.refl _ _)⟩
    | 14,_=>
     obtain rfl:=Option.some.inj ho;have e1:a.tmps.getD 16 undef=.pointer (some ⟨w.heap.size,6,none⟩):=Eq.trans (hI.val 13 _ 16 rfl rfl (dep_at haf (by kernel_rfl))) rfl;have m0:=hW.fb.c 6 _ rfl;have m1:=hW.fb.c 7 _ rfl;go_simp;exact ⟨_,rfl,γ,rfl,fun j v _ h=>h,hW.go (by decide) (Below.refl _ _)⟩
    | 15,_=>
     obtain rfl:=Option.some.inj ho;have e1:a.tmps.getD 17 undef=rv f.on f.od:=Eq.trans (hI.val 14 _ 17 rfl rfl (dep_at haf (by kernel_rfl))) rfl;go_simp;refine (co.out z).mono ?_;rintro e z' ⟨rfl,hb⟩;exact ⟨_,rfl,γ,rfl,fun j v _ h=>h,hW.go (by decide) hb⟩
    | 16,_=>
     obtain rfl:=Option.some.inj ho;have e1:a.tmps.getD 1 undef=.pointer (some ⟨w.heap.size,0,none⟩):=(hI.was (by kernel_rfl)).trans rfl;go_simp;exact ⟨_,rfl,γ,rfl,fun j v _ h=>h,hW.go (by decide) (Below.refl _ _)⟩
    | 17,_=>
     obtain rfl:=Option.some.inj ho;have e1:a.tmps.getD 19 undef=.pointer (some ⟨w.heap.size,8,none⟩):=Eq.trans (hI.val 16 _ 19 rfl rfl (dep_at haf (by kernel_rfl))) rfl;have m0:=hW.fb.c 8 _ rfl;go_simp;exact ⟨_,rfl,γ,rfl,fun j v _ h=>h,hW.go (by decide) (Below.refl _ _)⟩
    | 18,_=>
     obtain rfl:=Option.some.inj ho;have e1:a.tmps.getD 4 undef=.string (txt f.nm):=Eq.trans (hI.val 1 _ 4 rfl rfl (dep_at haf (by kernel_rfl))) rfl;have e2:a.tmps.getD 7 undef=.string (txt (textL f.pl)):=Eq.trans (hI.val 4 _ 7 rfl rfl (dep_at haf (by kernel_rfl))) rfl;have e3:a.tmps.getD 9 undef=.string (txt f.kd):=Eq.trans (hI.val 6 _ 9 rfl rfl (dep_at haf (by kernel_rfl))) rfl;have e4:a.tmps.getD 12 undef=.string (txt (textL f.wd)):=Eq.trans (hI.val 9 _ 12 rfl rfl (dep_at haf (by kernel_rfl))) rfl;have e5:a.tmps.getD 15 undef=.string (txt (ratW f.sn f.sd)):=Eq.trans (hI.val 12 _ 15 rfl rfl (dep_at haf (by kernel_rfl))) rfl;have e6:a.tmps.getD 18 undef=.string (txt (ratW f.on f.od)):=Eq.trans (hI.val 15 _ 18 rfl rfl (dep_at haf (by kernel_rfl))) rfl;have e7:a.tmps.getD 20 undef=.string (txt f.un):=Eq.trans (hI.val 17 _ 20 rfl rfl (dep_at haf (by kernel_rfl))) rfl;go_simp;simp only [← Array.getD_eq_getD_getElem?,e1,e2,e3,e4,e5,e6,e7];go_simp;refine ⟨_,rfl,z.heap.size,rfl,fun j v hj h=>Eq.trans h (flV_g (fun e=>?_)),hW.blk⟩;subst e; exact gd_no xi hj
    | 19,_=>
     obtain rfl:=Option.some.inj ho;have e1:a.tmps.getD 21 undef=.slice (some ⟨γ,0,none⟩) 8 8:=Eq.trans (hI.val 18 _ 21 rfl rfl (dep_at haf (by kernel_rfl))) rfl;have hbl:=hW.bl (dep_at haf (by kernel_rfl));go_simp;refine (cl.out z γ hbl.1 hbl.2).mono ?_;rintro e z' ⟨rfl,hb⟩;exact ⟨_,rfl,γ,rfl,fun j v _ h=>h,hW.go (by decide) hb⟩
    | 20,_=>
     obtain rfl:=Option.some.inj ho;have e1:a.tmps.getD 22 undef=.string (txt (lineB (fieldW f))):=Eq.trans (hI.val 19 _ 22 rfl rfl (dep_at haf (by kernel_rfl))) rfl;go_simp;exact ⟨_,rfl,γ,rfl,fun j v _ h=>h,hW.go (by decide) (Below.refl _ _)⟩
 · intro γ x a z hx hall hI hW;have B1:Hid (Below w.heap.size w z):=B0.out.trans (hW.low.mono B0.out.size);have ha:=RegI.tmps (V:=flV w.heap.size f γ) hI (by kernel_rfl) hall;simp only [putsL,flV,List.setIfInBounds_toArray,List.set_cons_zero,List.set_cons_succ] at ha;subst ha;clear hI hW hall hx cp cw cs co cl F0 B0;go_wp2;go_ret;exact ⟨rfl,B1.out⟩
def ShB (b:Nat) (d:Dv) (k:Nat) (z:World):Prop:=BldAt b b (bytesL ((linesW d).take k)) z
theorem ShB.below {b:Nat} {d:Dv} {k:Nat} {w x:World} (h:ShB b d k w) (hb:Below w.heap.size w x):ShB b d k x:=BldAt.below h hb
theorem bytes_take (L:List (List Wd)) (k:Nat):(bytesL (L.take k)).length≤(bytesL L).length:=by
 conv=>rhs; rw [← List.take_append_drop k L,bytesL_app,List.length_append]
 omega
def ShWrC (b:Nat) (d:Dv) (k k':Nat) (ws:List Wd):Prop:=∀ z,ShB b d k z→Calls Tryz.prog 36 #[.pointer (some ⟨b,0,none⟩),.string (txt (lineB ws))] z fun e y=>e=.returned (.tuple #[.int .i64 ((lineB ws).length:Int),.nilIface])∧ShB b d k' y∧Below b z y
theorem shWrC (b:Nat) {d:Dv} (hd:DvOk d) {k k':Nat} {ws:List Wd} (h:(linesW d)[k]?=some ws) (hk:k'=k + 1):ShWrC b d k k' ws:=fun z hz=>by
 subst hk;have e1:bytesL ((linesW d).take (k + 1))=bytesL ((linesW d).take k) ++ lineB ws:=by
  rw [List.take_add_one,h,bytesL_app];show _ ++ (lineB ws ++ [])=_;rw [List.append_nil]
 have l0:=hd.len;have l1:(bytesL ((linesW d).take (k + 1))).length≤(textD d).length:=bytes_take _ _;rw [e1,List.length_append] at l1;refine (bws_any b b _ (txt (lineB ws)) z hz (by omega) (by rw [txt_size]; omega)).mono ?_;rintro e y ⟨rfl,h1,h2⟩;rw [txt_size];refine ⟨rfl,?_,h2⟩;unfold ShB;rw [e1];exact h1
def LnN (ws:List Wd) (cs:Array Value) (n:Nat):Prop:=∀ z,Calls Tryz.prog 55 #[.slice (some ⟨z.heap.size,0,none⟩) n n] (z.alloc (.cells cs 9)) fun e y=>e=.returned (.string (txt (lineB ws)))∧Below z.heap.size z y
theorem lnN {ws:List Wd} (hn:ws.length≤20) (hl:∀ x ∈ ws,x.length≤10000):LnN ws (strV ws).toArray ws.length:=fun z=>by
 have hb:Below z.heap.size z (z.alloc (.cells (strV ws).toArray 9)):=(Below.refl _ _).alloc (Nat.le_refl _) _;refine (shline_any ws z.heap.size 0 ws.length _ (strs_new z ws _) (by rw [World.size_alloc]; omega) (Nat.le_refl _) hn hl).mono ?_;rintro e y ⟨rfl,h⟩;exact ⟨rfl,hb.trans (h.mono hb.size)⟩
def HxC (n:Int):Prop:=∀ z g,z.cell? ⟨g,0,none⟩=some (.int .u8 n)→g < z.heap.size→Calls Tryz.prog 56 #[.slice (some ⟨g,0,none⟩) 1 1] z fun e y=>e=.returned (.string (txt (hexW [n.toNat])))∧Below z.heap.size z y
theorem hxC {n:Int} (h:0≤n∧n≤255):HxC n:=fun z g hc hg=>by
 refine shhex_any [n.toNat] (.slice (some ⟨g,0,none⟩) 1 1) z (.inr ⟨g,0,1,rfl,fun j hj=>?_,hg⟩) (fun c hc=>by rw [List.mem_singleton.1 hc]; omega) (by simp);have e:j=0:=by simp at hj; exact hj
 subst e;show z.cell? ⟨g,0,none⟩=some (.int .u8 ((n.toNat:Nat):Int));rw [hc,show ((n.toNat:Nat):Int)=n by omega]
def HxN (n:Int):Prop:=∀ z,Calls Tryz.prog 56 #[.slice (some ⟨z.heap.size,0,none⟩) 1 1] (z.alloc (.cells #[.int .u8 n] 5)) fun e y=>e=.returned (.string (txt (hexW [n.toNat])))∧Below z.heap.size z y
theorem cell_1 (z:World) (v:Value) (T:TypeId):(z.alloc (.cells #[v] T)).cell? ⟨z.heap.size,0,none⟩=some v:=by simp
theorem hxN {n:Int} (h:HxC n):HxN n:=fun z=>by
 have hb:Below z.heap.size z (z.alloc (.cells #[.int .u8 n] 5)):=(Below.refl _ _).alloc (Nat.le_refl _) _;refine (h _ z.heap.size (cell_1 z _ _) (by rw [World.size_alloc]; omega)).mono ?_;rintro e y ⟨rfl,k⟩;exact ⟨rfl,hb.trans (k.mono hb.size)⟩
structure WrG where
 b1:Nat
 b2:Nat
 b3:Nat
def wrV (D:Nat) (d:Dv) (n:Int) (γ:WrG):Nat→Value
 | 0=>.pointer (some ⟨D,2,none⟩)
 | 1=>.int .i64 d.es
 | 2=>.int .u8 d.es
 | 3=>.slice (some ⟨γ.b1,0,none⟩) 1 1
 | 4=>.string (txt (hexW [d.es.toNat]))
 | 5=>.pointer (some ⟨D,3,none⟩)
 | 6=>.int .i64 d.mx
 | 7=>.int .u8 d.mx
 | 8=>.slice (some ⟨γ.b2,0,none⟩) 1 1
 | 9=>.string (txt (hexW [d.mx.toNat]))
 | 10=>.slice (some ⟨γ.b3,0,none⟩) 3 3
 | 11=>.string (txt (lineB [kEsc,hexW [d.es.toNat],hexW [d.mx.toNat]]))
 | 12=>.tuple #[.int .i64 n,.nilIface]
 | _=>undef
def WrP (D:Nat) (d:Dv) (n:Int) (γ:WrG) (i:Nat) (v:Value):Prop:=v=wrV D d n γ i
theorem wrV_k1 {D:Nat} {d:Dv} {n:Int} {γ:WrG} {b:Nat} {j:Nat} (h:j ≠ 3):wrV D d n γ j=wrV D d n ⟨b,γ.b2,γ.b3⟩ j:=by
 unfold wrV
 split <;> first | rfl | (exact absurd rfl h)
theorem wrV_k2 {D:Nat} {d:Dv} {n:Int} {γ:WrG} {b:Nat} {j:Nat} (h:j ≠ 8):wrV D d n γ j=wrV D d n ⟨γ.b1,b,γ.b3⟩ j:=by
 unfold wrV
 split <;> first | rfl | (exact absurd rfl h)
theorem wrV_k3 {D:Nat} {d:Dv} {n:Int} {γ:WrG} {b:Nat} {j:Nat} (h:j ≠ 10):wrV D d n γ j=wrV D d n ⟨γ.b1,γ.b2,b⟩ j:=by
 unfold wrV
 split <;> first | rfl | (exact absurd rfl h)
structure WrW (w1:World) (d:Dv) (γ:WrG) (x:Array Bool) (z:World):Prop where
 low:Below w1.heap.size w1 z
 bd:x.getD 12 false=false→ShB w1.heap.size d 2 z
 be:x.getD 12 false=true→ShB w1.heap.size d 3 z
 s1:x.getD 3 false=true→x.getD 12 false=false→z.cell? ⟨γ.b1,0,none⟩=some (.int .u8 d.es)∧γ.b1 < z.heap.size
 s2:x.getD 8 false=true→x.getD 12 false=false→z.cell? ⟨γ.b2,0,none⟩=some (.int .u8 d.mx)∧γ.b2 < z.heap.size
 s3:x.getD 10 false=true→x.getD 12 false=false→StrsIn z γ.b3 0 [kEsc,hexW [d.es.toNat],hexW [d.mx.toNat]]∧γ.b3 < z.heap.size
theorem cell_keep {z z':World} {b:Nat} {v:Value} (h:z.cell? ⟨b,0,none⟩=some v∧b < z.heap.size) (hb:Below z.heap.size z z'):z'.cell? ⟨b,0,none⟩=some v∧b < z'.heap.size:=
 ⟨(hb.cell (p:=⟨b,0,none⟩) h.2).trans h.1,Nat.lt_of_lt_of_le h.2 hb.size⟩
theorem strs_keep {z z':World} {b:Nat} {ws:List Wd} (h:StrsIn z b 0 ws∧b < z.heap.size) (hb:Below z.heap.size z z'):StrsIn z' b 0 ws∧b < z'.heap.size:=⟨strs_below h.1 h.2 hb,Nat.lt_of_lt_of_le h.2 hb.size⟩
theorem WrW.go {w1:World} {d:Dv} {γ:WrG} {x:Array Bool} {z z':World} (h:WrW w1 d γ x z) {i:Nat} (h3:i ≠ 3) (h8:i ≠ 8) (h10:i ≠ 10) (h12:i ≠ 12) (hb:Below z.heap.size z z'):WrW w1 d γ (x.setIfInBounds i true) z':=by
 refine ⟨h.low.trans (hb.mono h.low.size),?_,?_,?_,?_,?_⟩
 · rw [getD_set_ne false h12]; exact fun e=>(h.bd e).below hb
 · rw [getD_set_ne false h12]; exact fun e=>(h.be e).below hb
 · rw [getD_set_ne false h3,getD_set_ne false h12]; exact fun e e'=>cell_keep (h.s1 e e') hb
 · rw [getD_set_ne false h8,getD_set_ne false h12]; exact fun e e'=>cell_keep (h.s2 e e') hb
 · rw [getD_set_ne false h10,getD_set_ne false h12]; exact fun e e'=>strs_keep (h.s3 e e') hb
theorem WrW.k1 {w1:World} {d:Dv} {γ:WrG} {x:Array Bool} {z:World} (h:WrW w1 d γ x z) (h12:x.getD 12 false=false):WrW w1 d ⟨z.heap.size,γ.b2,γ.b3⟩ (x.setIfInBounds 3 true) (z.alloc (.cells #[.int .u8 d.es] 5)):=by
 have hb:Below z.heap.size z (z.alloc (.cells #[.int .u8 d.es] 5)):=(Below.refl _ _).alloc (Nat.le_refl _) _;refine ⟨h.low.trans (hb.mono h.low.size),?_,?_,fun _ _=>⟨cell_1 z _ _,by rw [World.size_alloc]; exact Nat.lt_succ_self _⟩,?_,?_⟩
 · exact fun _=>(h.bd h12).below hb
 · rw [getD_set_ne false (by decide),h12]; intro e; cases e
 · rw [getD_set_ne false (by decide)]; exact fun e _=>cell_keep (h.s2 e h12) hb
 · rw [getD_set_ne false (by decide)]; exact fun e _=>strs_keep (h.s3 e h12) hb
theorem WrW.k2 {w1:World} {d:Dv} {γ:WrG} {x:Array Bool} {z:World} (h:WrW w1 d γ x z) (h12:x.getD 12 false=false):WrW w1 d ⟨γ.b1,z.heap.size,γ.b3⟩ (x.setIfInBounds 8 true) (z.alloc (.cells #[.int .u8 d.mx] 5)):=by
 have hb:Below z.heap.size z (z.alloc (.cells #[.int .u8 d.mx] 5)):=(Below.refl _ _).alloc (Nat.le_refl _) _;refine ⟨h.low.trans (hb.mono h.low.size),?_,?_,?_,fun _ _=>⟨cell_1 z _ _,by rw [World.size_alloc]; exact Nat.lt_succ_self _⟩,?_⟩
 · exact fun _=>(h.bd h12).below hb
 · rw [getD_set_ne false (by decide),h12]; intro e; cases e
 · rw [getD_set_ne false (by decide)]; exact fun e _=>cell_keep (h.s1 e h12) hb
 · rw [getD_set_ne false (by decide)]; exact fun e _=>strs_keep (h.s3 e h12) hb
theorem WrW.k3 {w1:World} {d:Dv} {γ:WrG} {x:Array Bool} {z:World} (h:WrW w1 d γ x z) (h12:x.getD 12 false=false):WrW w1 d ⟨γ.b1,γ.b2,z.heap.size⟩ (x.setIfInBounds 10 true) (z.alloc (.cells #[.string ⟨#[101,115,99,97,112,101]⟩,.string (txt (hexW [d.es.toNat])),.string (txt (hexW [d.mx.toNat]))] 9)):=by
 have hb:Below z.heap.size z (z.alloc (.cells #[.string ⟨#[101,115,99,97,112,101]⟩,.string (txt (hexW [d.es.toNat])),.string (txt (hexW [d.mx.toNat]))] 9)):=(Below.refl _ _).alloc (Nat.le_refl _) _;refine ⟨h.low.trans (hb.mono h.low.size),?_,?_,?_,?_,fun _ _=>⟨strs_new z [kEsc,hexW [d.es.toNat],hexW [d.mx.toNat]] 9,by rw [World.size_alloc]; exact Nat.lt_succ_self _⟩⟩
 · exact fun _=>(h.bd h12).below hb
 · rw [getD_set_ne false (by decide),h12]; intro e; cases e
 · rw [getD_set_ne false (by decide)]; exact fun e _=>cell_keep (h.s1 e h12) hb
 · rw [getD_set_ne false (by decide)]; exact fun e _=>cell_keep (h.s2 e h12) hb
theorem WrW.wr {w1:World} {d:Dv} {γ:WrG} {x:Array Bool} {z z':World} (h:WrW w1 d γ x z) (hx:12 < x.size) (hs:ShB w1.heap.size d 3 z') (hb:Below w1.heap.size z z'):WrW w1 d γ (x.setIfInBounds 12 true) z':=by
 refine ⟨h.low.trans hb,?_,fun _=>hs,?_,?_,?_⟩
 · rw [getD_set_at hx]; intro e; cases e
 · rw [getD_set_at hx]; intro _ e; cases e
 · rw [getD_set_at hx]; intro _ e; cases e
 · rw [getD_set_at hx]; intro _ e; cases e
theorem FdOk.w {f:Fd} (h:FdOk f):FdW f:=by
 have n1:=name_le12 h.nm;have n2:=name_le12 h.kd;have n3:=name_le12 h.un;exact ⟨by omega,by omega,by omega,⟨by have:=h.pl; omega,by have:=h.pl; omega⟩,⟨by have:=h.wd; omega,by have:=h.wd; omega⟩,h.s.1,h.s.2.1,h.o.1,h.o.2.1⟩
theorem lines_at {d:Dv} {k:Nat} (hk:k < d.fs.length):(linesW d)[5 + k]?=some (fieldW d.fs[k]):=by
 unfold linesW;rw [List.getElem?_append_right (by show 5≤5 + k; omega),show 5 + k - (headW d).length=k by show 5 + k - 5=k; omega,List.getElem?_append_left (by rw [List.length_map]; exact hk),List.getElem?_map,List.getElem?_eq_getElem hk];rfl
theorem lines_tail (d:Dv) (i:Nat):(linesW d)[5 + d.fs.length + i]?=(tailW d)[i]?:=by
 unfold linesW;rw [List.getElem?_append_right (by show 5≤5 + d.fs.length + i; omega),show 5 + d.fs.length + i - (headW d).length=d.fs.length + i by show 5 + d.fs.length + i - 5=_; omega,List.getElem?_append_right (by rw [List.length_map]; omega),List.length_map,show d.fs.length + i - d.fs.length=i by omega]
theorem linesW_len (d:Dv):(linesW d).length=5 + d.fs.length + 5:=by
 unfold linesW;rw [List.length_append,List.length_append,List.length_map];show 5 + (d.fs.length + 5)=_;omega
def FlC (b:Nat) (d:Dv):Prop:=∀ k (h:k < d.fs.length),ShTxC 58 #[fdV d.fs[k]] (lineB (fieldW d.fs[k]))∧ShWrC b d (5 + k) (5 + (k + 1)) (fieldW d.fs[k])
theorem shwritten_any (d:Dv) (fv qv:Value) (w:World) (hd:DvOk d) (hfv:FldsV w fv d.fs) (hqv:BytesAt w qv d.rq) :
 Calls Tryz.prog 23 #[dvV d fv qv] w fun e y=>e=.returned (.string (txt (textD d)))∧Below w.heap.size w y:=by
 have n1:=name_le12 hd.nm;have n2:=name_le12 hd.sm;have r1:=hd.rq.2;have t0:=hexW_len d.rq;have t1:=(textL_len d.sz).2;have t2:=(textL_len d.po).2;have t3:=(textL_len d.ti).2;have t4:=(textL_len d.re).2;have t5:=(textL_len d.ag).2;have t6:=hexW_len [d.st.toNat];have t7:=hexW_len [d.es.toNat];have t8:=hexW_len [d.mx.toNat];simp only [List.length_cons,List.length_nil] at t6 t7 t8;have ln0:Hid (LnN [kDev,d.nm] #[.string ⟨#[100,101,118,105,99,101]⟩,.string (txt (d.nm))] 2):=lnN (ws:=[kDev,d.nm]) (by simp) (fun x hx=>by simp only [List.mem_cons,List.not_mem_nil,or_false] at hx; rcases hx with e | e <;> subst e <;> first | decide | omega);have ln1:Hid (LnN [kSta,hexW [d.st.toNat]] #[.string ⟨#[115,116,97,114,116]⟩,.string (txt (hexW [d.st.toNat]))] 2):=lnN (ws:=[kSta,hexW [d.st.toNat]]) (by simp) (fun x hx=>by simp only [List.mem_cons,List.not_mem_nil,or_false] at hx; rcases hx with e | e <;> subst e <;> first | decide | omega);have ln3:Hid (ShLnC [kEsc,hexW [d.es.toNat],hexW [d.mx.toNat]] 3):=shLnC (ws:=[kEsc,hexW [d.es.toNat],hexW [d.mx.toNat]]) (by simp) (fun x hx=>by simp only [List.mem_cons,List.not_mem_nil,or_false] at hx; rcases hx with e | e | e <;> subst e <;> first | decide | omega);have ln4:Hid (LnN [kSiz,textL d.sz] #[.string ⟨#[115,105,122,101]⟩,.string (txt (textL d.sz))] 2):=lnN (ws:=[kSiz,textL d.sz]) (by simp) (fun x hx=>by simp only [List.mem_cons,List.not_mem_nil,or_false] at hx; rcases hx with e | e <;> subst e <;> first | decide | omega);have ln5:Hid (LnN [kSum,d.sm] #[.string ⟨#[115,117,109]⟩,.string (txt (d.sm))] 2):=lnN (ws:=[kSum,d.sm]) (by simp) (fun x hx=>by simp only [List.mem_cons,List.not_mem_nil,or_false] at hx; rcases hx with e | e <;> subst e <;> first | decide | omega);have lna:Hid (LnN [kReq,hexW d.rq] #[.string ⟨#[114,101,113,117,101,115,116]⟩,.string (txt (hexW d.rq))] 2):=lnN (ws:=[kReq,hexW d.rq]) (by simp) (fun x hx=>by simp only [List.mem_cons,List.not_mem_nil,or_false] at hx; rcases hx with e | e <;> subst e <;> first | decide | omega);have lnb:Hid (LnN [kPol,textL d.po] #[.string ⟨#[112,111,108,108]⟩,.string (txt (textL d.po))] 2):=lnN (ws:=[kPol,textL d.po]) (by simp) (fun x hx=>by simp only [List.mem_cons,List.not_mem_nil,or_false] at hx; rcases hx with e | e <;> subst e <;> first | decide | omega);have lnc:Hid (LnN [kTim,textL d.ti] #[.string ⟨#[116,105,109,101,111,117,116]⟩,.string (txt (textL d.ti))] 2):=lnN (ws:=[kTim,textL d.ti]) (by simp) (fun x hx=>by simp only [List.mem_cons,List.not_mem_nil,or_false] at hx; rcases hx with e | e <;> subst e <;> first | decide | omega);have lnd:Hid (LnN [kRet,textL d.re] #[.string ⟨#[114,101,116,114,105,101,115]⟩,.string (txt (textL d.re))] 2):=lnN (ws:=[kRet,textL d.re]) (by simp) (fun x hx=>by simp only [List.mem_cons,List.not_mem_nil,or_false] at hx; rcases hx with e | e <;> subst e <;> first | decide | omega);have lne:Hid (LnN [kAge,textL d.ag] #[.string ⟨#[97,103,101]⟩,.string (txt (textL d.ag))] 2):=lnN (ws:=[kAge,textL d.ag]) (by simp) (fun x hx=>by simp only [List.mem_cons,List.not_mem_nil,or_false] at hx; rcases hx with e | e <;> subst e <;> first | decide | omega);clear n1 n2 t0 t1 t2 t3 t4 t5 t6 t7 t8;have hx1:Hid (HxN d.st):=hxN (hxC hd.st);have hx2:Hid (HxC d.es):=hxC hd.es;have hx3:Hid (HxC d.mx):=hxC hd.mx;have wst:IntKind.u8.wrap d.st=d.st:=by have:=hd.st; simp only [IntKind.wrap_u8]; omega
 have we:Hid (IntKind.u8.wrap d.es=d.es):=by have:=hd.es; unfold Hid; simp only [IntKind.wrap_u8]; omega
 have wm:Hid (IntKind.u8.wrap d.mx=d.mx):=by have:=hd.mx; unfold Hid; simp only [IntKind.wrap_u8]; omega
 have nz:Hid (ShTxC 57 #[.int .i64 d.sz] (textL d.sz)):=fun z=>shnum_any d.sz z ⟨by have:=hd.sz; omega,by have:=hd.sz; omega⟩
 have np:Hid (ShTxC 57 #[.int .i64 d.po] (textL d.po)):=fun z=>shnum_any d.po z ⟨by have:=hd.po; omega,by have:=hd.po; omega⟩
 have nt:Hid (ShTxC 57 #[.int .i64 d.ti] (textL d.ti)):=fun z=>shnum_any d.ti z ⟨by have:=hd.ti; omega,by have:=hd.ti; omega⟩
 have nr:Hid (ShTxC 57 #[.int .i64 d.re] (textL d.re)):=fun z=>shnum_any d.re z ⟨by have:=hd.re; omega,by have:=hd.re; omega⟩
 have na:Hid (ShTxC 57 #[.int .i64 d.ag] (textL d.ag)):=fun z=>shnum_any d.ag z ⟨by have:=hd.ag; omega,by have:=hd.ag; omega⟩
 have B0:Hid (Below w.heap.size w (w.alloc (.cells #[.string (txt d.nm),.int .i64 d.st,.int .i64 d.es,.int .i64 d.mx,.int .i64 d.sz,.string (txt d.sm),fv,qv,.int .i64 d.po,.int .i64 d.ti,.int .i64 d.re,.int .i64 d.ag] 33))):=(Below.refl _ _).alloc (Nat.le_refl _) _;have DD:Hid (DevB (w.alloc (.cells #[.string (txt d.nm),.int .i64 d.st,.int .i64 d.es,.int .i64 d.mx,.int .i64 d.sz,.string (txt d.sm),fv,qv,.int .i64 d.po,.int .i64 d.ti,.int .i64 d.re,.int .i64 d.ag] 33)) w.heap.size d fv qv):=DevB.new hfv _;have QQ:Hid (BytesAt (w.alloc (.cells #[.string (txt d.nm),.int .i64 d.st,.int .i64 d.es,.int .i64 d.mx,.int .i64 d.sz,.string (txt d.sm),fv,qv,.int .i64 d.po,.int .i64 d.ti,.int .i64 d.re,.int .i64 d.ag] 33)) qv d.rq):=hqv.below B0.out;obtain ⟨pv,cap,rfl⟩:=hfv.form;obtain ⟨len,hlen⟩:∃ len,d.fs.length=len:=⟨_,rfl⟩;obtain ⟨pq,nq,cq,rfl⟩:∃ p n c,qv=.slice p n c:=by
  rcases hqv with ⟨h,_⟩ | ⟨g,o,cap,h,_⟩
  · exact ⟨none,0,0,h⟩
  · exact ⟨_,_,_,h⟩
 have hl8:len≤8:=by have:=hd.fn; omega
 rw [hlen] at DD QQ B0 ⊢;replace hlen:Hid (d.fs.length=len):=hlen;clear hfv hqv
 go_enter Tryz.func23,Tryz.ntmps23
 go_upto_region 1 with fail
 generalize w.alloc (.cells #[.string (txt d.nm),.int .i64 d.st,.int .i64 d.es,.int .i64 d.mx,.int .i64 d.sz,.string (txt d.sm),.slice pv len cap,.slice pq nq cq,.int .i64 d.po,.int .i64 d.ti,.int .i64 d.re,.int .i64 d.ag] 33)=w1 at *;have wr0:Hid (ShWrC w1.heap.size d 0 1 [kDev,d.nm]):=shWrC _ hd rfl rfl;have wr1:Hid (ShWrC w1.heap.size d 1 2 [kSta,hexW [d.st.toNat]]):=shWrC _ hd rfl rfl;have wr2:Hid (ShWrC w1.heap.size d 2 3 [kEsc,hexW [d.es.toNat],hexW [d.mx.toNat]]):=shWrC _ hd rfl rfl;have wr4:Hid (ShWrC w1.heap.size d 3 4 [kSiz,textL d.sz]):=shWrC _ hd rfl rfl;have wr5:Hid (ShWrC w1.heap.size d 4 5 [kSum,d.sm]):=shWrC _ hd rfl rfl;have fl:Hid (FlC w1.heap.size d):=fun k hk=>⟨fun z=>shfield_any _ z (hd.fs _ (List.getElem_mem hk)).w,shWrC _ hd (lines_at hk) (by omega)⟩
 have wra:Hid (ShWrC w1.heap.size d (5 + d.fs.length) (5 + d.fs.length + 1) [kReq,hexW d.rq]):=shWrC _ hd (lines_tail d 0) (by omega);have wrb:Hid (ShWrC w1.heap.size d (5 + d.fs.length + 1) (5 + d.fs.length + 2) [kPol,textL d.po]):=shWrC _ hd (lines_tail d 1) (by omega);have wrc:Hid (ShWrC w1.heap.size d (5 + d.fs.length + 2) (5 + d.fs.length + 3) [kTim,textL d.ti]):=shWrC _ hd (lines_tail d 2) (by omega);have wrd:Hid (ShWrC w1.heap.size d (5 + d.fs.length + 3) (5 + d.fs.length + 4) [kRet,textL d.re]):=shWrC _ hd (lines_tail d 3) (by omega);have wre:Hid (ShWrC w1.heap.size d (5 + d.fs.length + 4) (5 + d.fs.length + 5) [kAge,textL d.ag]):=shWrC _ hd (lines_tail d 4) (by omega);have hxq:Hid (∀ z,Below w1.heap.size w1 z→Calls Tryz.prog 56 #[.slice pq nq cq] z fun e y=>e=.returned (.string (txt (hexW d.rq)))∧Below z.heap.size z y):=fun z hz=>shhex_any d.rq _ z (QQ.out.below hz) hd.rb (by omega)
 clear hd r1 QQ;have Lz:Hid (Below w1.heap.size w1 (w1.alloc (.cells #[.pointer none,.slice none 0 0] 82))):=(Below.refl _ _).alloc (Nat.le_refl _) _;have Sz:Hid (ShB w1.heap.size d 0 (w1.alloc (.cells #[.pointer none,.slice none 0 0] 82))):=BldAt.new w1
 go_upto_region 2 with fail
 generalize w1.alloc (.cells #[.pointer none,.slice none 0 0] 82)=z at *;have m0:=(DD.out.below Lz.out).c 0 _ rfl
 go_wp2_with fail
 refine (ln0.out z).mono ?_;rintro e za ⟨rfl,hb⟩;have Lza:Hid (Below w1.heap.size w1 za):=Lz.out.trans (hb.mono Lz.out.size);have Sza:Hid (ShB w1.heap.size d 0 za):=Sz.out.below hb;clear hb Lz Sz;clear m0
 go_wp2_with fail
 refine (wr0.out za Sza.out).mono ?_;rintro e y ⟨rfl,hs,hb⟩;have Ly:Hid (Below w1.heap.size w1 y):=Lza.out.trans hb;have Sy:Hid (ShB w1.heap.size d 1 y):=hs;clear hb hs Lza Sza ln0 wr0;have m0:=(DD.out.below Ly.out).c 1 _ rfl
 go_wp2_with fail
 refine (hx1.out y).mono ?_;rintro e ya ⟨rfl,hb⟩;have Lya:Hid (Below w1.heap.size w1 ya):=Ly.out.trans (hb.mono Ly.out.size);have Sya:Hid (ShB w1.heap.size d 1 ya):=Sy.out.below hb;clear hb Ly Sy;clear m0
 go_wp2_with fail
 refine (ln1.out ya).mono ?_;rintro e yaa ⟨rfl,hb⟩;have Lyaa:Hid (Below w1.heap.size w1 yaa):=Lya.out.trans (hb.mono Lya.out.size);have Syaa:Hid (ShB w1.heap.size d 1 yaa):=Sya.out.below hb;clear hb Lya Sya
 go_wp2_with fail
 refine (wr1.out yaa Syaa.out).mono ?_;rintro e x ⟨rfl,hs,hb⟩;have Lx:Hid (Below w1.heap.size w1 x):=Lyaa.out.trans hb;have Sx:Hid (ShB w1.heap.size d 2 x):=hs;clear hb hs Lyaa Syaa ln1 wr1;clear hx1 wst
 go_upto_region 4 with fail
 refine region_props4 (fun γ i v=>WrP w.heap.size d ((lineB [kEsc,hexW [d.es.toNat],hexW [d.mx.toNat]]).length:Int) γ i v) (WrW w1 d) ⟨0,0,0⟩ (by kernel_rfl) (by kernel_rfl) ?_ ?_ ⟨Lx.out.trans ((Below.refl x.heap.size x).drew.mono Lx.out.size),fun _=>Sx.out.below (Below.refl _ _).drew,fun h=>(by cases h),fun h=>(by cases h),fun h=>(by cases h),fun h=>(by cases h)⟩
 · intro γ x a z i op ho hI haf hcl hx hxi hW;have hi:i < 13:=(List.getElem?_eq_some_iff.1 ho).1;have xi:=getD_false hxi
   match i,hi with
    | 0,_=>
     obtain rfl:=Option.some.inj ho;have e1:a.tmps.getD 1 undef=.pointer (some ⟨w.heap.size,0,none⟩):=(hI.was (by kernel_rfl)).trans rfl;go_simp;exact ⟨_,rfl,γ,rfl,fun j v _ h=>h,hW.go (by decide) (by decide) (by decide) (by decide) (Below.refl _ _)⟩
    | 1,_=>
     obtain rfl:=Option.some.inj ho;have e1:a.tmps.getD 19 undef=.pointer (some ⟨w.heap.size,2,none⟩):=Eq.trans (hI.val 0 _ 19 rfl rfl (dep_at haf (by kernel_rfl))) rfl;have m0:=(DD.out.below hW.low).c 2 _ rfl;go_simp;exact ⟨_,rfl,γ,rfl,fun j v _ h=>h,hW.go (by decide) (by decide) (by decide) (by decide) (Below.refl _ _)⟩
    | 2,_=>
     obtain rfl:=Option.some.inj ho;have e1:a.tmps.getD 20 undef=.int .i64 d.es:=Eq.trans (hI.val 1 _ 20 rfl rfl (dep_at haf (by kernel_rfl))) rfl;have wk:IntKind.u8.wrap d.es=d.es:=we.out;go_simp;exact ⟨_,rfl,γ,rfl,fun j v _ h=>h,hW.go (by decide) (by decide) (by decide) (by decide) (Below.refl _ _)⟩
    | 3,_=>
     obtain rfl:=Option.some.inj ho;have e1:a.tmps.getD 21 undef=.int .u8 d.es:=Eq.trans (hI.val 2 _ 21 rfl rfl (dep_at haf (by kernel_rfl))) rfl;have x12:x.getD 12 false=false:=no_bit xi fun h=>hcl.at (j:=4) rfl (k:=3) (by kernel_rfl) (hcl.at (j:=10) rfl (k:=4) (by kernel_rfl) (hcl.at (j:=11) rfl (k:=10) (by kernel_rfl) (hcl.at (j:=12) rfl (k:=11) (by kernel_rfl) h)))
     go_simp;simp only [← Array.getD_eq_getD_getElem?,e1];go_simp;refine ⟨_,rfl,⟨z.heap.size,γ.b2,γ.b3⟩,rfl,fun j v hj h=>Eq.trans h (wrV_k1 (fun e=>?_)),hW.k1 x12⟩;subst e; exact gd_no xi hj
    | 4,_=>
     obtain rfl:=Option.some.inj ho;have e1:a.tmps.getD 22 undef=.slice (some ⟨γ.b1,0,none⟩) 1 1:=Eq.trans (hI.val 3 _ 22 rfl rfl (dep_at haf (by kernel_rfl))) rfl;have x12:x.getD 12 false=false:=no_bit xi fun h=>hcl.at (j:=10) rfl (k:=4) (by kernel_rfl) (hcl.at (j:=11) rfl (k:=10) (by kernel_rfl) (hcl.at (j:=12) rfl (k:=11) (by kernel_rfl) h))
     have s1:=hW.s1 (dep_at haf (by kernel_rfl)) x12;go_simp;refine (hx2.out z γ.b1 s1.1 s1.2).mono ?_;rintro e z' ⟨rfl,hb⟩;exact ⟨_,rfl,γ,rfl,fun j v _ h=>h,hW.go (by decide) (by decide) (by decide) (by decide) hb⟩
    | 5,_=>
     obtain rfl:=Option.some.inj ho;have e1:a.tmps.getD 1 undef=.pointer (some ⟨w.heap.size,0,none⟩):=(hI.was (by kernel_rfl)).trans rfl;go_simp;exact ⟨_,rfl,γ,rfl,fun j v _ h=>h,hW.go (by decide) (by decide) (by decide) (by decide) (Below.refl _ _)⟩
    | 6,_=>
     obtain rfl:=Option.some.inj ho;have e1:a.tmps.getD 24 undef=.pointer (some ⟨w.heap.size,3,none⟩):=Eq.trans (hI.val 5 _ 24 rfl rfl (dep_at haf (by kernel_rfl))) rfl;have m0:=(DD.out.below hW.low).c 3 _ rfl;go_simp;exact ⟨_,rfl,γ,rfl,fun j v _ h=>h,hW.go (by decide) (by decide) (by decide) (by decide) (Below.refl _ _)⟩
    | 7,_=>
     obtain rfl:=Option.some.inj ho;have e1:a.tmps.getD 25 undef=.int .i64 d.mx:=Eq.trans (hI.val 6 _ 25 rfl rfl (dep_at haf (by kernel_rfl))) rfl;have wk:IntKind.u8.wrap d.mx=d.mx:=wm.out;go_simp;exact ⟨_,rfl,γ,rfl,fun j v _ h=>h,hW.go (by decide) (by decide) (by decide) (by decide) (Below.refl _ _)⟩
    | 8,_=>
     obtain rfl:=Option.some.inj ho;have e1:a.tmps.getD 26 undef=.int .u8 d.mx:=Eq.trans (hI.val 7 _ 26 rfl rfl (dep_at haf (by kernel_rfl))) rfl;have x12:x.getD 12 false=false:=no_bit xi fun h=>hcl.at (j:=9) rfl (k:=8) (by kernel_rfl) (hcl.at (j:=10) rfl (k:=9) (by kernel_rfl) (hcl.at (j:=11) rfl (k:=10) (by kernel_rfl) (hcl.at (j:=12) rfl (k:=11) (by kernel_rfl) h)))
     go_simp;simp only [← Array.getD_eq_getD_getElem?,e1];go_simp;refine ⟨_,rfl,⟨γ.b1,z.heap.size,γ.b3⟩,rfl,fun j v hj h=>Eq.trans h (wrV_k2 (fun e=>?_)),hW.k2 x12⟩;subst e; exact gd_no xi hj
    | 9,_=>
     obtain rfl:=Option.some.inj ho;have e1:a.tmps.getD 27 undef=.slice (some ⟨γ.b2,0,none⟩) 1 1:=Eq.trans (hI.val 8 _ 27 rfl rfl (dep_at haf (by kernel_rfl))) rfl;have x12:x.getD 12 false=false:=no_bit xi fun h=>hcl.at (j:=10) rfl (k:=9) (by kernel_rfl) (hcl.at (j:=11) rfl (k:=10) (by kernel_rfl) (hcl.at (j:=12) rfl (k:=11) (by kernel_rfl) h))
     have s2:=hW.s2 (dep_at haf (by kernel_rfl)) x12;go_simp;refine (hx3.out z γ.b2 s2.1 s2.2).mono ?_;rintro e z' ⟨rfl,hb⟩;exact ⟨_,rfl,γ,rfl,fun j v _ h=>h,hW.go (by decide) (by decide) (by decide) (by decide) hb⟩
    | 10,_=>
     obtain rfl:=Option.some.inj ho;have e1:a.tmps.getD 23 undef=.string (txt (hexW [d.es.toNat])):=Eq.trans (hI.val 4 _ 23 rfl rfl (dep_at haf (by kernel_rfl))) rfl;have e2:a.tmps.getD 28 undef=.string (txt (hexW [d.mx.toNat])):=Eq.trans (hI.val 9 _ 28 rfl rfl (dep_at haf (by kernel_rfl))) rfl;have x12:x.getD 12 false=false:=no_bit xi fun h=>hcl.at (j:=11) rfl (k:=10) (by kernel_rfl) (hcl.at (j:=12) rfl (k:=11) (by kernel_rfl) h)
     go_simp;simp only [← Array.getD_eq_getD_getElem?,e1,e2];go_simp;refine ⟨_,rfl,⟨γ.b1,γ.b2,z.heap.size⟩,rfl,fun j v hj h=>Eq.trans h (wrV_k3 (fun e=>?_)),hW.k3 x12⟩;subst e; exact gd_no xi hj
    | 11,_=>
     obtain rfl:=Option.some.inj ho;have e1:a.tmps.getD 29 undef=.slice (some ⟨γ.b3,0,none⟩) 3 3:=Eq.trans (hI.val 10 _ 29 rfl rfl (dep_at haf (by kernel_rfl))) rfl;have x12:x.getD 12 false=false:=no_bit xi fun h=>hcl.at (j:=12) rfl (k:=11) (by kernel_rfl) h
     have s3:=hW.s3 (dep_at haf (by kernel_rfl)) x12;go_simp;refine (ln3.out z γ.b3 s3.1 s3.2).mono ?_;rintro e z' ⟨rfl,hb⟩;exact ⟨_,rfl,γ,rfl,fun j v _ h=>h,hW.go (by decide) (by decide) (by decide) (by decide) hb⟩
    | 12,_=>
     obtain rfl:=Option.some.inj ho;have e1:a.tmps.getD 3 undef=.pointer (some ⟨w1.heap.size,0,none⟩):=(hI.was (by kernel_rfl)).trans rfl;have e2:a.tmps.getD 30 undef=.string (txt (lineB [kEsc,hexW [d.es.toNat],hexW [d.mx.toNat]])):=Eq.trans (hI.val 11 _ 30 rfl rfl (dep_at haf (by kernel_rfl))) rfl;have bd:=hW.bd xi;go_simp;refine (wr2.out z bd).mono ?_;rintro e z' ⟨rfl,hs,hb⟩;exact ⟨_,rfl,γ,rfl,fun j v _ h=>h,hW.wr (by rw [hx]; decide) hs hb⟩
 · intro γ xb a z hx hall hI hW;have Lz:Hid (Below w1.heap.size w1 z):=hW.low;have Sz:Hid (ShB w1.heap.size d 3 z):=hW.be (hall 12 (by decide));have ha:=RegI.tmps (V:=wrV w.heap.size d ((lineB [kEsc,hexW [d.es.toNat],hexW [d.mx.toNat]]).length:Int) γ) hI (by kernel_rfl) hall;simp only [putsL,wrV,List.setIfInBounds_toArray,List.set_cons_zero,List.set_cons_succ] at ha;subst ha;clear hI hW hall hx hx2 hx3 we wm ln3 wr2 Lx Sx;generalize ((lineB [kEsc,hexW [d.es.toNat],hexW [d.mx.toNat]]).length:Int)=nE;have m0:=(DD.out.below Lz.out).c 4 _ rfl
   go_wp2_with fail
   refine (nz.out z).mono ?_;rintro e za ⟨rfl,hb⟩;have Lza:Hid (Below w1.heap.size w1 za):=Lz.out.trans (hb.mono Lz.out.size);have Sza:Hid (ShB w1.heap.size d 3 za):=Sz.out.below hb;clear hb Lz Sz;clear m0
   go_wp2_with fail
   refine (ln4.out za).mono ?_;rintro e zaa ⟨rfl,hb⟩;have Lzaa:Hid (Below w1.heap.size w1 zaa):=Lza.out.trans (hb.mono Lza.out.size);have Szaa:Hid (ShB w1.heap.size d 3 zaa):=Sza.out.below hb;clear hb Lza Sza
   go_wp2_with fail
   refine (wr4.out zaa Szaa.out).mono ?_;rintro e y ⟨rfl,hs,hb⟩;have Ly:Hid (Below w1.heap.size w1 y):=Lzaa.out.trans hb;have Sy:Hid (ShB w1.heap.size d 4 y):=hs;clear hb hs Lzaa Szaa ln4 wr4;have m0:=(DD.out.below Ly.out).c 5 _ rfl
   go_wp2_with fail
   refine (ln5.out y).mono ?_;rintro e ya ⟨rfl,hb⟩;have Lya:Hid (Below w1.heap.size w1 ya):=Ly.out.trans (hb.mono Ly.out.size);have Sya:Hid (ShB w1.heap.size d 4 ya):=Sy.out.below hb;clear hb Ly Sy;clear m0
   go_wp2_with fail
   refine (wr5.out ya Sya.out).mono ?_;rintro e x ⟨rfl,hs,hb⟩;have Lx:Hid (Below w1.heap.size w1 x):=Lya.out.trans hb;have Sx:Hid (ShB w1.heap.size d 5 x):=hs;clear hb hs Lya Sya ln5 wr5;have mf:=(DD.out.below Lx.out).c 6 _ rfl;have L0:Hid (Below w1.heap.size w1 x):=Lx.out;have S0:Hid (ShB w1.heap.size d (5 + 0) x):=Sx.out;clear nz Lx Sx
   go_wp2_with fail
   go_loopw [5,46] (fun vf vi wr=>∃ k:Nat,(k:Int)≤(len:Int)∧vi=.int .i64 (k:Int)∧Hid (ShB w1.heap.size d (5 + k) wr)∧Hid (Below w1.heap.size w1 wr)) (fun _ vi _=>len - (intOf vi).toNat)
   case atStart=>exact ⟨0,by omega,rfl,S0,L0⟩
   case round=>
    obtain ⟨k,hk,rfl,Sr,Lr⟩:=hrel;clear mf S0 L0
    by_cases hlt:(k:Int) < (len:Int)
    · have hkl:k < d.fs.length:=by have:=hlen.out; omega
      have Dr:=DD.out.below Lr.out;rcases Dr.fl with ⟨_,_,_,e⟩ | ⟨g,o,cap',e,_,hin,hg⟩
      · rw [e] at hkl; cases hkl
      · injection e with e1 e2 e3
        subst e1;obtain ⟨f,hf⟩:∃ f,d.fs[k]=f:=⟨_,rfl⟩;obtain ⟨c0,c1,c2,c3,c4,c5,c6,c7,c8⟩:=hin.cells hkl hf;obtain ⟨fc,wc⟩:=fl.out k hkl;rw [hf] at fc wc;replace fc:Hid (ShTxC 58 #[fdV f] (lineB (fieldW f))):=fc;replace wc:Hid (ShWrC w1.heap.size d (5 + k) (5 + (k + 1)) (fieldW f)):=wc;have ba:Hid (∀ o,Below wr.heap.size wr (wr.alloc o)):=fun o=>(Below.refl _ _).alloc (Nat.le_refl _) o
        clear hin hf hkl e2 e3 Dr hg
        go_wp2_with fail
        refine (fc.out _).mono ?_;rintro e y ⟨rfl,hb⟩;have by1:=(ba.out _).trans (hb.mono (ba.out _).size);have Ly:Hid (Below w1.heap.size w1 y):=Lr.out.trans (by1.mono Lr.out.size);have Sy:Hid (ShB w1.heap.size d (5 + k) y):=Sr.out.below by1;clear by1 hb ba fc Lr Sr c0 c1 c2 c3 c4 c5 c6 c7 c8
        go_wp2_with fail
        refine (wc.out y Sy.out).mono ?_;rintro e x' ⟨rfl,hs,hb⟩;have Lx:Hid (Below w1.heap.size w1 x'):=Ly.out.trans hb;replace hs:Hid (ShB w1.heap.size d (5 + (k + 1)) x'):=hs;clear hb Ly Sy wc;go_wp2;exact ⟨⟨k + 1,by omega,by simp,hs,Lx⟩,by simp [intOf]; omega⟩
    · obtain rfl:k=len:=by omega
      have Lz:Hid (Below w1.heap.size w1 wr):=Lr.out;have Sz:Hid (ShB w1.heap.size d (5 + d.fs.length) wr):=by rw [hlen.out]; exact Sr.out
      clear Sr Lr fl;generalize wr=z at *;have m0:=(DD.out.below Lz.out).c 7 _ rfl
      go_wp2_with fail
      refine (hxq.out z Lz.out).mono ?_;rintro e za ⟨rfl,hb⟩;have Lza:Hid (Below w1.heap.size w1 za):=Lz.out.trans (hb.mono Lz.out.size);have Sza:Hid (ShB w1.heap.size d (5 + d.fs.length) za):=Sz.out.below hb;clear hb Lz Sz;clear m0
      go_wp2_with fail
      refine (lna.out za).mono ?_;rintro e zaa ⟨rfl,hb⟩;have Lzaa:Hid (Below w1.heap.size w1 zaa):=Lza.out.trans (hb.mono Lza.out.size);have Szaa:Hid (ShB w1.heap.size d (5 + d.fs.length) zaa):=Sza.out.below hb;clear hb Lza Sza
      go_wp2_with fail
      refine (wra.out zaa Szaa.out).mono ?_;rintro e y ⟨rfl,hs,hb⟩;have Ly:Hid (Below w1.heap.size w1 y):=Lzaa.out.trans hb;have Sy:Hid (ShB w1.heap.size d (5 + d.fs.length + 1) y):=hs;clear hb hs Lzaa Szaa lna wra;have m0:=(DD.out.below Ly.out).c 8 _ rfl
      go_wp2_with fail
      refine (np.out y).mono ?_;rintro e ya ⟨rfl,hb⟩;have Lya:Hid (Below w1.heap.size w1 ya):=Ly.out.trans (hb.mono Ly.out.size);have Sya:Hid (ShB w1.heap.size d (5 + d.fs.length + 1) ya):=Sy.out.below hb;clear hb Ly Sy;clear m0
      go_wp2_with fail
      refine (lnb.out ya).mono ?_;rintro e yaa ⟨rfl,hb⟩;have Lyaa:Hid (Below w1.heap.size w1 yaa):=Lya.out.trans (hb.mono Lya.out.size);have Syaa:Hid (ShB w1.heap.size d (5 + d.fs.length + 1) yaa):=Sya.out.below hb;clear hb Lya Sya
      go_wp2_with fail
      refine (wrb.out yaa Syaa.out).mono ?_;rintro e x ⟨rfl,hs,hb⟩;have Lx:Hid (Below w1.heap.size w1 x):=Lyaa.out.trans hb;have Sx:Hid (ShB w1.heap.size d (5 + d.fs.length + 2) x):=hs;clear hb hs Lyaa Syaa lnb wrb;have m0:=(DD.out.below Lx.out).c 9 _ rfl
      go_wp2_with fail
      refine (nt.out x).mono ?_;rintro e xa ⟨rfl,hb⟩;have Lxa:Hid (Below w1.heap.size w1 xa):=Lx.out.trans (hb.mono Lx.out.size);have Sxa:Hid (ShB w1.heap.size d (5 + d.fs.length + 2) xa):=Sx.out.below hb;clear hb Lx Sx;clear m0
      go_wp2_with fail
      refine (lnc.out xa).mono ?_;rintro e xaa ⟨rfl,hb⟩;have Lxaa:Hid (Below w1.heap.size w1 xaa):=Lxa.out.trans (hb.mono Lxa.out.size);have Sxaa:Hid (ShB w1.heap.size d (5 + d.fs.length + 2) xaa):=Sxa.out.below hb;clear hb Lxa Sxa
      go_wp2_with fail
      refine (wrc.out xaa Sxaa.out).mono ?_;rintro e z ⟨rfl,hs,hb⟩;have Lz:Hid (Below w1.heap.size w1 z):=Lxaa.out.trans hb;have Sz:Hid (ShB w1.heap.size d (5 + d.fs.length + 3) z):=hs;clear hb hs Lxaa Sxaa lnc wrc;have m0:=(DD.out.below Lz.out).c 10 _ rfl
      go_wp2_with fail
      refine (nr.out z).mono ?_;rintro e za ⟨rfl,hb⟩;have Lza:Hid (Below w1.heap.size w1 za):=Lz.out.trans (hb.mono Lz.out.size);have Sza:Hid (ShB w1.heap.size d (5 + d.fs.length + 3) za):=Sz.out.below hb;clear hb Lz Sz;clear m0
      go_wp2_with fail
      refine (lnd.out za).mono ?_;rintro e zaa ⟨rfl,hb⟩;have Lzaa:Hid (Below w1.heap.size w1 zaa):=Lza.out.trans (hb.mono Lza.out.size);have Szaa:Hid (ShB w1.heap.size d (5 + d.fs.length + 3) zaa):=Sza.out.below hb;clear hb Lza Sza
      go_wp2_with fail
      refine (wrd.out zaa Szaa.out).mono ?_;rintro e y ⟨rfl,hs,hb⟩;have Ly:Hid (Below w1.heap.size w1 y):=Lzaa.out.trans hb;have Sy:Hid (ShB w1.heap.size d (5 + d.fs.length + 4) y):=hs;clear hb hs Lzaa Szaa lnd wrd;have m0:=(DD.out.below Ly.out).c 11 _ rfl
      go_wp2_with fail
      refine (na.out y).mono ?_;rintro e ya ⟨rfl,hb⟩;have Lya:Hid (Below w1.heap.size w1 ya):=Ly.out.trans (hb.mono Ly.out.size);have Sya:Hid (ShB w1.heap.size d (5 + d.fs.length + 4) ya):=Sy.out.below hb;clear hb Ly Sy;clear m0
      go_wp2_with fail
      refine (lne.out ya).mono ?_;rintro e yaa ⟨rfl,hb⟩;have Lyaa:Hid (Below w1.heap.size w1 yaa):=Lya.out.trans (hb.mono Lya.out.size);have Syaa:Hid (ShB w1.heap.size d (5 + d.fs.length + 4) yaa):=Sya.out.below hb;clear hb Lya Sya
      go_wp2_with fail
      refine (wre.out yaa Syaa.out).mono ?_;rintro e x ⟨rfl,hs,hb⟩;have Lx:Hid (Below w1.heap.size w1 x):=Lyaa.out.trans hb;have Sx:Hid (ShB w1.heap.size d (5 + d.fs.length + 5) x):=hs;clear hb hs Lyaa Syaa lne wre;have st:Hid (Calls Tryz.prog 37 #[.pointer (some ⟨w1.heap.size,0,none⟩)] x fun e y=>e=.returned (.string (txt (textD d)))∧Below w1.heap.size x y):=by
       have h:BldAt w1.heap.size w1.heap.size (bytesL ((linesW d).take (5 + d.fs.length + 5))) x:=Sx.out;rw [List.take_of_length_le (by rw [linesW_len]; exact Nat.le_refl _)] at h;exact bst_any _ _ _ x h
      go_wp2_with fail
      refine st.out.mono ?_;rintro e y ⟨rfl,hy⟩;have BF:Hid (Below w.heap.size w y):=B0.out.trans ((Lx.out.trans hy).mono B0.out.size);clear st hy Lx Sx;go_wp2;go_ret;exact ⟨rfl,BF.out⟩
end Go.Proofs.YthabffjgdhfbmaaGreatDoor
