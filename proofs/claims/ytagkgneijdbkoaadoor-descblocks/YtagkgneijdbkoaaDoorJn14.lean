/-
  Texts that belong together, one behind the other: FracRd, DsMath, DsMem, DsMap. Conditions: as each says.
-/
import Derived.Test.YtagkgneijdbkoaaDoorJn11
import Derived.Test.YtagkgneijdbkoaaDoorJn12
import Derived.Test.YtagkgneijdbkoaaDoorJn13
import Derived.Test.YtagkgneijdbkoaaDoorJn4
/-
  A word as a fraction, plainly (layer 8). No conditions but those that each says.
-/
namespace Go.Proofs.YtagkgneijdbkoaaDoor
open Go.RowKit
set_option linter.unusedVariables false

/-- is a word a right fraction's text? its numbers -/
def frB (w : Wd) : Bool := decide (rdE (txt w) = 0)
def frN (w : Wd) : Int := readV (cutU (txt w)).data.toList
def frD (w : Wd) : Int := readV (cutV (txt w)).data.toList
theorem fr_yes {w : Wd} (h : frB w = true) : rdE (txt w) = 0 ∧ rdN (txt w) = frN w ∧ rdD (txt w) = frD w := by
  have h0 : rdE (txt w) = 0 := by simpa [frB] using h
  exact ⟨h0, by unfold rdN frN; rw [if_pos h0], by unfold rdD frD; rw [if_pos h0]⟩
theorem fr_no {w : Wd} (h : frB w = false) : ¬ rdE (txt w) = 0 := by simpa [frB] using h
theorem fr_iff (w : Wd) : frB w = true ↔ (¬ Lib.indexByte w 47 = -1) ∧ readE (cutU (txt w)).data.toList = 0 ∧ readE (cutV (txt w)).data.toList = 0 ∧ rightB (frN w) (frD w) = true := by
  unfold frB frN frD
  rw [decide_eq_true_iff]
  have e : (txt w).data.toList = w := rfl
  constructor
  · intro h
    unfold rdE at h
    split at h
    · cases h
    split at h
    · cases h
    split at h
    · rename_i h1 h2 h3
      have h4 : readE (cutU (txt w)).data.toList = 0 ∧ readE (cutV (txt w)).data.toList = 0 := by
        constructor
        · exact Classical.byContradiction fun c => h2 (.inl c)
        · exact Classical.byContradiction fun c => h2 (.inr c)
      refine ⟨fun hc => ?_, h4.1, h4.2, h3⟩
      have h5 := h4.2
      unfold cutV at h5
      rw [e, if_pos hc] at h5
      revert h5
      decide
    · cases h
  · rintro ⟨_, h1, h2, h3⟩
    unfold rdE
    rw [h1, h2, if_neg (by decide), if_neg (by decide), if_pos h3]
end Go.Proofs.YtagkgneijdbkoaaDoor
/-
  Descriptions of devices, plainly: what a line makes of a device, what lines make of it; two neighbouring lines the other way round (layer 8). No function of a program is named here. No conditions but those that each says.
-/
namespace Go.Proofs.YtagkgneijdbkoaaDoor
open Go.RowKit
set_option linter.unusedVariables false

structure Fd where
  nm : Wd
  pl : Int
  kd : Wd
  wd : Int
  sn : Int
  sd : Int
  on : Int
  od : Int
  un : Wd
structure Dv where
  nm : Wd
  st : Int
  es : Int
  mx : Int
  sz : Int
  sm : Wd
  fs : List Fd
  rq : List Nat
  po : Int
  ti : Int
  re : Int
  ag : Int
def dv0 : Dv := ⟨[], 0, 0, 0, 0, [], [], [], 0, 0, 0, 0⟩
/-- a line: its number, its words -/
abbrev Lr := Int × List Wd
def kDev : Wd := [100, 101, 118, 105, 99, 101]
def kSta : Wd := [115, 116, 97, 114, 116]
def kEsc : Wd := [101, 115, 99, 97, 112, 101]
def kSiz : Wd := [115, 105, 122, 101]
def kSum : Wd := [115, 117, 109]
def kReq : Wd := [114, 101, 113, 117, 101, 115, 116]
def kPol : Wd := [112, 111, 108, 108]
def kTim : Wd := [116, 105, 109, 101, 111, 117, 116]
def kRet : Wd := [114, 101, 116, 114, 105, 101, 115]
def kAge : Wd := [97, 103, 101]
def kFie : Wd := [102, 105, 101, 108, 100]
def tenK : List Wd := [kDev, kSta, kEsc, kSiz, kSum, kReq, kPol, kTim, kRet, kAge]
def octO (w : Wd) : Option Nat :=
  match hexR w with
  | some [b] => some b
  | _ => none
/-- what a field's words make -/
def fldO (a : List Wd) : Option Fd :=
  match a with
  | [n, p, k, wd, s, o, u] =>
    if (nameB n = true ∧ nameB k = true ∧ nameB u = true) ∧ numB p 0 31 = true ∧ numB wd 1 8 = true ∧ frB s = true ∧ frB o = true
    then some ⟨n, readV p, k, readV wd, frN s, frD s, frN o, frD o, u⟩ else none
  | _ => none
def mName (a : List Wd) (k : Wd → Dv → Dv) : Option (Dv → Dv) :=
  match a with
  | [x] => if nameB x = true then some (k x) else none
  | _ => none
def mNum (a : List Wd) (lo hi : Int) (k : Int → Dv → Dv) : Option (Dv → Dv) :=
  match a with
  | [x] => if numB x lo hi = true then some (k (readV x)) else none
  | _ => none
def mSta (a : List Wd) : Option (Dv → Dv) :=
  match a with
  | [x] => Option.map (fun (b : Nat) (d : Dv) => { d with st := (b : Int) }) (octO x)
  | _ => none
def mEsc (a : List Wd) : Option (Dv → Dv) :=
  match a with
  | [x, y] => (octO x).bind fun (b : Nat) => Option.map (fun (c : Nat) (d : Dv) => { d with es := (b : Int), mx := (c : Int) }) (octO y)
  | _ => none
def mReq (a : List Wd) : Option (Dv → Dv) :=
  match a with
  | [x] => (hexR x).bind fun b => if b.length ≤ 16 then some fun d => { d with rq := b } else none
  | _ => none
/-- what stands behind a first word, as a step of the device -/
def updM (f : Wd) (a : List Wd) : Option (Dv → Dv) :=
  if f = kDev then mName a (fun x d => { d with nm := x })
  else if f = kSta then mSta a
  else if f = kEsc then mEsc a
  else if f = kSiz then mNum a 1 32 (fun x d => { d with sz := x })
  else if f = kSum then mName a (fun x d => { d with sm := x })
  else if f = kReq then mReq a
  else if f = kPol then mNum a 1 1000 (fun x d => { d with po := x })
  else if f = kTim then mNum a 1 1000 (fun x d => { d with ti := x })
  else if f = kRet then mNum a 0 10 (fun x d => { d with re := x })
  else if f = kAge then mNum a 1 1000 (fun x d => { d with ag := x })
  else if f = kFie then (fldO a).map fun x d => { d with fs := d.fs ++ [x] }
  else none
def knownB (f : Wd) : Bool := decide (f ∈ tenK ∨ f = kFie)
/-- a line more: the device, or what is wrong -/
def stepM (d : Dv) (seen : List Wd) (ws : List Wd) : Except Nat Dv :=
  match ws with
  | [] => .error 6
  | f :: a =>
    if knownB f = false then .error 6
    else if f ≠ kFie ∧ f ∈ seen then .error 8
    else if f = kFie ∧ d.fs.length = 8 then .error 7
    else match updM f a with
      | none => .error 6
      | some u => .ok (u d)
def lackB (seen : List Wd) : Bool := decide (∃ k ∈ tenK, k ∉ seen)
def goM (d : Dv) (seen : List Wd) : List Lr → Dv × Int × Nat
  | [] => if lackB seen = true then (dv0, 0, 9) else (d, 0, 0)
  | r :: rs =>
    match stepM d seen r.2 with
    | .error e => (dv0, r.1, e)
    | .ok d' => goM d' (seen ++ [r.2.headD []]) rs
def readM (rs : List Lr) : Dv × Int × Nat := goM dv0 [] rs

/-! what a step does -/
theorem upd_form {f : Wd} {a : List Wd} {u : Dv → Dv} (h : updM f a = some u) :
    (f = kDev ∧ ∃ x, nameB x = true ∧ u = fun d => { d with nm := x }) ∨ (f = kSta ∧ ∃ x : Nat, u = fun d => { d with st := (x : Int) }) ∨ (f = kEsc ∧ ∃ x y : Nat, u = fun d => { d with es := (x : Int), mx := (y : Int) })
    ∨ (f = kSiz ∧ ∃ x, u = fun d => { d with sz := x }) ∨ (f = kSum ∧ ∃ x, nameB x = true ∧ u = fun d => { d with sm := x }) ∨ (f = kReq ∧ ∃ x, u = fun d => { d with rq := x })
    ∨ (f = kPol ∧ ∃ x, u = fun d => { d with po := x }) ∨ (f = kTim ∧ ∃ x, u = fun d => { d with ti := x }) ∨ (f = kRet ∧ ∃ x, u = fun d => { d with re := x }) ∨ (f = kAge ∧ ∃ x, u = fun d => { d with ag := x })
    ∨ (f = kFie ∧ ∃ x, u = fun d => { d with fs := d.fs ++ [x] }) := by
  have hn : ∀ {k : Wd → Dv → Dv}, mName a k = some u → ∃ x, nameB x = true ∧ u = k x := by
    intro k h
    unfold mName at h
    split at h
    · split at h
      · exact ⟨_, by assumption, (Option.some.inj h).symm⟩
      · cases h
    · cases h
  have hm : ∀ {lo hi} {k : Int → Dv → Dv}, mNum a lo hi k = some u → ∃ x, u = k x := by
    intro lo hi k h
    unfold mNum at h
    split at h
    · split at h
      · exact ⟨_, (Option.some.inj h).symm⟩
      · cases h
    · cases h
  unfold updM at h
  by_cases h0 : f = kDev
  · rw [if_pos h0] at h
    obtain ⟨x, hx, e⟩ := hn h
    exact .inl ⟨h0, x, hx, e⟩
  rw [if_neg h0] at h
  by_cases h1 : f = kSta
  · rw [if_pos h1] at h
    refine .inr (.inl ⟨h1, ?_⟩)
    unfold mSta at h
    split at h
    · obtain ⟨b, _, e⟩ := Option.map_eq_some_iff.1 h; exact ⟨b, e.symm⟩
    · cases h
  rw [if_neg h1] at h
  by_cases h2 : f = kEsc
  · rw [if_pos h2] at h
    refine .inr (.inr (.inl ⟨h2, ?_⟩))
    unfold mEsc at h
    split at h
    · obtain ⟨b, _, e⟩ := Option.bind_eq_some_iff.1 h
      obtain ⟨c, _, e⟩ := Option.map_eq_some_iff.1 e
      exact ⟨b, c, e.symm⟩
    · cases h
  rw [if_neg h2] at h
  by_cases h3 : f = kSiz
  · rw [if_pos h3] at h
    obtain ⟨x, e⟩ := hm h
    exact .inr (.inr (.inr (.inl ⟨h3, x, e⟩)))
  rw [if_neg h3] at h
  by_cases h4 : f = kSum
  · rw [if_pos h4] at h
    obtain ⟨x, hx, e⟩ := hn h
    exact .inr (.inr (.inr (.inr (.inl ⟨h4, x, hx, e⟩))))
  rw [if_neg h4] at h
  by_cases h5 : f = kReq
  · rw [if_pos h5] at h
    refine .inr (.inr (.inr (.inr (.inr (.inl ⟨h5, ?_⟩)))))
    unfold mReq at h
    split at h
    · obtain ⟨b, _, e⟩ := Option.bind_eq_some_iff.1 h
      split at e
      · exact ⟨b, (Option.some.inj e).symm⟩
      · cases e
    · cases h
  rw [if_neg h5] at h
  by_cases h6 : f = kPol
  · rw [if_pos h6] at h
    obtain ⟨x, e⟩ := hm h
    exact .inr (.inr (.inr (.inr (.inr (.inr (.inl ⟨h6, x, e⟩))))))
  rw [if_neg h6] at h
  by_cases h7 : f = kTim
  · rw [if_pos h7] at h
    obtain ⟨x, e⟩ := hm h
    exact .inr (.inr (.inr (.inr (.inr (.inr (.inr (.inl ⟨h7, x, e⟩)))))))
  rw [if_neg h7] at h
  by_cases h8 : f = kRet
  · rw [if_pos h8] at h
    obtain ⟨x, e⟩ := hm h
    exact .inr (.inr (.inr (.inr (.inr (.inr (.inr (.inr (.inl ⟨h8, x, e⟩))))))))
  rw [if_neg h8] at h
  by_cases h9 : f = kAge
  · rw [if_pos h9] at h
    obtain ⟨x, e⟩ := hm h
    exact .inr (.inr (.inr (.inr (.inr (.inr (.inr (.inr (.inr (.inl ⟨h9, x, e⟩)))))))))
  rw [if_neg h9] at h
  by_cases h10 : f = kFie
  · rw [if_pos h10] at h
    obtain ⟨x, _, e⟩ := Option.map_eq_some_iff.1 h
    exact .inr (.inr (.inr (.inr (.inr (.inr (.inr (.inr (.inr (.inr (⟨h10, x, e.symm⟩))))))))))
  rw [if_neg h10] at h
  cases h
theorem upd_comm {f g : Wd} {a b : List Wd} {u v : Dv → Dv} (hu : updM f a = some u) (hv : updM g b = some v) (hne : ¬ f = g) (d : Dv) : u (v d) = v (u d) := by
  rcases upd_form hu with ⟨rfl, x, _, rfl⟩ | ⟨rfl, x, rfl⟩ | ⟨rfl, x, y, rfl⟩ | ⟨rfl, x, rfl⟩ | ⟨rfl, x, _, rfl⟩ | ⟨rfl, x, rfl⟩ | ⟨rfl, x, rfl⟩ | ⟨rfl, x, rfl⟩ | ⟨rfl, x, rfl⟩ | ⟨rfl, x, rfl⟩ | ⟨rfl, x, rfl⟩ <;>
  rcases upd_form hv with ⟨rfl, z, _, rfl⟩ | ⟨rfl, z, rfl⟩ | ⟨rfl, z, t, rfl⟩ | ⟨rfl, z, rfl⟩ | ⟨rfl, z, _, rfl⟩ | ⟨rfl, z, rfl⟩ | ⟨rfl, z, rfl⟩ | ⟨rfl, z, rfl⟩ | ⟨rfl, z, rfl⟩ | ⟨rfl, z, rfl⟩ | ⟨rfl, z, rfl⟩ <;>
  first | exact absurd rfl hne | rfl
theorem upd_len {f : Wd} {a : List Wd} {u : Dv → Dv} (hu : updM f a = some u) (d : Dv) : (u d).fs.length = d.fs.length + (if f = kFie then 1 else 0) := by
  rcases upd_form hu with ⟨rfl, x, _, rfl⟩ | ⟨rfl, x, rfl⟩ | ⟨rfl, x, y, rfl⟩ | ⟨rfl, x, rfl⟩ | ⟨rfl, x, _, rfl⟩ | ⟨rfl, x, rfl⟩ | ⟨rfl, x, rfl⟩ | ⟨rfl, x, rfl⟩ | ⟨rfl, x, rfl⟩ | ⟨rfl, x, rfl⟩ | ⟨rfl, x, rfl⟩
  all_goals first | (rw [if_neg (by decide)]; rfl) | (rw [if_pos rfl]; simp)
/-- when a step goes well -/
theorem step_ok {d d' : Dv} {s : List Wd} {ws : List Wd} (h : stepM d s ws = .ok d') : ∃ f a u, ws = f :: a ∧ knownB f = true ∧ ¬ (f ≠ kFie ∧ f ∈ s) ∧ ¬ (f = kFie ∧ d.fs.length = 8) ∧ updM f a = some u ∧ d' = u d := by
  unfold stepM at h
  split at h
  · cases h
  · split at h
    · cases h
    split at h
    · cases h
    split at h
    · cases h
    split at h
    · cases h
    · rename_i f a h1 h2 h3 _ u hu
      exact ⟨f, a, u, rfl, by cases hk : knownB f <;> simp_all, h2, h3, hu, (Except.ok.inj h).symm⟩
theorem ok_step {d : Dv} {s : List Wd} {f : Wd} {a : List Wd} {u : Dv → Dv} (h1 : knownB f = true) (h2 : ¬ (f ≠ kFie ∧ f ∈ s)) (h3 : ¬ (f = kFie ∧ d.fs.length = 8)) (hu : updM f a = some u) : stepM d s (f :: a) = .ok (u d) := by
  unfold stepM
  simp only [h1, hu]
  rw [if_neg (by decide), if_neg h2, if_neg h3]
/-- which words were seen counts, not their order -/
theorem step_seen {d : Dv} {s s' : List Wd} (h : ∀ x, x ∈ s ↔ x ∈ s') (ws : List Wd) : stepM d s ws = stepM d s' ws := by
  unfold stepM
  split
  · rfl
  · simp only [h]
theorem lack_seen {s s' : List Wd} (h : ∀ x, x ∈ s ↔ x ∈ s') : lackB s = lackB s' := by unfold lackB; simp only [h]
theorem go_seen (rs : List Lr) : ∀ (d : Dv) {s s' : List Wd} (h : ∀ x, x ∈ s ↔ x ∈ s'), goM d s rs = goM d s' rs := by
  induction rs with
  | nil => intro d s s' h; unfold goM; rw [lack_seen h]
  | cons r rs ih =>
    intro d s s' h
    unfold goM
    rw [step_seen h]
    split
    · rfl
    · exact ih _ (fun x => by simp [h x])
/-- what is wrong hangs on how many fields there are, not on which -/
theorem step_len {d e : Dv} (h : d.fs.length = e.fs.length) (s : List Wd) (ws : List Wd) : (∃ n, stepM d s ws = .error n ∧ stepM e s ws = .error n) ∨ ∃ d' e', stepM d s ws = .ok d' ∧ stepM e s ws = .ok e' ∧ d'.fs.length = e'.fs.length := by
  unfold stepM
  split
  · exact .inl ⟨_, rfl, rfl⟩
  · rw [h]
    split
    · exact .inl ⟨_, rfl, rfl⟩
    split
    · exact .inl ⟨_, rfl, rfl⟩
    split
    · exact .inl ⟨_, rfl, rfl⟩
    split
    · exact .inl ⟨_, rfl, rfl⟩
    · rename_i hu
      exact .inr ⟨_, _, rfl, rfl, by rw [upd_len hu, upd_len hu, h]⟩
theorem go_len (rs : List Lr) : ∀ {d e : Dv} (h : d.fs.length = e.fs.length) (s : List Wd), (goM d s rs).2.2 = (goM e s rs).2.2 := by
  induction rs with
  | nil => intro d e h s; unfold goM; split <;> rfl
  | cons r rs ih =>
    intro d e h s
    unfold goM
    rcases step_len h s r.2 with ⟨n, h1, h2⟩ | ⟨d', e', h1, h2, h3⟩
    · rw [h1, h2]
    · rw [h1, h2]; exact ih h3 _
theorem head_cons (f : Wd) (a : List Wd) : (f :: a).headD [] = f := rfl
theorem go_err {d : Dv} {s : List Wd} {r : Lr} {rs : List Lr} (h : (goM d s (r :: rs)).2.2 = 0) : ∃ d', stepM d s r.2 = .ok d' ∧ goM d s (r :: rs) = goM d' (s ++ [r.2.headD []]) rs := by
  cases hs : stepM d s r.2 with
  | ok d' => exact ⟨d', rfl, by rw [goM, hs]⟩
  | error n =>
    exfalso
    rw [goM, hs] at h
    have h' : n = 0 := h
    unfold stepM at hs
    split at hs
    · cases hs; cases h'
    · split at hs
      · cases hs; cases h'
      split at hs
      · cases hs; cases h'
      split at hs
      · cases hs; cases h'
      split at hs
      · cases hs; cases h'
      · cases hs
theorem go_ok {d d' : Dv} {s : List Wd} {r : Lr} {rs : List Lr} (h : stepM d s r.2 = .ok d') : goM d s (r :: rs) = goM d' (s ++ [r.2.headD []]) rs := by rw [goM, h]
/-- two neighbours the other way round -/
theorem go_two {d : Dv} {s : List Wd} {p q : Lr} {rs : List Lr} (h : (goM d s (p :: q :: rs)).2.2 = 0) :
    (goM d s (q :: p :: rs)).2.2 = 0 ∧ (¬ (p.2.headD [] = kFie ∧ q.2.headD [] = kFie) → goM d s (q :: p :: rs) = goM d s (p :: q :: rs)) := by
  obtain ⟨n1, w1⟩ := p
  obtain ⟨n2, w2⟩ := q
  obtain ⟨d1, hs1, e1⟩ := go_err h
  rw [e1] at h
  obtain ⟨d2, hs2, e2⟩ := go_err h
  rw [e2] at h
  obtain ⟨f, a, u, hw1, k1, t1, z1, u1, rfl⟩ := step_ok hs1
  have hw1' : w1 = f :: a := hw1
  subst hw1'
  clear hw1
  obtain ⟨g, b, v, hw2, k2, t2, z2, u2, rfl⟩ := step_ok hs2
  have hw2' : w2 = g :: b := hw2
  subst hw2'
  clear hw2
  simp only [head_cons] at t2 h e1 e2 ⊢
  have hl := upd_len u1 d
  have q1 : stepM d s (g :: b) = .ok (v d) := by
    refine ok_step k2 (fun c => t2 ⟨c.1, List.mem_append.2 (.inl c.2)⟩) ?_ u2
    rintro ⟨c1, c2⟩
    by_cases hf : f = kFie
    · exact z1 ⟨hf, c2⟩
    · rw [if_neg hf] at hl; exact z2 ⟨c1, by omega⟩
  have q2 : stepM (v d) (s ++ [g]) (f :: a) = .ok (u (v d)) := by
    have hl2 := upd_len u2 d
    refine ok_step k1 ?_ ?_ u1
    · rintro ⟨c1, c2⟩
      rcases List.mem_append.1 c2 with c2 | c2
      · exact t1 ⟨c1, c2⟩
      · have e : f = g := by simpa using c2
        exact t2 ⟨e ▸ c1, List.mem_append.2 (.inr (by simp [e]))⟩
    · rintro ⟨c1, c2⟩
      rw [if_pos c1] at hl
      by_cases hg : g = kFie
      · rw [if_pos hg] at hl2; exact z2 ⟨hg, by omega⟩
      · rw [if_neg hg] at hl2; exact z1 ⟨c1, by omega⟩
  have e3 : goM d s ((n2, g :: b) :: (n1, f :: a) :: rs) = goM (u (v d)) (s ++ [g] ++ [f]) rs := by
    rw [go_ok (r := (n2, g :: b)) q1]
    exact go_ok (r := (n1, f :: a)) q2
  have e4 : goM d s ((n2, g :: b) :: (n1, f :: a) :: rs) = goM (u (v d)) (s ++ [f] ++ [g]) rs := by
    rw [e3]; exact go_seen rs _ (fun x => by simp [or_comm])
  constructor
  · rw [e4, ← h]
    refine go_len rs ?_ _
    rw [upd_len u1, upd_len u2, upd_len u2, upd_len u1]; omega
  · intro hn
    rw [e4, e1, e2]
    by_cases hfg : f = g
    · exfalso
      by_cases hf : f = kFie
      · exact hn ⟨hf, hfg ▸ hf⟩
      · exact t2 ⟨hfg ▸ hf, by simp [hfg]⟩
    · rw [upd_comm u1 u2 hfg]
theorem go_swap (pre : List Lr) : ∀ {d : Dv} {s : List Wd} {p q : Lr} {rs : List Lr} (h : (goM d s (pre ++ p :: q :: rs)).2.2 = 0),
    (goM d s (pre ++ q :: p :: rs)).2.2 = 0 ∧ (¬ (p.2.headD [] = kFie ∧ q.2.headD [] = kFie) → goM d s (pre ++ q :: p :: rs) = goM d s (pre ++ p :: q :: rs)) := by
  induction pre with
  | nil => intro d s p q rs h; exact go_two h
  | cons r pre ih =>
    intro d s p q rs h
    obtain ⟨d1, hs1, e1⟩ := go_err h
    have e2 : goM d s (r :: pre ++ q :: p :: rs) = goM d1 (s ++ [r.2.headD []]) (pre ++ q :: p :: rs) := go_ok hs1
    have e3 : goM d s (r :: pre ++ p :: q :: rs) = goM d1 (s ++ [r.2.headD []]) (pre ++ p :: q :: rs) := e1
    have h' : (goM d1 (s ++ [r.2.headD []]) (pre ++ p :: q :: rs)).2.2 = 0 := by rw [← e3]; exact h
    rw [e2, e3]
    exact ih h'
/-- with no error every line has words -/
theorem go_words (rs : List Lr) : ∀ {d : Dv} {s : List Wd} (h : (goM d s rs).2.2 = 0) (r : Lr) (hr : r ∈ rs), ¬ r.2 = [] := by
  induction rs with
  | nil => intro d s h r hr; cases hr
  | cons q rs ih =>
    intro d s h r hr
    obtain ⟨d1, hs1, e1⟩ := go_err h
    rcases List.mem_cons.1 hr with rfl | hr
    · obtain ⟨f, a, u, hw1, _⟩ := step_ok hs1
      rw [hw1]; simp
    · rw [e1] at h; exact ih h r hr

/-! which words are lacking, by counting -/
theorem nodup_sub (l : List Wd) : ∀ (m : List Wd), l.Nodup → (∀ x ∈ l, x ∈ m) → l.length ≤ m.length := by
  induction l with
  | nil => intro m _ _; simp
  | cons x l ih =>
    intro m hn hs
    have h1 := List.nodup_cons.1 hn
    have hx : x ∈ m := hs x (by simp)
    have h2 := ih (m.erase x) h1.2 (fun y hy => (List.mem_erase_of_ne (fun e => h1.1 (by rw [← e]; exact hy))).2 (hs y (by simp [hy])))
    rw [List.length_erase_of_mem hx] at h2
    have : 0 < m.length := List.length_pos_of_mem hx
    simp only [List.length_cons]; omega
def notF (s : List Wd) : List Wd := s.filter fun x => !decide (x = kFie)
structure SeenOk (d : Dv) (s : List Wd) : Prop where
  nd : (notF s).Nodup
  sub : ∀ x ∈ s, x ∈ tenK ∨ x = kFie
  cnt : s.count kFie = d.fs.length
  le : d.fs.length ≤ 8
theorem SeenOk.first : SeenOk dv0 [] := ⟨by decide, fun x h => (by cases h), rfl, by decide⟩
theorem SeenOk.step {d d' : Dv} {s : List Wd} {ws : List Wd} (h : SeenOk d s) (hs : stepM d s ws = .ok d') : SeenOk d' (s ++ [ws.headD []]) := by
  obtain ⟨f, a, u, rfl, k1, t1, z1, u1, rfl⟩ := step_ok hs
  rw [head_cons]
  have hl := upd_len u1 d
  have hk : f ∈ tenK ∨ f = kFie := by simpa [knownB] using k1
  refine ⟨?_, ?_, ?_, ?_⟩
  · unfold notF
    rw [List.filter_append]
    by_cases hf : f = kFie
    · rw [show List.filter (fun x => !decide (x = kFie)) [f] = [] by simp [hf], List.append_nil]; exact h.nd
    · rw [show List.filter (fun x => !decide (x = kFie)) [f] = [f] by simp [hf]]
      refine List.nodup_append.2 ⟨h.nd, by simp, ?_⟩
      intro x hx y hy e
      have hy' : y = f := by simpa using hy
      exact t1 ⟨hf, by rw [← hy', ← e]; exact (List.mem_filter.1 hx).1⟩
  · intro x hx
    rcases List.mem_append.1 hx with hx | hx
    · exact h.sub x hx
    · have : x = f := by simpa using hx
      rw [this]; exact hk
  · rw [List.count_append, h.cnt, hl, List.count_singleton]
    by_cases hf : f = kFie
    · rw [hf]; simp
    · rw [if_neg hf]; simp [hf]
  · rw [hl]
    have := h.le
    by_cases hf : f = kFie
    · rw [if_pos hf]
      have : ¬ d.fs.length = 8 := fun e => z1 ⟨hf, e⟩
      omega
    · rw [if_neg hf]; omega
theorem tenK_nf : ∀ k ∈ tenK, ¬ k = kFie := by decide
theorem SeenOk.lack {d : Dv} {s : List Wd} (h : SeenOk d s) : lackB s = decide ((notF s).length < 10) := by
  unfold lackB
  rw [decide_eq_decide]
  constructor
  · rintro ⟨k, hk, hn⟩
    have := nodup_sub (notF s) (tenK.erase k) h.nd (fun x hx => by
      have hm := List.mem_filter.1 hx
      have h1 := h.sub x hm.1
      have h2 : ¬ x = kFie := by simpa using hm.2
      exact (List.mem_erase_of_ne (fun e => hn (by rw [← e]; exact hm.1))).2 (h1.resolve_right h2))
    rw [List.length_erase_of_mem hk] at this
    have e : tenK.length = 10 := rfl
    omega
  · intro hl
    refine Classical.byContradiction fun hc => ?_
    have := nodup_sub tenK (notF s) (by decide) (fun x hx => List.mem_filter.2 ⟨Classical.byContradiction fun hn => hc ⟨x, hx, hn⟩, by simpa using tenK_nf x hx⟩)
    have e : tenK.length = 10 := rfl
    omega
end Go.Proofs.YtagkgneijdbkoaaDoor
/-
  Devices, fields and lines in memory (layer 8). No function of a program is named here. No conditions but those that each says.
-/
namespace Go.Proofs.YtagkgneijdbkoaaDoor
open Go.RowKit
set_option linter.unusedVariables false

/-- a field's cells -/
def fdC (f : Fd) : List Value := [.string (txt f.nm), .int .i64 f.pl, .string (txt f.kd), .int .i64 f.wd, .int .i64 f.sn, .int .i64 f.sd, .int .i64 f.on, .int .i64 f.od, .string (txt f.un)]
theorem fdC_len (f : Fd) : (fdC f).length = 9 := rfl
/-- a device's value -/
abbrev dvV (d : Dv) (fv qv : Value) : Value := .agg #[.string (txt d.nm), .int .i64 d.st, .int .i64 d.es, .int .i64 d.mx, .int .i64 d.sz, .string (txt d.sm), fv, qv, .int .i64 d.po, .int .i64 d.ti, .int .i64 d.re, .int .i64 d.ag]
/-- fields, from a place on -/
def FldsIn (x : World) (g o : Nat) (fs : List Fd) : Prop := ∀ j (h : j < fs.length) k v, (fdC fs[j])[k]? = some v → x.cell? ⟨g, o + 9 * j + k, none⟩ = some v
def FldsAt (x : World) (v : Value) (fs : List Fd) : Prop := (v = .slice none 0 0 ∧ fs = []) ∨ ∃ g o cap, v = .slice (some ⟨g, o, none⟩) fs.length cap ∧ FldsIn x g o fs ∧ g < x.heap.size
theorem FldsAt.below {x y : World} {v : Value} {fs : List Fd} (h : FldsAt x v fs) (k : Below x.heap.size x y) : FldsAt y v fs := by
  rcases h with h | ⟨g, o, cap, h1, h2, h3⟩
  · exact .inl h
  · exact .inr ⟨g, o, cap, h1, fun j hj i u hu => (k.cell (p := ⟨g, o + 9 * j + i, none⟩) h3).trans (h2 j hj i u hu), Nat.lt_of_lt_of_le h3 k.size⟩
/-- texts, or none, wherever they would lie -/
def StrsAny (x : World) (v : Value) (ws : List Wd) : Prop := (∃ a c, v = .slice a 0 c ∧ ws = []) ∨ ∃ g o cap, v = .slice (some ⟨g, o, none⟩) ws.length cap ∧ StrsIn x g o ws ∧ g < x.heap.size
theorem StrsAt.any {x : World} {v : Value} {ws : List Wd} (h : StrsAt x v ws) : StrsAny x v ws := by
  rcases h with h | h
  · exact .inl ⟨none, 0, h⟩
  · exact .inr h
theorem StrsAny.below {x y : World} {v : Value} {ws : List Wd} (h : StrsAny x v ws) (k : Below x.heap.size x y) : StrsAny y v ws := by
  rcases h with h | ⟨g, o, cap, h1, h2, h3⟩
  · exact .inl h
  · exact .inr ⟨g, o, cap, h1, fun j hj => (k.cell (p := ⟨g, o + j, none⟩) h3).trans (h2 j hj), Nat.lt_of_lt_of_le h3 k.size⟩
/-- a line, its number and its words, from a place on -/
def LrIn (x : World) (g a : Nat) (r : Lr) : Prop := x.cell? ⟨g, a, none⟩ = some (.int .i64 r.1) ∧ ∃ u, x.cell? ⟨g, a + 1, none⟩ = some u ∧ StrsAny x u r.2
theorem LrIn.below {x y : World} {g a : Nat} {r : Lr} (h : LrIn x g a r) (hg : g < x.heap.size) (k : Below x.heap.size x y) : LrIn y g a r := by
  obtain ⟨h1, u, h2, h3⟩ := h
  exact ⟨(k.cell (p := ⟨g, a, none⟩) hg).trans h1, u, (k.cell (p := ⟨g, a + 1, none⟩) hg).trans h2, h3.below k⟩
def LrsAt (x : World) (v : Value) (rs : List Lr) : Prop := (v = .slice none 0 0 ∧ rs = []) ∨ ∃ g o cap, v = .slice (some ⟨g, o, none⟩) rs.length cap ∧ (∀ j (h : j < rs.length), LrIn x g (o + 2 * j) rs[j]) ∧ g < x.heap.size
theorem LrsAt.below {x y : World} {v : Value} {rs : List Lr} (h : LrsAt x v rs) (k : Below x.heap.size x y) : LrsAt y v rs := by
  rcases h with h | ⟨g, o, cap, h1, h2, h3⟩
  · exact .inl h
  · exact .inr ⟨g, o, cap, h1, fun j hj => (h2 j hj).below h3 k, Nat.lt_of_lt_of_le h3 k.size⟩
/-- lines with numbers from 0 on, as lines -/
def lrOf (rs : List Ln) : List Lr := rs.map fun r => ((r.1 : Int), r.2)
theorem lrs_of {x : World} {v : Value} {rs : List Ln} (h : RowsAt x v rs) : LrsAt x v (lrOf rs) := by
  have hl : (lrOf rs).length = rs.length := by unfold lrOf; simp
  rcases h with ⟨h1, h2⟩ | ⟨g, o, cap, h1, h2, h3⟩
  · exact .inl ⟨h1, by rw [h2]; rfl⟩
  · refine .inr ⟨g, o, cap, by rw [hl]; exact h1, fun j hj => ?_, h3⟩
    have hj' : j < rs.length := by omega
    have e : (lrOf rs)[j] = ((rs[j].1 : Int), rs[j].2) := by
      have k : (lrOf rs)[j]? = some ((rs[j].1 : Int), rs[j].2) := by unfold lrOf; rw [List.getElem?_map, List.getElem?_eq_getElem hj']; rfl
      rw [List.getElem?_eq_getElem hj] at k
      exact Option.some.inj k
    rw [e]
    obtain ⟨k1, u, k2, k3⟩ := h2 j hj'
    exact ⟨k1, u, k2, k3.any⟩
def octI (w : Wd) : Int :=
  match octO w with
  | some b => (b : Int)
  | none => -1
theorem oct_some {w : Wd} {b : Nat} (h : hexR w = some [b]) : octO w = some b := by unfold octO; rw [h]
theorem oct_none {w : Wd} (h : hexR w = none) : octO w = none := by unfold octO; rw [h]
theorem oct_long {w : Wd} {bs : List Nat} (h : hexR w = some bs) (hl : ¬ bs.length = 1) : octO w = none := by
  unfold octO
  rw [h]
  match bs, hl with
  | [], _ => rfl
  | [b], hl => exact absurd rfl hl
  | _ :: _ :: _, _ => rfl
theorem hexR_b {l : List UInt8} {bs : List Nat} (h : hexR l = some bs) : AllBytes bs ∧ bs.length ≤ l.length := by
  unfold hexR at h
  split at h
  · cases h
  · exact hex_bytes l h
end Go.Proofs.YtagkgneijdbkoaaDoor
/-
  Maps by words: what is found, an entry more, an entry turned; how often words were seen, as a map (layer 8). No function of a program is named here. Conditions: as each says.
-/
namespace Go.Proofs.YtagkgneijdbkoaaDoor
open Go.RowKit
set_option linter.unusedVariables false

theorem same_str (a b : ByteArray) : Instr.sameNow .string (.string a) (.string b) = some (a == b) := by rfl
theorem ba_beq (a b : ByteArray) : (a == b) = decide (a = b) := by
  rcases a with ⟨a⟩
  rcases b with ⟨b⟩
  rw [Bool.eq_iff_iff, decide_eq_true_iff]
  constructor
  · intro h
    have h' : (a == b) = true := h
    rw [eq_of_beq h']
  · intro h
    have : a = b := by injection h
    show (a == b) = true
    rw [this]
    exact beq_self_eq_true _
theorem txt_beq (a b : Wd) : (txt a == txt b) = decide (a = b) := by
  rw [ba_beq, decide_eq_decide]
  exact ⟨txt_inj, fun h => by rw [h]⟩
theorem bits_same (s : ByteArray) : Instr.sameBits 10000 (.string s) (.string s) = true := by
  unfold Instr.sameBits
  rw [ba_beq]
  exact decide_eq_true rfl
theorem find_list (s : Wd) : ∀ (es : List MapEntry) (n : Nat), (∀ e ∈ es, ∃ f, e.key = .string (txt f)) →
    (Instr.findNow .string (.string (txt s)) es n = some none ∧ ∀ e ∈ es, e.key ≠ .string (txt s)) ∨ ∃ i e, es[i]? = some e ∧ e.key = .string (txt s) ∧ Instr.findNow .string (.string (txt s)) es n = some (some (n + i, e.val))
  | [], n, _ => .inl ⟨rfl, fun e h => (by cases h)⟩
  | e :: es, n, h => by
    obtain ⟨f, hf⟩ := h e (by simp)
    by_cases hs : s = f
    · subst hs
      refine .inr ⟨0, e, rfl, hf, ?_⟩
      rw [Instr.findNow, hf, same_str, txt_beq, decide_eq_true rfl]
      rfl
    · have e1 : Instr.findNow .string (.string (txt s)) (e :: es) n = Instr.findNow .string (.string (txt s)) es (n + 1) := by
        rw [Instr.findNow, hf, same_str, txt_beq, decide_eq_false hs]
      rcases find_list s es (n + 1) (fun e' he' => h e' (by simp [he'])) with ⟨h1, h2⟩ | ⟨i, e', h1, h2, h3⟩
      · refine .inl ⟨by rw [e1]; exact h1, fun e' he' => ?_⟩
        rcases List.mem_cons.1 he' with rfl | he'
        · rw [hf]; intro hc; injection hc with hc; exact hs (txt_inj hc).symm
        · exact h2 e' he'
      · exact .inr ⟨i + 1, e', h1, h2, by rw [e1, h3]; congr 3; omega⟩
theorem find_arr (s : Wd) (es : Array MapEntry) (h : ∀ (i : Nat) (e : MapEntry), es[i]? = some e → ∃ f, e.key = .string (txt f)) :
    (Instr.findNow .string (.string (txt s)) es.toList 0 = some none ∧ ∀ (i : Nat) (e : MapEntry), es[i]? = some e → e.key ≠ .string (txt s)) ∨ ∃ (i : Nat) (e : MapEntry), es[i]? = some e ∧ e.key = .string (txt s) ∧ Instr.findNow .string (.string (txt s)) es.toList 0 = some (some (i, e.val)) := by
  rcases find_list s es.toList 0 (fun e he => by
    obtain ⟨i, hi⟩ := List.mem_iff_getElem?.1 he
    exact h i e (by rwa [Array.getElem?_toList] at hi)) with ⟨h1, h2⟩ | ⟨i, e, h1, h2, h3⟩
  · exact .inl ⟨h1, fun i e he => h2 e (List.mem_of_getElem? (i := i) (by rw [Array.getElem?_toList]; exact he))⟩
  · exact .inr ⟨i, e, by rwa [Array.getElem?_toList] at h1, h2, by rw [h3, Nat.zero_add]⟩

section
variable {P : Program}
theorem look_found (T K E : TypeId) (ht : P.underlying T = some (.map K E)) (hk : P.underlying K = some .string) (w : World) (g : Nat) (es : Array MapEntry) (c : Nat) (hb : w.heap[g]? = some (.map es c)) (s : ByteArray) (i : Nat) (v : Value) (hf : Instr.findNow .string (.string s) es.toList 0 = some (some (i, v))) :
    (Instr.lookup T (.map (some g)) (.string s) false).run P w = .ok v w := by
  unfold Instr.lookup
  simp [run_underlying ht, obj_map _ _ _ _ hb, key_str _ _ _ hk, find_str _ _ hk _ _ _ hf, Result.andThen]
theorem look_none (T K E : TypeId) (ht : P.underlying T = some (.map K E)) (hk : P.underlying K = some .string) (w : World) (g : Nat) (es : Array MapEntry) (c : Nat) (hb : w.heap[g]? = some (.map es c)) (s : ByteArray) (z : Value) (hz : (zeroValue E).run P w = .ok z w) (hf : Instr.findNow .string (.string s) es.toList 0 = some none) :
    (Instr.lookup T (.map (some g)) (.string s) false).run P w = .ok z w := by
  unfold Instr.lookup
  simp [run_underlying ht, obj_map _ _ _ _ hb, key_str _ _ _ hk, find_str _ _ hk _ _ _ hf, hz, Result.andThen]
theorem ins_none (T K E : TypeId) (ht : P.underlying T = some (.map K E)) (hk : P.underlying K = some .string) (es : Array MapEntry) (c : Nat) (s : ByteArray) (v : Value) (hf : Instr.findNow .string (.string s) es.toList 0 = some none) (w : World) (g : Nat) (hb : w.heap[g]? = some (.map es c)) :
    (Instr.mapUpdate T (.map (some g)) (.string s) v).run P w = .ok () { w with heap := w.heap.setIfInBounds g (.map (es.push { key := .string s, val := v, born := c }) (c + 1)) } := by
  have hs := set_map (P := P) w g es c hb (o := .map (es.push { key := .string s, val := v, born := c }) (c + 1))
  unfold Instr.mapUpdate
  simp [run_underlying ht, obj_map _ _ _ _ hb, key_str _ _ _ hk, find_str _ _ hk _ _ _ hf, hs, Result.andThen]
theorem ins_found (T K E : TypeId) (ht : P.underlying T = some (.map K E)) (hk : P.underlying K = some .string) (es : Array MapEntry) (c : Nat) (s : ByteArray) (v u : Value) (i : Nat) (e : MapEntry) (he : es[i]? = some e) (hke : e.key = .string s) (hf : Instr.findNow .string (.string s) es.toList 0 = some (some (i, u))) (w : World) (g : Nat) (hb : w.heap[g]? = some (.map es c)) :
    (Instr.mapUpdate T (.map (some g)) (.string s) v).run P w = .ok () { w with heap := w.heap.setIfInBounds g (.map (es.modify i fun e => { e with key := .string s, val := v }) c) } := by
  have hs := set_map (P := P) w g es c hb (o := .map (es.modify i fun e => { e with key := .string s, val := v }) c)
  unfold Instr.mapUpdate
  simp [run_underlying ht, obj_map _ _ _ _ hb, key_str _ _ _ hk, find_str _ _ hk _ _ _ hf, he, hke, Instr.keyThatStays, bits_same, hs, Result.andThen]
end

/-- how often words were seen -/
structure LnOk (es : Array MapEntry) (seen : List Wd) : Prop where
  nd : ∀ (i j : Nat) (a b : MapEntry), es[i]? = some a → es[j]? = some b → a.key = b.key → i = j
  key : ∀ (i : Nat) (e : MapEntry), es[i]? = some e → ∃ f : Wd, e.key = .string (txt f) ∧ e.val = .int .i64 ((seen.count f : Nat) : Int)
  has : ∀ f ∈ seen, ∃ (i : Nat) (e : MapEntry), es[i]? = some e ∧ e.key = .string (txt f)
theorem LnOk.first : LnOk #[] [] := ⟨fun i j a b h => (by simp at h), fun i e h => (by simp at h), fun f h => (by cases h)⟩
theorem LnOk.strs {es : Array MapEntry} {seen : List Wd} (h : LnOk es seen) (i : Nat) (e : MapEntry) (he : es[i]? = some e) : ∃ f, e.key = .string (txt f) := by
  obtain ⟨f, h1, _⟩ := h.key i e he
  exact ⟨f, h1⟩
theorem LnOk.look {es : Array MapEntry} {seen : List Wd} (h : LnOk es seen) (f : Wd) : (Instr.findNow .string (.string (txt f)) es.toList 0 = some none ∧ seen.count f = 0) ∨ ∃ (i : Nat) (e : MapEntry), es[i]? = some e ∧ e.key = .string (txt f) ∧ Instr.findNow .string (.string (txt f)) es.toList 0 = some (some (i, .int .i64 ((seen.count f : Nat) : Int))) := by
  rcases find_arr f es h.strs with ⟨h1, h2⟩ | ⟨i, e, h1, h2, h3⟩
  · refine .inl ⟨h1, List.count_eq_zero.2 fun hm => ?_⟩
    obtain ⟨i, e, he, hk⟩ := h.has f hm
    exact h2 i e he hk
  · refine .inr ⟨i, e, h1, h2, ?_⟩
    obtain ⟨f', h4, h5⟩ := h.key i e h1
    have : f' = f := by
      rw [h2] at h4
      injection h4 with h4
      exact (txt_inj h4).symm
    rw [h3, h5, this]
theorem LnOk.push {es : Array MapEntry} {seen : List Wd} (h : LnOk es seen) (f : Wd) (hn : Instr.findNow .string (.string (txt f)) es.toList 0 = some none) (hc : seen.count f = 0) (c : Nat) : LnOk (es.push { key := .string (txt f), val := .int .i64 1, born := c }) (seen ++ [f]) := by
  have nf : ∀ (i : Nat) (e : MapEntry), es[i]? = some e → e.key ≠ .string (txt f) := by
    rcases find_arr f es h.strs with ⟨_, h2⟩ | ⟨i, e, h1, h2, h3⟩
    · exact h2
    · rw [hn] at h3; cases h3
  have at' : ∀ (i : Nat) (e : MapEntry), (es.push { key := .string (txt f), val := .int .i64 1, born := c })[i]? = some e → es[i]? = some e ∨ (i = es.size ∧ e = { key := .string (txt f), val := .int .i64 1, born := c }) := by
    intro i e he
    rw [Array.getElem?_push] at he
    split at he
    · exact .inr ⟨by assumption, (Option.some.inj he).symm⟩
    · exact .inl he
  refine ⟨fun i j a b ha hb hab => ?_, fun i e he => ?_, fun g hg => ?_⟩
  · rcases at' i a ha with ha | ⟨rfl, rfl⟩
    · rcases at' j b hb with hb | ⟨rfl, rfl⟩
      · exact h.nd i j a b ha hb hab
      · exact absurd hab (nf i a ha)
    · rcases at' j b hb with hb | ⟨rfl, rfl⟩
      · exact absurd hab.symm (nf j b hb)
      · rfl
  · rcases at' i e he with he | ⟨rfl, rfl⟩
    · obtain ⟨g, h1, h2⟩ := h.key i e he
      refine ⟨g, h1, ?_⟩
      have : ¬ f = g := fun e' => nf i e he (by rw [h1, e'])
      rw [h2, List.count_append, List.count_singleton]
      simp [this]
    · refine ⟨f, rfl, ?_⟩
      rw [List.count_append, hc, List.count_singleton]
      simp
  · rcases List.mem_append.1 hg with hg | hg
    · obtain ⟨i, e, he, hk⟩ := h.has g hg
      refine ⟨i, e, ?_, hk⟩
      have hlt := (Array.getElem?_eq_some_iff.1 he).1
      rw [Array.getElem?_push, if_neg (by omega)]; exact he
    · have : g = f := by simpa using hg
      subst this
      exact ⟨es.size, _, by rw [Array.getElem?_push, if_pos rfl], rfl⟩
theorem LnOk.turn {es : Array MapEntry} {seen : List Wd} (h : LnOk es seen) (f : Wd) {i : Nat} {e : MapEntry} (he : es[i]? = some e) (hk : e.key = .string (txt f)) : LnOk (es.modify i fun e => { e with key := .string (txt f), val := .int .i64 ((seen.count f : Nat) + 1 : Int) }) (seen ++ [f]) := by
  have at' : ∀ (j : Nat) (a : MapEntry), (es.modify i fun e => { e with key := .string (txt f), val := .int .i64 ((seen.count f : Nat) + 1 : Int) })[j]? = some a → (j ≠ i ∧ es[j]? = some a) ∨ (j = i ∧ a = { e with key := .string (txt f), val := .int .i64 ((seen.count f : Nat) + 1 : Int) }) := by
    intro j a ha
    rw [Array.getElem?_modify] at ha
    by_cases hji : i = j
    · subst hji
      rw [if_pos rfl, he] at ha
      exact .inr ⟨rfl, (Option.some.inj ha).symm⟩
    · rw [if_neg hji] at ha
      exact .inl ⟨Ne.symm hji, ha⟩
  have nf : ∀ (j : Nat) (a : MapEntry), j ≠ i → es[j]? = some a → a.key ≠ .string (txt f) := fun j a hj ha hc => hj (h.nd j i a e ha he (by rw [hc, hk]))
  refine ⟨fun j k a b ha hb hab => ?_, fun j a ha => ?_, fun g hg => ?_⟩
  · rcases at' j a ha with ⟨hj, ha2⟩ | ⟨hj, ha2⟩
    · rcases at' k b hb with ⟨hk2, hb2⟩ | ⟨hk2, hb2⟩
      · exact h.nd j k a b ha2 hb2 hab
      · exact absurd (hab.trans (by rw [hb2])) (nf j a hj ha2)
    · rcases at' k b hb with ⟨hk2, hb2⟩ | ⟨hk2, hb2⟩
      · exact absurd (hab.symm.trans (by rw [ha2])) (nf k b hk2 hb2)
      · rw [hj, hk2]
  · rcases at' j a ha with ⟨hj, ha2⟩ | ⟨rfl, rfl⟩
    · obtain ⟨g, h1, h2⟩ := h.key j a ha2
      refine ⟨g, h1, ?_⟩
      have : ¬ f = g := fun e' => nf j a hj ha2 (by rw [h1, e'])
      rw [h2, List.count_append, List.count_singleton]
      simp [this]
    · refine ⟨f, rfl, ?_⟩
      rw [List.count_append, List.count_singleton]
      simp
  · have : ∃ (j : Nat) (a : MapEntry), es[j]? = some a ∧ a.key = .string (txt g) := by
      rcases List.mem_append.1 hg with hg | hg
      · exact h.has g hg
      · have : g = f := by simpa using hg
        subst this
        exact ⟨i, e, he, hk⟩
    obtain ⟨j, a, ha, hka⟩ := this
    by_cases hji : i = j
    · subst hji
      refine ⟨i, _, by rw [Array.getElem?_modify, if_pos rfl, he]; rfl, ?_⟩
      rw [he] at ha
      cases ha
      rw [← hka, hk]
    · exact ⟨j, a, by rw [Array.getElem?_modify, if_neg hji]; exact ha, hka⟩
end Go.Proofs.YtagkgneijdbkoaaDoor
