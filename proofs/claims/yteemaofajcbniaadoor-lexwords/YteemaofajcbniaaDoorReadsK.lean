/-
  Plain facts on texts of digits, as they are gone through byte by byte. No function of a program is named here. No conditions but those that each says.
-/
import Derived.Test.YteemaofajcbniaaDoorProg
import Derived.Test.YteemaofajcbniaaDoorReadFacts
import Derived.WalkKit
import Derived.ProofKit
import Derived.OpenShut
import Derived.WalkSpells
import Derived.WalkLawsBesides
import Derived.Lib.Strings
import Derived.Lib.IndexBytes
namespace Go.Proofs.YteemaofajcbniaaDoor
open Go.RowKit
set_option linter.unusedVariables false

theorem ret_b' {x y : Bool} (h : y = x) : Ending.returned (.bool x) = .returned (.bool y) := by rw [h]
theorem byte_get (s : ByteArray) (k : Nat) (h : k < s.size) : s.data.toList[k]? = some s[k] := by
  rw [List.getElem?_eq_getElem (by simpa using h)]; rfl
theorem btake_snoc (s : ByteArray) (k : Nat) (h : k < s.size) : s.data.toList.take (k + 1) = s.data.toList.take k ++ [s[k]] := by
  rw [List.take_succ_eq_append_getElem (by simpa using h)]; rfl
theorem bytes_cons (s : ByteArray) (h : 0 < s.size) : s.data.toList = s[0] :: s.data.toList.drop 1 := by
  have := btake_snoc s 0 h
  have h2 := List.take_append_drop 1 s.data.toList
  rw [show (1 : Nat) = 0 + 1 from rfl, this] at h2
  simpa using h2.symm
theorem all_take (s : ByteArray) (k : Nat) (h : k < s.size) : (s.data.toList.take (k + 1)).all isd = ((s.data.toList.take k).all isd && isd s[k]) := by
  rw [btake_snoc s k h]; simp
theorem all_not (s : ByteArray) (k : Nat) (h : k < s.size) (hc : isd s[k] = false) : s.data.toList.all isd = false := by
  rw [List.all_eq_false]
  exact ⟨s[k], List.mem_of_getElem? (byte_get s k h), by simp [hc]⟩
theorem isd_low {c : UInt8} (h : (c.toNat : Int) < 48) : isd c = false := by unfold isd; simp; omega
theorem isd_high {c : UInt8} (h : (57 : Int) < (c.toNat : Int)) : isd c = false := by unfold isd; simp; omega
theorem isd_mid {c : UInt8} (h : (48 : Int) ≤ (c.toNat : Int)) (h2 : (c.toNat : Int) ≤ 57) : isd c = true := by unfold isd; simp; omega

theorem empty_yes {s : ByteArray} (h : s.size = 0) : s.toList = [] := by
  rw [ByteArray.toList_eq]; exact List.length_eq_zero_iff.1 (by simpa using h)
theorem empty_no {s : ByteArray} (h : 0 < s.size) : s.toList.isEmpty = false := by
  rw [ByteArray.toList_eq]
  cases e : s.data.toList with
  | nil => have : s.data.toList.length = s.size := by simp
           rw [e] at this; simp at this; omega
  | cons c t => rfl

def allB (l : List UInt8) : Bool := l.all isd

theorem plainB_loop {s : ByteArray} (h0 : 0 < s.size) (hd : ¬((s[0].toNat : Int) = 48 ∧ (1 : Int) < (s.size : Int))) : plainB s.data.toList = allB s.data.toList := by
  have hl : s.data.toList.length = s.size := by simp
  unfold plainB allB
  rw [hl]
  have e := bytes_cons s h0
  have h1 : s.data.toList.isEmpty = false := by rw [e]; rfl
  have h2 : s.data.toList.headD 0 = s[0] := by rw [e]; rfl
  rw [h1, h2]
  by_cases hc : s[0] = 48
  · have : (s[0].toNat : Int) = 48 := by rw [hc]; rfl
    have : ¬ 1 < s.size := by omega
    simp [this]
  · simp [hc]
theorem plainB_none {s : ByteArray} (h0 : s.size = 0) : plainB s.data.toList = false := by
  have : s.data.toList = [] := List.length_eq_zero_iff.1 (by simpa using h0)
  rw [this]; rfl
theorem plainB_zero {s : ByteArray} (h0 : 0 < s.size) (hc : (s[0].toNat : Int) = 48) (h1 : (1 : Int) < (s.size : Int)) : plainB s.data.toList = false := by
  have hl : s.data.toList.length = s.size := by simp
  unfold plainB
  rw [hl]
  have e := bytes_cons s h0
  have h2 : s.data.toList.headD 0 = s[0] := by rw [e]; rfl
  have h3 : s[0] = 48 := UInt8.toNat_inj.1 (by show s[0].toNat = 48; omega)
  rw [h2, h3]
  have : 1 < s.size := by omega
  simp [this]

theorem val_next (s : ByteArray) (k : Nat) (h : k < s.size) : val (s.data.toList.take (k + 1)) = 10 * val (s.data.toList.take k) + (s[k].toNat - 48) := by
  rw [btake_snoc s k h, val_snoc]
theorem all_get (s : ByteArray) (h : allB s.data.toList = true) (k : Nat) (hk : k < s.size) : 48 ≤ s[k].toNat ∧ s[k].toNat ≤ 57 := by
  unfold allB at h
  exact (isd_iff _).1 (List.all_eq_true.1 h _ (List.mem_of_getElem? (byte_get s k hk)))
theorem ltz_over {s : ByteArray} {k : Nat} (h : 9223372036854775808 < (val (s.data.toList.take k) : Int)) : fitV (-(val s.data.toList : Int)) = 0 ∧ fitB (-(val s.data.toList : Int)) = false := by
  have := val_take_le s.data.toList k
  exact ⟨(fit_no (by omega)).2, (fit_no (by omega)).1⟩

theorem plain_all {l : List UInt8} (h : plainB l = true) : allB l = true := by
  unfold plainB at h; unfold allB
  simp only [Bool.and_eq_true] at h
  exact h.2
theorem beq_list (t : ByteArray) : (t.toList == [48]) = (t.data.toList == [48]) := by rw [ByteArray.toList_eq]

theorem head_is (s : ByteArray) (h0 : 0 < s.size) : s.data.toList.head? = some s[0] := by rw [bytes_cons s h0]; rfl
theorem head_none (s : ByteArray) (h0 : ¬ 0 < s.size) : s.data.toList.head? = none := by
  have hl : s.data.toList.length = s.size := by simp
  have : s.data.toList = [] := List.length_eq_zero_iff.1 (by omega)
  rw [this]; rfl
theorem eq45 {c : UInt8} : ((c.toNat : Int) == 45) = true ↔ c = 45 := by
  constructor
  · intro h
    have : (c.toNat : Int) = 45 := by simpa using h
    exact UInt8.toNat_inj.1 (by show c.toNat = 45; omega)
  · intro h; subst h; rfl
end Go.Proofs.YteemaofajcbniaaDoor
