/-
  What the document's own Of returns, of any name (layer 5). Conditions: the bytes lie in memory that was there before, at most 300.
-/
import Derived.Test.YtoocppfdcalmfaaSumRefB
namespace Go.Proofs.Ytoocppfdcalmfaa
open Go.RowKit
set_option linter.unusedVariables false

theorem kind_ok : kindB 8 7 0 0 = true ∧ kindB 16 32773 0 0 = true ∧ kindB 16 4129 65535 0 = true ∧ kindB 32 79764919 4294967295 4294967295 = true := ⟨by kernel_rfl, by kernel_rfl, by kernel_rfl, by kernel_rfl⟩
theorem sumV_below {W : Int} {p f : Nat} {t : Bool} {z : Nat} {bs : List Nat} (hk : kindB W p f z = true) : sumV W p f t z bs < 2 ^ W.toNat := by
  have hw := kind_width hk
  have hz : z < 2 ^ W.toNat := by
    unfold kindB at hk
    simp only [Bool.and_eq_true, decide_eq_true_eq] at hk
    exact hk.2.2.2
  rw [sumV_yes hk]
  exact sumL_lt (by omega) hz
theorem sumV_u32 {W : Int} {p f : Nat} {t : Bool} {z : Nat} {bs : List Nat} (hk : kindB W p f z = true) : sumV W p f t z bs < 4294967296 := by
  have hw := kind_width hk
  have h1 := sumV_below (t := t) (bs := bs) hk
  have h2 : 2 ^ W.toNat ≤ 2 ^ 32 := Nat.pow_le_pow_right (by omega) (by omega)
  omega
theorem rsumAtK {w : World} {W : Int} {p f : Nat} {t : Bool} {z : Nat} {v : Value} {bs : List Nat} (hp : p < 4294967296) (hf : f < 4294967296) (hz : z < 4294967296) (hv : BytesAt w v bs) (hl : (bs.length : Int) ≤ 300) (hb : AllBytes bs) (hk : kindB W p f z = true) : RSumAtK w (kv W p f t z) v (sumV W p f t z bs) := by
  intro x hx
  have hw := kind_width hk
  have e : ((W.toNat : Nat) : Int) = W := by omega
  have k := rsum_any W.toNat p f t z v bs x (by omega) hp hf hz hb (by omega) (hv.below hx)
  rw [e, ← sumV_yes hk] at k
  exact k
theorem rof_yes {k : Nat} (hk : k < 9) (v : Value) (bs : List Nat) (w : World) (hv : BytesAt w v bs) (hl : (bs.length : Int) ≤ 300) (hb : AllBytes bs) :
    Calls Try.prog 10 #[.string (nameN k), v] w fun e w' => ∃ x, e = .returned (.tuple #[x, .bool true]) ∧ BytesAt w' x (endK k bs) ∧ Below w.heap.size w w' := by
  have c8 := rsumAtK (W := 8) (p := 7) (f := 0) (t := false) (z := 0) (by omega) (by omega) (by omega) hv hl hb kind_ok.1
  have c16 := rsumAtK (W := 16) (p := 32773) (f := 0) (t := true) (z := 0) (by omega) (by omega) (by omega) hv hl hb kind_ok.2.1
  have cC := rsumAtK (W := 16) (p := 4129) (f := 65535) (t := false) (z := 0) (by omega) (by omega) (by omega) hv hl hb kind_ok.2.2.1
  have c32 := rsumAtK (W := 32) (p := 79764919) (f := 4294967295) (t := true) (z := 4294967295) (by omega) (by omega) (by omega) hv hl hb kind_ok.2.2.2
  have l8 := sumV_u32 (t := false) (bs := bs) kind_ok.1
  have l16 := sumV_u32 (t := true) (bs := bs) kind_ok.2.1
  have lC := sumV_u32 (t := false) (bs := bs) kind_ok.2.2.1
  have l32 := sumV_u32 (t := true) (bs := bs) kind_ok.2.2.2
  rcases hv with ⟨rfl, rfl⟩ | ⟨g, o, cap, rfl, h1, h2⟩
  · match k, hk with
    | 0, _ => exact rof0_nil w
    | 1, _ => exact rof1_nil w
    | 2, _ => exact rof2_nil w
    | 3, _ => exact rof3_nil w
    | 4, _ => exact rof4_nil w
    | 5, _ => exact rof5_nil w _ l8 rfl c8
    | 6, _ => exact rof6_nil w _ l16 rfl c16
    | 7, _ => exact rof7_nil w _ lC rfl cC
    | 8, _ => exact rof8_nil w _ l32 rfl c32
  · match k, hk with
    | 0, _ => exact rof0_row w g o cap bs hl hb h1 h2
    | 1, _ => exact rof1_row w g o cap bs hl hb h1 h2
    | 2, _ => exact rof2_row w g o cap bs hl hb h1 h2
    | 3, _ => exact rof3_row w g o cap bs hl hb h1 h2
    | 4, _ => exact rof4_row w g o cap bs hl hb h1 h2
    | 5, _ => exact rof5_row w g o cap bs hl hb h1 h2 _ l8 rfl c8
    | 6, _ => exact rof6_row w g o cap bs hl hb h1 h2 _ l16 rfl c16
    | 7, _ => exact rof7_row w g o cap bs hl hb h1 h2 _ lC rfl cC
    | 8, _ => exact rof8_row w g o cap bs hl hb h1 h2 _ l32 rfl c32
theorem rof_no (s : ByteArray) (v : Value) (bs : List Nat) (w : World) (hv : BytesAt w v bs) (hl : (bs.length : Int) ≤ 300) (hb : AllBytes bs) (n : ¬ s = e0 ∧ ¬ s = e1 ∧ ¬ s = e2 ∧ ¬ s = e3 ∧ ¬ s = e4 ∧ ¬ s = e5 ∧ ¬ s = e6 ∧ ¬ s = e7 ∧ ¬ s = e8) :
    Calls Try.prog 10 #[.string s, v] w fun e w' => e = .returned (.tuple #[.slice none 0 0, .bool false]) ∧ Below w.heap.size w w' := by
  obtain ⟨n0, n1, n2, n3, n4, n5, n6, n7, n8⟩ := n
  rcases hv with ⟨rfl, rfl⟩ | ⟨g, o, cap, rfl, h1, h2⟩
  · exact rof9_nil w s (not_e0 n0) (not_e1 n1) (not_e2 n2) (not_e3 n3) (not_e4 n4) (not_e5 n5) (not_e6 n6) (not_e7 n7) (not_e8 n8)
  · exact rof9_row w s (not_e0 n0) (not_e1 n1) (not_e2 n2) (not_e3 n3) (not_e4 n4) (not_e5 n5) (not_e6 n6) (not_e7 n7) (not_e8 n8) g o cap bs hl hb h1 h2

/-! what holds -/
theorem tot_from (bs : List Nat) : ∀ a, bs.foldl (fun a c => a + c) a = a + totN bs := by
  unfold totN
  induction bs with
  | nil => intro a; simp
  | cons c bs ih => intro a; simp only [List.foldl_cons]; rw [ih, ih (0 + c)]; omega
theorem tot_mid (pre post : List Nat) (c : Nat) : totN (pre ++ c :: post) = totN pre + c + totN post := by
  have h : totN (pre ++ c :: post) = (c :: post).foldl (fun a c => a + c) (totN pre) := by unfold totN; rw [List.foldl_append]
  rw [h, List.foldl_cons, tot_from]
theorem mix_from (bs : List Nat) : ∀ a, bs.foldl (fun a c => a ^^^ c) a = a ^^^ mixB bs := by
  unfold mixB
  induction bs with
  | nil => intro a; simp
  | cons c bs ih => intro a; simp only [List.foldl_cons]; rw [ih, ih (0 ^^^ c), Nat.zero_xor, Nat.xor_assoc]
theorem mix_mid (pre post : List Nat) (c : Nat) : mixB (pre ++ c :: post) = mixB pre ^^^ c ^^^ mixB post := by
  have h : mixB (pre ++ c :: post) = (c :: post).foldl (fun a c => a ^^^ c) (mixB pre) := by unfold mixB; rw [List.foldl_append]
  rw [h, List.foldl_cons, mix_from]
theorem sec_from (bs : List Nat) : ∀ a b, (bs.foldl (fun a c => (a.1 + c, a.2 + (a.1 + c))) (a, b) : Nat × Nat) = (a + totN bs, b + a * bs.length + (secN bs).2) := by
  induction bs with
  | nil => intro a b; simp [totN, secN]
  | cons c bs ih =>
    intro a b
    have h0 : secN (c :: bs) = bs.foldl (fun a c => (a.1 + c, a.2 + (a.1 + c))) (0 + c, 0 + (0 + c)) := rfl
    have ht : totN (c :: bs) = c + totN bs := by
      have : totN (c :: bs) = bs.foldl (fun a c => a + c) (0 + c) := rfl
      rw [this, tot_from]; omega
    simp only [List.foldl_cons]
    rw [ih, h0, ih, ht, List.length_cons]
    refine Prod.ext ?_ ?_
    · simp only; omega
    · simp only; grind
theorem sec_mid (pre post : List Nat) (c : Nat) : (secN (pre ++ c :: post)).2 = (secN pre).2 + totN pre + c + (totN pre + c) * post.length + (secN post).2 := by
  have h : secN (pre ++ c :: post) = (c :: post).foldl (fun a c => (a.1 + c, a.2 + (a.1 + c))) (secN pre) := by unfold secN; rw [List.foldl_append]
  have h1 := secN_one pre
  rw [h, List.foldl_cons, sec_from, h1]
  simp only
  omega
/-- the sum of bytes, and the lrc behind them -/
theorem end_zero (bs : List Nat) : endK 1 (bs ++ endK 2 bs) = [0] ∧ endK 3 (bs ++ endK 3 bs) = [0] := by
  refine ⟨?_, ?_⟩
  · show [totN (bs ++ [(256 - totN bs % 256) % 256]) % 256] = [0]
    rw [totN_snoc]
    congr 1
    omega
  · show [mixB (bs ++ [mixB bs])] = [0]
    rw [mixB_snoc, Nat.xor_self]
/-- when a changed byte makes no difference -/
def sameK (k c d : Nat) : Bool := decide (c = d ∨ k = 0 ∨ (k = 4 ∧ ((c = 0 ∧ d = 255) ∨ (c = 255 ∧ d = 0))))
theorem xor_swap {x a b y : Nat} (h : x ^^^ a ^^^ y = x ^^^ b ^^^ y) : a = b := by
  have h1 : x ^^^ a = x ^^^ b := xor_cancel h
  rw [Nat.xor_comm x a, Nat.xor_comm x b] at h1
  exact xor_cancel h1
theorem big_one {W : Int} {p f : Nat} {t : Bool} {z n : Nat} {pre post : List Nat} {c d : Nat} (hk : kindB W p f z = true) (hp : p % 2 = 1) (hn : 2 ^ W.toNat ≤ 256 ^ n) (hc : c < 256) (hd : d < 256) : (bigL (sumV W p f t z (pre ++ d :: post)) n = bigL (sumV W p f t z (pre ++ c :: post)) n) ↔ c = d := by
  refine ⟨fun e => ?_, fun e => by rw [e]⟩
  have h1 := sumV_below (t := t) (bs := pre ++ d :: post) hk
  have h2 := sumV_below (t := t) (bs := pre ++ c :: post) hk
  have e1 := bigL_inj n (by omega) (by omega) e
  rw [sumV_yes hk, sumV_yes hk] at e1
  have hw := kind_width hk
  exact (sum_one (by omega) hp hd hc e1).symm
theorem end_one {k : Nat} (hk : k < 9) (pre post : List Nat) (c d : Nat) (hc : c < 256) (hd : d < 256) : (endK k (pre ++ d :: post) = endK k (pre ++ c :: post)) ↔ sameK k c d = true := by
  have sm : sameK k c d = true ↔ (c = d ∨ k = 0 ∨ (k = 4 ∧ ((c = 0 ∧ d = 255) ∨ (c = 255 ∧ d = 0)))) := by unfold sameK; rw [decide_eq_true_iff]
  rw [sm]
  match k, hk with
  | 0, _ => exact ⟨fun _ => .inr (.inl rfl), fun _ => rfl⟩
  | 1, _ =>
    show [totN (pre ++ d :: post) % 256] = [totN (pre ++ c :: post) % 256] ↔ _
    rw [tot_mid, tot_mid]
    constructor
    · intro e
      have e' : (totN pre + d + totN post) % 256 = (totN pre + c + totN post) % 256 := by simpa using e
      omega
    · intro e
      have : c = d := by omega
      rw [this]
  | 2, _ =>
    show [(256 - totN (pre ++ d :: post) % 256) % 256] = [(256 - totN (pre ++ c :: post) % 256) % 256] ↔ _
    rw [tot_mid, tot_mid]
    constructor
    · intro e
      have e' : (256 - (totN pre + d + totN post) % 256) % 256 = (256 - (totN pre + c + totN post) % 256) % 256 := by simpa using e
      omega
    · intro e
      have : c = d := by omega
      rw [this]
  | 3, _ =>
    show [mixB (pre ++ d :: post)] = [mixB (pre ++ c :: post)] ↔ _
    rw [mix_mid, mix_mid]
    constructor
    · intro e
      have e' : mixB pre ^^^ d ^^^ mixB post = mixB pre ^^^ c ^^^ mixB post := by simpa using e
      exact .inl (xor_swap e').symm
    · intro e
      have : c = d := by omega
      rw [this]
  | 4, _ =>
    show [(secN (pre ++ d :: post)).2 % 255, totN (pre ++ d :: post) % 255] = [(secN (pre ++ c :: post)).2 % 255, totN (pre ++ c :: post) % 255] ↔ _
    rw [tot_mid, tot_mid, sec_mid, sec_mid]
    generalize (secN pre).2 = A
    generalize (secN post).2 = B
    generalize totN pre = P
    generalize totN post = Q
    generalize post.length = n
    constructor
    · intro e
      have e' : (P + d + Q) % 255 = (P + c + Q) % 255 := by
        have := (List.cons.inj e).2
        simpa using this
      omega
    · intro e
      have key : ∀ x y : Nat, (x = 0 ∧ y = 255) → (A + P + y + (P + y) * n + B) % 255 = (A + P + x + (P + x) * n + B) % 255 ∧ (P + y + Q) % 255 = (P + x + Q) % 255 := by
        rintro x y ⟨rfl, rfl⟩
        refine ⟨?_, by omega⟩
        have : A + P + 255 + (P + 255) * n + B = A + P + 0 + (P + 0) * n + B + 255 * (1 + n) := by grind
        rw [this, Nat.add_mul_mod_self_left]
      rcases e with e | e | ⟨_, e | e⟩
      · rw [e]
      · omega
      · obtain ⟨k1, k2⟩ := key c d e
        rw [k1, k2]
      · obtain ⟨k1, k2⟩ := key d c ⟨e.2, e.1⟩
        rw [k1, k2]
  | 5, _ => exact (big_one (n := 1) kind_ok.1 (by decide) (by decide) hc hd).trans ⟨fun h => .inl h, fun h => by omega⟩
  | 6, _ => exact (big_one (n := 2) kind_ok.2.1 (by decide) (by decide) hc hd).trans ⟨fun h => .inl h, fun h => by omega⟩
  | 7, _ => exact (big_one (n := 2) kind_ok.2.2.1 (by decide) (by decide) hc hd).trans ⟨fun h => .inl h, fun h => by omega⟩
  | 8, _ => exact (big_one (n := 4) kind_ok.2.2.2 (by decide) (by decide) hc hd).trans ⟨fun h => .inl h, fun h => by omega⟩
end Go.Proofs.Ytoocppfdcalmfaa
