import Derived.Test.YtpgdlmnhomnblaaGreatDoorJ1
import Derived.Test.YtpgdlmnhomnblaaGreatDoorJ3
import Derived.WalkKit
namespace Go.Proofs.YtpgdlmnhomnblaaGreatDoor
def pk (w : Nat) : List Nat → Nat
  | [] => 0
  | a :: l => a + 2 ^ w * pk w l
def dg (w : Nat) : Nat → Nat → List Nat
  | 0, _ => []
  | n + 1, V => V % 2 ^ w :: dg w n (V / 2 ^ w)
theorem pk_cons (w a : Nat) (l : List Nat) : pk w (a :: l) = a + 2 ^ w * pk w l := rfl
theorem pk_lt (w : Nat) (l : List Nat) (h : ∀ a ∈ l, a < 2 ^ w) : pk w l < 2 ^ (w * l.length) := by
  induction l with
  | nil => simp [pk]
  | cons a l ih =>
    have h1 := h a (by simp)
    have h2 := ih fun x hx => h x (by simp [hx])
    rw [pk_cons, List.length_cons, Nat.mul_succ, Nat.pow_add, Nat.mul_comm (2 ^ (w * l.length))]
    calc a + 2 ^ w * pk w l < 2 ^ w + 2 ^ w * pk w l := by omega
      _ = 2 ^ w * (pk w l + 1) := by rw [Nat.mul_add]; omega
      _ ≤ 2 ^ w * 2 ^ (w * l.length) := Nat.mul_le_mul_left _ h2
theorem dg_succ (w n V : Nat) : dg w (n + 1) V = V % 2 ^ w :: dg w n (V / 2 ^ w) := rfl
theorem dg_length (w n V : Nat) : (dg w n V).length = n := by
  induction n generalizing V with
  | zero => rfl
  | succ n ih => rw [dg_succ, List.length_cons, ih]
theorem dg_lt (w n V : Nat) : ∀ a ∈ dg w n V, a < 2 ^ w := by
  induction n generalizing V with
  | zero => intro a h; cases h
  | succ n ih =>
    intro a h
    rw [dg_succ] at h
    rcases List.mem_cons.1 h with rfl | h
    · exact Nat.mod_lt _ (Nat.two_pow_pos w)
    · exact ih _ a h
theorem dg_add (w m n V : Nat) : dg w (m + n) V = dg w m V ++ dg w n (V / 2 ^ (w * m)) := by
  induction m generalizing V with
  | zero => simp [dg]
  | succ m ih =>
    rw [Nat.succ_add, dg_succ, dg_succ, ih, List.cons_append, Nat.div_div_eq_div_mul, Nat.mul_succ, Nat.pow_add, Nat.mul_comm (2 ^ w)]
theorem dg_snoc (w n V : Nat) : dg w (n + 1) V = dg w n V ++ [V / 2 ^ (w * n) % 2 ^ w] := by
  rw [dg_add]; rfl
theorem pk_drop (w : Nat) (l : List Nat) (h : ∀ a ∈ l, a < 2 ^ w) (i : Nat) : pk w l / 2 ^ (w * i) = pk w (l.drop i) := by
  induction i generalizing l with
  | zero => simp
  | succ i ih =>
    cases l with
    | nil => simp [pk]
    | cons a l =>
      have h1 := h a (by simp)
      rw [List.drop_succ_cons, ← ih l fun x hx => h x (by simp [hx]), pk_cons, Nat.mul_succ, Nat.add_comm (w * i), Nat.pow_add, ← Nat.div_div_eq_div_mul, Nat.add_mul_div_left _ _ (Nat.two_pow_pos w), Nat.div_eq_of_lt h1, Nat.zero_add]
theorem pk_bit (w : Nat) (l : List Nat) (h : ∀ a ∈ l, a < 2 ^ w) (i k : Nat) (hi : i < l.length) (hk : k < w) : pk w l / 2 ^ (w * i + k) % 2 = l[i] / 2 ^ k % 2 := by
  rw [Nat.pow_add, ← Nat.div_div_eq_div_mul, pk_drop w l h, List.drop_eq_getElem_cons hi, pk_cons]
  obtain ⟨d, rfl⟩ : ∃ d, w = k + (d + 1) := ⟨w - k - 1, by omega⟩
  rw [Nat.pow_add, Nat.mul_assoc, Nat.add_mul_div_left _ _ (Nat.two_pow_pos k), Nat.pow_succ, Nat.mul_comm (2 ^ d) 2, Nat.mul_assoc, Nat.add_mul_mod_self_left]
theorem bit_down (V m j : Nat) : V / 2 ^ m % 2 ^ (j + 1) = 2 * (V / 2 ^ (m + 1) % 2 ^ j) + V / 2 ^ m % 2 := by
  rw [Nat.pow_succ 2 j, Nat.mul_comm (2 ^ j) 2, Nat.mod_mul, Nat.pow_succ 2 m, ← Nat.div_div_eq_div_mul]
  omega
def blen (v : Nat) : Nat := if v = 0 then 0 else v.log2 + 1
theorem blen_le (v k : Nat) : blen v ≤ k ↔ v < 2 ^ k := by
  unfold blen
  by_cases h : v = 0
  · simp [h, Nat.two_pow_pos]
  · rw [if_neg h, ← Nat.log2_lt h]; omega
theorem blen_half (v : Nat) (h : 0 < v) : blen v = blen (v / 2) + 1 := by
  have h1 : ∀ k, blen v ≤ k + 1 ↔ blen (v / 2) ≤ k := fun k => by
    rw [blen_le, blen_le, Nat.pow_succ]; omega
  have h2 := (h1 (blen (v / 2))).2 (Nat.le_refl _)
  have h3 : 0 < blen v := by
    rcases Nat.eq_zero_or_pos (blen v) with h0 | h0
    · have := (blen_le v 0).1 (by omega); simp at this; omega
    · exact h0
  have h4 := (h1 (blen v - 1)).1 (by omega)
  omega
theorem blen_or (a b : Nat) : blen (a ||| b) = max (blen a) (blen b) := by
  have h : ∀ k, blen (a ||| b) ≤ k ↔ max (blen a) (blen b) ≤ k := fun k => by
    rw [Nat.max_le, blen_le, blen_le, blen_le]
    constructor
    · intro h; exact ⟨Nat.lt_of_le_of_lt Nat.left_le_or h, Nat.lt_of_le_of_lt Nat.right_le_or h⟩
    · intro h; exact Nat.or_lt_two_pow h.1 h.2
  have h1 := (h _).1 (Nat.le_refl _)
  have h2 := (h _).2 (Nat.le_refl _)
  omega
theorem blen_lt64 (v : Nat) (h : v < 18446744073709551616) : blen v ≤ 64 := (blen_le v 64).2 (by simpa using h)
def wd : List Nat → Nat := List.foldl (fun m a => max m (blen a)) 0
def orl : List Nat → Nat := List.foldl (· ||| ·) 0
theorem wd_snoc (l : List Nat) (a : Nat) : wd (l ++ [a]) = max (wd l) (blen a) := by simp [wd]
theorem orl_snoc (l : List Nat) (a : Nat) : orl (l ++ [a]) = orl l ||| a := by simp [orl]
theorem snoc_ind {p : List Nat → Prop} (h0 : p []) (h1 : ∀ l a, p l → p (l ++ [a])) (l : List Nat) : p l := by
  have : ∀ m : List Nat, p m.reverse := fun m => by
    induction m with
    | nil => exact h0
    | cons a m ih => rw [List.reverse_cons]; exact h1 _ _ ih
  have := this l.reverse
  rwa [List.reverse_reverse] at this
theorem wd_le (l : List Nat) (k : Nat) : wd l ≤ k ↔ ∀ a ∈ l, a < 2 ^ k := by
  refine snoc_ind (p := fun l => wd l ≤ k ↔ ∀ a ∈ l, a < 2 ^ k) ?_ ?_ l
  · simp [wd]
  · intro l a ih
    rw [wd_snoc, Nat.max_le, ih, blen_le]
    simp only [List.mem_append, List.mem_singleton]
    constructor
    · rintro ⟨h1, h2⟩ x (hx | rfl)
      · exact h1 x hx
      · exact h2
    · intro h
      exact ⟨fun x hx => h x (.inl hx), h a (.inr rfl)⟩
theorem blen_orl (l : List Nat) : blen (orl l) = wd l := by
  refine snoc_ind (p := fun l => blen (orl l) = wd l) rfl ?_ l
  intro l a ih
  rw [orl_snoc, wd_snoc, blen_or, ih]
theorem orl_lt (l : List Nat) (k : Nat) (h : ∀ a ∈ l, a < 2 ^ k) : orl l < 2 ^ k := by
  rw [← blen_le, blen_orl, wd_le]; exact h
def sz (n w : Nat) : Nat := (n * w + 7) / 8
def packB (w : Nat) (l : List Nat) : List Nat := dg 8 (sz l.length w) (pk w l)
theorem packB_length (w : Nat) (l : List Nat) : (packB w l).length = sz l.length w := dg_length _ _ _
theorem packB_byte (w : Nat) (l : List Nat) : ∀ b ∈ packB w l, b < 256 := dg_lt 8 _ _
end Go.Proofs.YtpgdlmnhomnblaaGreatDoor
namespace Go.Proofs.YtpgdlmnhomnblaaGreatDoor
open Go.RowKit
set_option linter.unusedVariables false
set_option linter.unusedSimpArgs false
set_option maxRecDepth 100000
def In64 (z : Int) : Prop := -9223372036854775808 ≤ z ∧ z ≤ 9223372036854775807
def zg (z : Int) : Nat := (zigI z).toNat
theorem zg_int {z : Int} (h : In64 z) : zigI z = (zg z : Int) ∧ zg z < 18446744073709551616 := by
  have := zigI_range z h.1 h.2
  unfold zg; omega
theorem zg_zagI (v : Nat) : zg (zagI (v : Int)) = v := by unfold zg; rw [zig_zag _ (by omega)]; omega
theorem zagI_in {v : Nat} (h : v < 18446744073709551616) : In64 (zagI (v : Int)) := zagI_range _ (by omega) (by omega)
def pl (l : List Int) : List Nat := l.flatMap fun z => vb (zg z)
theorem pl_append (l m : List Int) : pl (l ++ m) = pl l ++ pl m := by simp [pl]
theorem pl_one (z : Int) : pl [z] = vb (zg z) := by simp [pl]
theorem take_snoc {α : Type} {l : List α} {k : Nat} {z : α} (h : l[k]? = some z) : l.take (k + 1) = l.take k ++ [z] := by rw [List.take_add_one, h]; rfl
theorem pl_step {l : List Int} {k : Nat} {z : Int} (h : l[k]? = some z) : pl (l.take (k + 1)) = pl (l.take k) ++ vb (zg z) := by rw [take_snoc h, pl_append, pl_one]
theorem pl_cons (z : Int) (l : List Int) : pl (z :: l) = vb (zg z) ++ pl l := by simp [pl]
theorem pl_length (l : List Int) : l.length ≤ (pl l).length ∧ (pl l).length ≤ 10 * l.length := by
  induction l with
  | nil => simp [pl]
  | cons z l ih =>
    have := vb_length (zg z)
    rw [pl_cons, List.length_append, List.length_cons]; omega
theorem pl_byte (l : List Int) (h : ∀ z ∈ l, In64 z) : ∀ b ∈ pl l, b < 256 := by
  intro b hb
  obtain ⟨z, hz, hb⟩ := List.mem_flatMap.1 hb
  exact vb_byte _ (zg_int (h z hz)).2 b hb
theorem or_one (v : Nat) : 0 < v ||| 1 ∧ (v ||| 1) / 2 = v / 2 := by
  have h : (v ||| 1).testBit 0 = true := by simp
  have h2 : (v ||| 1) / 2 = v / 2 := by
    apply Nat.eq_of_testBit_eq
    intro i
    rw [Nat.testBit_div_two, Nat.testBit_or, Nat.testBit_div_two]
    have : Nat.testBit 1 (i + 1) = false := by rw [Nat.testBit_succ]; simp
    rw [this, Bool.or_false]
  refine ⟨?_, h2⟩
  rcases Nat.eq_zero_or_pos (v ||| 1) with h0 | h0
  · rw [h0] at h; simp at h
  · exact h0
theorem blen_one (v : Nat) : blen (v ||| 1) = blen (v / 2) + 1 := by rw [blen_half _ (or_one v).1, (or_one v).2]
theorem blen7 : ∀ b : Fin 128, 64 ≤ b.val → blen b.val = 7 := by decide +kernel
theorem vb_size (v : Nat) : v < 18446744073709551616 → (vb v).length = (blen (v / 2) + 7) / 7 := by
  induction v using Nat.strongRecOn with
  | ind v ih =>
    intro hv
    by_cases h : v < 128
    · have := (blen_le (v / 2) 6).2 (by omega)
      rw [vb_small v h, List.length_singleton]; omega
    · rw [vb_big v h hv, List.length_cons, ih (v / 128) (by omega) (by omega)]
      by_cases h2 : v < 256
      · have h3 := blen7 ⟨v / 2, by omega⟩ (by simp only; omega)
        simp only at h3
        have h4 : v / 128 / 2 = 0 := by omega
        rw [h3, h4]
        rfl
      · have h3 := Go.Proofs.YtpgdlmnhomnblaaGreatDoor.blen_half
        have e : blen (v / 2) = blen (v / 128 / 2) + 7 := by
          rw [h3 (v / 2) (by omega), h3 (v / 2 / 2) (by omega), h3 (v / 2 / 2 / 2) (by omega), h3 (v / 2 / 2 / 2 / 2) (by omega), h3 (v / 2 / 2 / 2 / 2 / 2) (by omega), h3 (v / 2 / 2 / 2 / 2 / 2 / 2) (by omega), h3 (v / 2 / 2 / 2 / 2 / 2 / 2 / 2) (by omega)]
          rw [show v / 2 / 2 / 2 / 2 / 2 / 2 / 2 / 2 = v / 128 / 2 by omega]
        omega
end Go.Proofs.YtpgdlmnhomnblaaGreatDoor
namespace Go.Proofs.YtpgdlmnhomnblaaGreatDoor
open Go.RowKit
set_option linter.unusedVariables false
set_option linter.unusedSimpArgs false
abbrev Tx := List UInt8
def tlt (a b : Tx) : Prop := Op.bytesLess a b = true
instance (a b : Tx) : Decidable (tlt a b) := inferInstanceAs (Decidable (_ = true))
theorem u8_lt_irrefl (a : UInt8) : ¬ a < a := by rw [UInt8.lt_iff_toNat_lt]; omega
theorem u8_lt_trans {a b c : UInt8} (h1 : a < b) (h2 : b < c) : a < c := by rw [UInt8.lt_iff_toNat_lt] at *; omega
theorem u8_total {a b : UInt8} (h1 : ¬ a < b) (h2 : ¬ a = b) : b < a := by
  rw [UInt8.lt_iff_toNat_lt] at *
  have : a.toNat ≠ b.toNat := fun e => h2 (UInt8.toNat_inj.1 e)
  omega
theorem tlt_nil (b : Tx) : tlt [] b ↔ b ≠ [] := by
  cases b <;> simp [tlt, Op.bytesLess]
theorem not_tlt_nil (a : Tx) : ¬ tlt a [] := by
  cases a <;> simp [tlt, Op.bytesLess]
theorem tlt_cons (a b : UInt8) (x y : Tx) : tlt (a :: x) (b :: y) ↔ a < b ∨ a = b ∧ tlt x y := by
  unfold tlt
  rw [Op.bytesLess]
  simp
theorem tlt_irrefl : ∀ a : Tx, ¬ tlt a a := by
  intro a
  induction a with
  | nil => exact not_tlt_nil []
  | cons x a ih =>
    rw [tlt_cons]
    rintro (h | ⟨_, h⟩)
    · exact u8_lt_irrefl x h
    · exact ih h
theorem tlt_trans : ∀ {a b c : Tx}, tlt a b → tlt b c → tlt a c := by
  intro a
  induction a with
  | nil =>
    intro b c h1 h2
    rw [tlt_nil]
    intro e
    subst e
    exact not_tlt_nil b h2
  | cons x a ih =>
    intro b c h1 h2
    cases b with
    | nil => exact absurd h1 (not_tlt_nil _)
    | cons y b =>
      cases c with
      | nil => exact absurd h2 (not_tlt_nil _)
      | cons z c =>
        rw [tlt_cons] at *
        rcases h1 with h1 | ⟨h1, h1'⟩
        · rcases h2 with h2 | ⟨h2, h2'⟩
          · exact .inl (u8_lt_trans h1 h2)
          · subst h2; exact .inl h1
        · subst h1
          rcases h2 with h2 | ⟨h2, h2'⟩
          · exact .inl h2
          · exact .inr ⟨h2, ih h1' h2'⟩
theorem tlt_total : ∀ {a b : Tx}, ¬ tlt a b → ¬ a = b → tlt b a := by
  intro a
  induction a with
  | nil =>
    intro b h1 h2
    rw [tlt_nil] at h1
    exact absurd (Classical.not_not.1 h1).symm h2
  | cons x a ih =>
    intro b h1 h2
    cases b with
    | nil => rw [tlt_nil]; simp
    | cons y b =>
      rw [tlt_cons] at *
      by_cases hxy : x = y
      · subst hxy
        refine .inr ⟨rfl, ih (fun h => h1 (.inr ⟨rfl, h⟩)) (fun e => h2 (by rw [e]))⟩
      · exact .inl (u8_total (fun h => h1 (.inl h)) hxy)
theorem tlt_asymm {a b : Tx} (h : tlt a b) : ¬ tlt b a := fun h2 => tlt_irrefl a (tlt_trans h h2)
end Go.Proofs.YtpgdlmnhomnblaaGreatDoor
namespace Go.Proofs.YtpgdlmnhomnblaaGreatDoor
open Go.ChangeShapes Go.WideShapes Go.RowKit
set_option linter.unusedVariables false
set_option linter.unusedSimpArgs false
set_option maxRecDepth 100000
def vc (v : Int × Int × Tx) : List Value := [.int .i64 v.1, .int .i64 v.2.1, .string ⟨v.2.2.toArray⟩]
def vs (l : List (Int × Int × Tx)) : List Value := l.flatMap vc
theorem vs_append (a b : List (Int × Int × Tx)) : vs (a ++ b) = vs a ++ vs b := by simp [vs]
theorem vs_one (v : Int × Int × Tx) : vs [v] = vc v := by simp [vs]
theorem vs_cons (v : Int × Int × Tx) (l : List (Int × Int × Tx)) : vs (v :: l) = vc v ++ vs l := by simp [vs]
theorem vs_length : ∀ l : List (Int × Int × Tx), (vs l).length = l.length * 3
  | [] => rfl
  | v :: l => by rw [vs_cons, List.length_append, vs_length l]; simp [vc]; omega
theorem vc_cell (v : Int × Int × Tx) : ∀ u ∈ vc v, u.oneCell' = true := by
  intro u hu
  simp [vc] at hu
  rcases hu with rfl | rfl | rfl <;> rfl
theorem vs_at : ∀ {l : List (Int × Int × Tx)} {k : Nat} {v : Int × Int × Tx}, l[k]? = some v → (vs l)[k * 3]? = some (.int .i64 v.1) ∧ (vs l)[k * 3 + 1]? = some (.int .i64 v.2.1) ∧ (vs l)[k * 3 + 2]? = some (.string ⟨v.2.2.toArray⟩)
  | [], k, v, h => by simp at h
  | x :: l, 0, v, h => by
    simp at h
    subst h
    rw [vs_cons]
    exact ⟨rfl, rfl, rfl⟩
  | x :: l, k + 1, v, h => by
    simp at h
    obtain ⟨h1, h2, h3⟩ := vs_at h
    have e : ∀ j, (vc x ++ vs l)[3 + j]? = (vs l)[j]? := fun j => by
      rw [List.getElem?_append_right (by simp [vc])]
      congr 1
      simp [vc]
    rw [vs_cons, show (k + 1) * 3 = 3 + k * 3 by omega, show 3 + k * 3 + 1 = 3 + (k * 3 + 1) by omega, show 3 + k * 3 + 2 = 3 + (k * 3 + 2) by omega, e, e, e]
    exact ⟨h1, h2, h3⟩
theorem Reads.val {w : World} {B n : Nat} {A : Option Addr} {l : List (Int × Int × Tx)} (h : Reads w B 3 A n (vs l)) {k : Nat} {v : Int × Int × Tx} (hv : l[k]? = some v) :
    ∃ b o, A = some ⟨b, o, none⟩ ∧ b < B ∧ w.cell? ⟨b, o + k * 3, none⟩ = some (.int .i64 v.1) ∧ w.cell? ⟨b, o + k * 3 + 1, none⟩ = some (.int .i64 v.2.1) ∧ w.cell? ⟨b, o + k * 3 + 2, none⟩ = some (.string ⟨v.2.2.toArray⟩) := by
  have hk : k < l.length := (List.getElem?_eq_some_iff.1 hv).1
  have hn : 0 < n := by have := h.1; rw [vs_length] at this; omega
  obtain ⟨⟨b, o, sp⟩, rfl, hb, hc⟩ := h.2 hn
  obtain ⟨h1, h2, h3⟩ := vs_at hv
  have c1 := hc _ _ h1
  have c2 := hc _ _ h2
  have c3 := hc _ _ h3
  have hl : 0 < (vs l).length := by rw [vs_length]; omega
  obtain rfl : sp = none := by simpa [Addr.add] using World.cell?_spot (hc 0 _ (List.getElem?_eq_getElem hl))
  rw [plain_add] at c1 c2 c3
  exact ⟨b, o, rfl, hb, c1, by rw [← c2, Nat.add_assoc], by rw [← c3, Nat.add_assoc]⟩
def IsVals (w : World) (a : Option Addr) (len cap : Nat) (l : List (Int × Int × Tx)) : Prop :=
  l.length = len ∧ len ≤ cap ∧ cap ≤ maxLen ∧ Reads w w.heap.size 3 a len (vs l) ∧ ∀ v ∈ l, In64 v.1 ∧ In64 v.2.1
theorem vals_of {H : Type} {enc : TypeId × Value → H} {W : World} {a : Option Addr} {len cap : Nat} {d : DataW H} {p : List MemPlace} (h : DataW.Trod enc Tryz.prog W 0 (fun _ => true) true 49 (.slice a len cap) d p) :
    ∃ l, IsVals W a len cap l := by
  obtain ⟨fuel, hf⟩ := h
  rcases open_slice_fields Tryz.underlying49 Tryz.underlying51 (by kernel_rfl) (by kernel_rfl) hf with ⟨hcs, _⟩ | ⟨x, l, c, mm, D, Pl, hcs, _, hl, hcm, hmm, _, hi⟩
  · simp [Value.cells] at hcs
    obtain ⟨rfl, rfl, rfl⟩ := hcs
    exact ⟨[], rfl, Nat.le_refl _, Nat.zero_le _, Reads.none_, by simp⟩
  · simp [Value.cells] at hcs
    obtain ⟨rfl, rfl, rfl⟩ := hcs
    have hall : ∀ j, ∃ y : Int × Int × Tx, j < len → (In64 y.1 ∧ In64 y.2.1) ∧ ∀ i v, (vc y)[i]? = some v → W.cell? (x.add (j * 3 + i)) = some v := by
      intro j
      by_cases hj : j < len
      · obtain ⟨ys, nn, _, _, _, hfld⟩ := hi j (by rw [hmm]; simp; omega)
        obtain ⟨v0, y0, c0, _, t0⟩ := hfld 0 _ rfl
        obtain ⟨v1, y1, c1, _, t1⟩ := hfld 1 _ rfl
        obtain ⟨v2, y2, c2, _, t2⟩ := hfld 2 _ rfl
        obtain ⟨k, e0, _, wk⟩ := DataW.trod_int Tryz.underlying3 t0
        obtain ⟨n, e1, _, wn⟩ := DataW.trod_int Tryz.underlying2 t1
        obtain ⟨s, e2, _, _⟩ := DataW.trod_string Tryz.underlying9 t2
        injection e0 with e0
        injection e1 with e1
        injection e2 with e2
        subst e0 e1 e2
        have hk : In64 k := by have := i64_of wk; unfold In64; omega
        have hn : In64 n := by have := i64_of wn; unfold In64; omega
        refine ⟨⟨k, n, s.data.toList⟩, fun _ => ⟨⟨hk, hn⟩, fun i v hv => ?_⟩⟩
        unfold vc at hv
        rcases i with _ | _ | _ | i
        all_goals simp at hv
        all_goals subst hv
        · exact c0
        · exact c1
        · exact c2
      · exact ⟨(0, 0, []), fun h => absurd h hj⟩
    obtain ⟨f, hfn⟩ := Classical.axiomOfChoice hall
    have hget : ∀ j y, ((List.range len).map f)[j]? = some y → j < len ∧ y = f j := by
      intro j y hy
      have hj : j < len := by
        have := (List.getElem?_eq_some_iff.1 hy).1
        simpa using this
      rw [List.getElem?_map, List.getElem?_range hj] at hy
      injection hy with hy
      exact ⟨hj, hy.symm⟩
    refine ⟨(List.range len).map f, by simp, hl, hcm, ⟨by rw [vs_length]; simp, fun hn => ?_⟩, fun v hv => ?_⟩
    · refine ⟨x, rfl, ?_, fun j u hu => ?_⟩
      · have := World.block_lt_of_cell? W _ ((hfn 0 hn).2 0 _ rfl)
        rwa [block_of_add] at this
      · have hj : j < len * 3 := by
          have := (List.getElem?_eq_some_iff.1 hu).1
          rw [vs_length] at this
          simpa using this
        have hy : ((List.range len).map f)[j / 3]? = some (f (j / 3)) := by rw [List.getElem?_map, List.getElem?_range (by omega)]; rfl
        obtain ⟨h1, h2, h3⟩ := vs_at hy
        have hc := (hfn (j / 3) (by omega)).2
        obtain ⟨q, hq⟩ : ∃ q, j / 3 = q := ⟨_, rfl⟩
        rw [hq] at h1 h2 h3 hc
        have hr : j = q * 3 ∨ j = q * 3 + 1 ∨ j = q * 3 + 2 := by omega
        rcases hr with rfl | rfl | rfl
        · rw [h1] at hu; exact hc 0 _ (by rw [← hu]; rfl)
        · rw [h2] at hu; exact hc 1 _ (by rw [← hu]; rfl)
        · rw [h3] at hu; exact hc 2 _ (by rw [← hu]; rfl)
    · obtain ⟨j, hj, rfl⟩ := List.mem_map.1 hv
      exact (hfn j (List.mem_range.1 hj)).1
end Go.Proofs.YtpgdlmnhomnblaaGreatDoor
namespace Go.Proofs.YtpgdlmnhomnblaaGreatDoor
set_option linter.unusedVariables false
set_option linter.unusedSimpArgs false
def siz (n : Nat) : Nat := (n + 7) / 8
def bit (l : List Nat) (k : Nat) : Bool := (l.getD (k / 8) 0).testBit (k % 8)
structure OkS (n : Nat) (l : List Nat) : Prop where
  len : l.length = siz n
  byte : ∀ x ∈ l, x < 256
  left : ∀ k, bit l k = true → k < n
def cnt (f : Nat → Bool) : Nat → Nat
  | 0 => 0
  | n + 1 => cnt f n + (if f n then 1 else 0)
def sel (f : Nat → Bool) : Nat → List Nat
  | 0 => []
  | n + 1 => sel f n ++ (if f n then [n] else [])
theorem cnt_le (f : Nat → Bool) (n : Nat) : cnt f n ≤ n := by
  induction n with
  | zero => exact Nat.le_refl _
  | succ n ih => unfold cnt; split <;> omega
theorem cnt_add (f : Nat → Bool) (a b : Nat) : cnt f (a + b) = cnt f a + cnt (fun k => f (a + k)) b := by
  induction b with
  | zero => rfl
  | succ b ih =>
    show cnt f (a + b) + (if f (a + b) then 1 else 0) = cnt f a + (cnt (fun k => f (a + k)) b + (if f (a + b) then 1 else 0))
    omega
theorem cnt_congr {f g : Nat → Bool} (n : Nat) (h : ∀ k, k < n → f k = g k) : cnt f n = cnt g n := by
  induction n with
  | zero => rfl
  | succ n ih => unfold cnt; rw [ih (fun k hk => h k (by omega)), h n (by omega)]
theorem cnt_over {f : Nat → Bool} {n : Nat} (h : ∀ k, f k = true → k < n) (m : Nat) (hm : n ≤ m) : cnt f m = cnt f n := by
  obtain ⟨d, rfl⟩ := Nat.exists_eq_add_of_le hm
  rw [cnt_add]
  have : ∀ d, cnt (fun k => f (n + k)) d = 0 := by
    intro d
    induction d with
    | zero => rfl
    | succ d ih =>
      unfold cnt
      rw [ih]
      cases hf : f (n + d) with
      | false => rfl
      | true => have := h _ hf; omega
  rw [this]; rfl
theorem sel_lt (f : Nat → Bool) (n : Nat) : ∀ x ∈ sel f n, x < n := by
  induction n with
  | zero => intro x hx; cases hx
  | succ n ih =>
    intro x hx
    unfold sel at hx
    rcases List.mem_append.1 hx with h | h
    · have := ih x h; omega
    · split at h
      · simp at h; omega
      · cases h
def pc (x : Nat) : Nat := cnt x.testBit 8
def bts (x : Nat) : List Nat := sel x.testBit 8
theorem pc_le (x : Nat) : pc x ≤ 8 := cnt_le _ _
theorem bit_at (l : List Nat) (k j : Nat) (hj : j < 8) : bit l (8 * k + j) = (l.getD k 0).testBit j := by
  unfold bit
  rw [show (8 * k + j) / 8 = k by omega, show (8 * k + j) % 8 = j by omega]
theorem rank_step (l : List Nat) (k : Nat) : cnt (bit l) (8 * (k + 1)) = cnt (bit l) (8 * k) + pc (l.getD k 0) := by
  rw [Nat.mul_add, Nat.mul_one, cnt_add]
  congr 1
  exact cnt_congr 8 (fun j hj => bit_at l k j hj)
theorem pc_shift_fin : ∀ x : Fin 256, ∀ r : Fin 8, 0 < r.val → pc (x.val * 2 ^ (8 - r.val) % 256) = cnt x.val.testBit r.val := by decide +kernel
theorem rank_rest (l : List Nat) (i : Nat) (hx : l.getD (i / 8) 0 < 256) (hr : 0 < i % 8) : cnt (bit l) i = cnt (bit l) (8 * (i / 8)) + pc (l.getD (i / 8) 0 * 2 ^ (8 - i % 8) % 256) := by
  have h := pc_shift_fin ⟨_, hx⟩ ⟨i % 8, by omega⟩ hr
  simp only at h
  rw [h]
  conv => lhs; rw [show i = 8 * (i / 8) + i % 8 by omega]
  rw [cnt_add]
  congr 1
  exact cnt_congr _ (fun j hj => bit_at l _ j (by omega))
def tz (x : Nat) : Nat := (bts x).headD 8
def mark (l : List Nat) (i : Nat) : List Nat := l.set (i / 8) (l.getD (i / 8) 0 ||| 2 ^ (i % 8))
theorem mark_length (l : List Nat) (i : Nat) : (mark l i).length = l.length := by simp [mark]
theorem getD_set (l : List Nat) (i j v : Nat) (hi : i < l.length) : (l.set i v).getD j 0 = if i = j then v else l.getD j 0 := by
  simp only [List.getD_eq_getElem?_getD, List.getElem?_set]
  split
  · simp [hi]
  · rfl
theorem bit_mark (l : List Nat) (i k : Nat) (hi : i / 8 < l.length) : bit (mark l i) k = (decide (k = i) || bit l k) := by
  unfold bit mark
  rw [getD_set _ _ _ _ hi]
  by_cases h : i / 8 = k / 8
  · rw [if_pos h, h, Nat.testBit_or, Nat.testBit_two_pow]
    by_cases h2 : i % 8 = k % 8
    · have : k = i := by omega
      simp [this]
    · have : k ≠ i := by omega
      simp [this, h2]
  · rw [if_neg h]
    have : k ≠ i := by omega
    simp [this]
theorem getD_byte {l : List Nat} (h : ∀ x ∈ l, x < 256) (k : Nat) : l.getD k 0 < 256 := by
  rw [List.getD_eq_getElem?_getD]
  cases hk : l[k]? with
  | none => simp
  | some x => simpa using h x (List.mem_of_getElem? hk)
theorem siz_lt {n i : Nat} (h : i < n) : i / 8 < siz n := by unfold siz; omega
theorem OkS.mark {n : Nat} {l : List Nat} (h : OkS n l) {i : Nat} (hi : i < n) : OkS n (mark l i) where
  len := by rw [mark_length, h.len]
  byte x hx := by
    rcases List.mem_or_eq_of_mem_set hx with h1 | h1
    · exact h.byte x h1
    · rw [h1]
      exact Nat.or_lt_two_pow (n := 8) (getD_byte h.byte _) (show 2 ^ (i % 8) < 2 ^ 8 from Nat.pow_lt_pow_right (by omega) (by omega))
  left k hk := by
    rw [bit_mark l i k (by rw [h.len]; exact siz_lt hi)] at hk
    simp at hk
    rcases hk with rfl | hk
    · exact hi
    · exact h.left k hk
theorem bit_zeros (n k : Nat) : bit (List.replicate n 0) k = false := by
  unfold bit
  have : (List.replicate n 0).getD (k / 8) 0 = 0 := by
    rw [List.getD_eq_getElem?_getD, List.getElem?_replicate]
    split <;> rfl
  rw [this, Nat.zero_testBit]
theorem OkS.new (n : Nat) : OkS n (List.replicate (siz n) 0) where
  len := by simp
  byte x hx := by have := List.eq_of_mem_replicate hx; omega
  left k hk := by rw [bit_zeros] at hk; cases hk
theorem byte_ext {x y : Nat} (hx : x < 256) (hy : y < 256) (h : ∀ j, j < 8 → x.testBit j = y.testBit j) : x = y := by
  apply Nat.eq_of_testBit_eq
  intro i
  by_cases hi : i < 8
  · exact h i hi
  · have h2 : 2 ^ 8 ≤ 2 ^ i := Nat.pow_le_pow_right (by omega) (by omega)
    rw [Nat.testBit_lt_two_pow (by omega), Nat.testBit_lt_two_pow (by omega)]
theorem bytes_ext {l l' : List Nat} (hl : l.length = l'.length) (h1 : ∀ x ∈ l, x < 256) (h2 : ∀ x ∈ l', x < 256) (h : ∀ k, k < 8 * l.length → bit l k = bit l' k) : l = l' := by
  apply List.ext_getElem hl
  intro i hi hi'
  have e : ∀ (m : List Nat) (hm : i < m.length), m.getD i 0 = m[i] := fun m hm => by simp [List.getD_eq_getElem?_getD, hm]
  refine byte_ext (h1 _ (List.getElem_mem hi)) (h2 _ (List.getElem_mem hi')) (fun j hj => ?_)
  have := h (8 * i + j) (by omega)
  rwa [bit_at l i j hj, bit_at l' i j hj, e l hi, e l' hi'] at this
theorem OkS.ext {n : Nat} {l l' : List Nat} (h : OkS n l) (h' : OkS n l') (hb : ∀ k, k < n → bit l k = bit l' k) : l = l' := by
  refine bytes_ext (by rw [h.len, h'.len]) h.byte h'.byte (fun k _ => ?_)
  by_cases hk : k < n
  · exact hb k hk
  · cases e : bit l k with
    | true => exact absurd (h.left k e) hk
    | false =>
      cases e' : bit l' k with
      | true => exact absurd (h'.left k e') hk
      | false => rfl
end Go.Proofs.YtpgdlmnhomnblaaGreatDoor
namespace Go.Proofs.YtpgdlmnhomnblaaGreatDoor
set_option linter.unusedVariables false
set_option linter.unusedSimpArgs false
def setB (f : Nat → Bool) (n : Nat) : List Nat := (sel f n).foldl mark (List.replicate (siz n) 0)
theorem marks_ok {n : Nat} : ∀ (ps : List Nat) (l : List Nat), OkS n l → (∀ p ∈ ps, p < n) → OkS n (ps.foldl mark l) ∧ ∀ k, bit (ps.foldl mark l) k = (decide (k ∈ ps) || bit l k) := by
  intro ps
  induction ps with
  | nil => intro l h _; exact ⟨h, fun k => by simp⟩
  | cons p ps ih =>
    intro l h hp
    have hpn : p < n := hp p (by simp)
    obtain ⟨h1, h2⟩ := ih (mark l p) (h.mark hpn) (fun q hq => hp q (by simp [hq]))
    refine ⟨h1, fun k => ?_⟩
    rw [List.foldl_cons, h2, bit_mark _ _ _ (by rw [h.len]; exact siz_lt hpn)]
    by_cases e1 : k ∈ ps <;> by_cases e2 : k = p <;> simp [e1, e2]
theorem sel_mem (f : Nat → Bool) (n k : Nat) : k ∈ sel f n ↔ k < n ∧ f k = true := by
  induction n with
  | zero => simp [sel]
  | succ n ih =>
    rw [sel, List.mem_append, ih]
    constructor
    · rintro (⟨h1, h2⟩ | h)
      · exact ⟨by omega, h2⟩
      · cases e : f n with
        | true => rw [e] at h; simp at h; subst h; exact ⟨by omega, e⟩
        | false => rw [e] at h; simp at h
    · rintro ⟨h1, h2⟩
      by_cases e : k = n
      · subst e; right; simp [h2]
      · left; exact ⟨by omega, h2⟩
theorem setB_ok (f : Nat → Bool) (n : Nat) : OkS n (setB f n) ∧ ∀ k, k < n → bit (setB f n) k = f k := by
  obtain ⟨h1, h2⟩ := marks_ok (sel f n) _ (OkS.new n) (sel_lt f n)
  refine ⟨h1, fun k hk => ?_⟩
  rw [setB, h2, bit_zeros, Bool.or_false]
  cases e : f k with
  | true => simp [sel_mem, hk, e]
  | false => simp [sel_mem, e]
theorem setB_length (f : Nat → Bool) (n : Nat) : (setB f n).length = siz n := (setB_ok f n).1.len
end Go.Proofs.YtpgdlmnhomnblaaGreatDoor
