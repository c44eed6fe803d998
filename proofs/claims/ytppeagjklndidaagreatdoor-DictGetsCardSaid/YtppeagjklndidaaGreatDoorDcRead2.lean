/- Plain facts on reading the form by a list: the whole of it, its first error, the numbers. -/
import Derived.Test.YtppeagjklndidaaGreatDoorDcRead
namespace Go.Proofs.YtppeagjklndidaaGreatDoor
open Go.RowKit
set_option linter.unusedVariables false
set_option linter.unusedSimpArgs false
set_option maxRecDepth 100000

/-- What is wrong with places in a list of so many: one isn't in it, one of it is at no place. -/
def whE (L : List Nat) (c : Nat) : Nat := if L.any (fun a => decide (c ≤ a)) = true then 5 else if (List.range c).all (fun i => L.contains i) = true then 0 else 4
theorem whE_zero {L : List Nat} {c : Nat} (h : whE L c = 0) : (∀ a ∈ L, a < c) ∧ ∀ i, i < c → i ∈ L := by
  unfold whE at h
  by_cases h1 : L.any (fun a => decide (c ≤ a)) = true
  · rw [if_pos h1] at h; omega
  · rw [if_neg h1] at h
    by_cases h2 : (List.range c).all (fun i => L.contains i) = true
    · refine ⟨fun a ha => ?_, fun i hi => ?_⟩
      · have h3 : L.any (fun a => decide (c ≤ a)) = false := Bool.eq_false_iff.2 h1
        have h4 := List.any_eq_false.1 h3 a ha
        simp at h4; exact h4
      · have := List.all_eq_true.1 h2 i (by simpa using hi)
        simpa using this
    · rw [if_neg h2] at h; omega
theorem whE_of {L : List Nat} {c : Nat} (h1 : ∀ a ∈ L, a < c) (h2 : ∀ i, i < c → i ∈ L) : whE L c = 0 := by
  unfold whE
  rw [if_neg, if_pos]
  · rw [List.all_eq_true]; intro i hi; simpa using h2 i (by simpa using hi)
  · intro h
    rw [List.any_eq_true] at h
    obtain ⟨a, ha, hc⟩ := h
    have := h1 a ha
    simp at hc; omega
theorem whE_lt (L : List Nat) (c : Nat) : whE L c ≤ 5 := by
  unfold whE
  split
  · omega
  · split <;> omega
/-- What is read of the list, and the reader behind it. -/
def rdl (b : List Nat) (n : Nat) : (Nat × Option (Int × Nat)) × List Int :=
  if n < vv b 0 then (((vst b 1).1, failS (vst b 1).1 (vst b 1).2 5), []) else ((ldS b (vv b 0)).1, ldL b (vv b 0))
/-- What is read of the places, and the reader behind them. -/
def rpS (b : List Nat) (at_ : Nat) (x : Option (Int × Nat)) (n c : Nat) : List Nat × Nat × Option (Int × Nat) :=
  let f := fixS b at_ x 1
  let x2 := if f.1 = blen (c - 1) then f.2.2 else failS f.2.1 f.2.2 4
  let t := takeS b f.2.1 x2 ((b.length : Int) - f.2.1)
  let x4 := failS t.2.1 t.2.2 (unpackE t.1 (n : Int) (blen (c - 1) : Int))
  (unpackS t.1 (n : Int) (blen (c - 1) : Int), t.2.1, failS t.2.1 x4 (whE (unpackS t.1 (n : Int) (blen (c - 1) : Int)) c))
def dcS (b : List Nat) (n : Nat) : List Nat × Nat × Option (Int × Nat) := rpS b (rdl b n).1.1 (rdl b n).1.2 n (rdl b n).2.length
/-- The error's number of reading; the numbers. -/
def dcE (b : List Nat) (k : Int) : Int := if k < 0 ∨ 65536 < k then 1 else (endS b (dcS b k.toNat).2.1 (dcS b k.toNat).2.2).1
def dcG (b : List Nat) (k : Int) : List Int := if dcE b k = 0 then (dcS b k.toNat).1.map (fun a => ((rdl b k.toNat).2[a]?).getD 0) else []
theorem dcE_bad {b : List Nat} {k : Int} (h : k < 0 ∨ 65536 < k) : dcE b k = 1 ∧ dcG b k = [] := by
  have hE : dcE b k = 1 := by unfold dcE; rw [if_pos h]
  exact ⟨hE, by unfold dcG; rw [if_neg (by omega)]⟩
theorem unpackS_all (t : List Nat) (n w : Int) : (∀ a ∈ unpackS t n w, a < 18446744073709551616) ∧ (unpackS t n w).length ≤ 65536 := by
  unfold unpackS
  by_cases h : unpackE t n w = 0
  · obtain ⟨h1, h2, h3, h4, _, _⟩ := unpackE_0 h
    rw [if_pos h]
    refine ⟨fun a ha => Nat.lt_of_lt_of_le (dg_lt _ _ _ a ha) (Nat.pow_le_pow_right (j := 64) (by omega) (by omega)), ?_⟩
    rw [dg_length]; omega
  · rw [if_neg h]; simp
theorem dcG_length (b : List Nat) (k : Int) : (dcG b k).length ≤ 65536 := by
  unfold dcG
  split
  · rw [List.length_map]; exact (unpackS_all _ _ _).2
  · simp
theorem rp_some (b : List Nat) (at_ : Nat) (y : Int × Nat) (n c : Nat) : (rpS b at_ (some y) n c).2 = (at_, some y) := by
  unfold rpS fixS takeS failS
  simp
/-- Behind the list: the first error. -/
def rpE (b : List Nat) (at_ n c : Nat) : Int :=
  match b[at_]? with
  | none => 2
  | some v => if v = blen (c - 1) then (if unpackE (b.drop (at_ + 1)) (n : Int) (v : Int) = 0 then (whE (unpackS (b.drop (at_ + 1)) (n : Int) (v : Int)) c : Int) else (unpackE (b.drop (at_ + 1)) (n : Int) (v : Int) : Int)) else 4
theorem fix1_byte (b : List Nat) (at_ v : Nat) (h : b[at_]? = some v) : fixS b at_ none 1 = (v, at_ + 1, none) := by
  obtain ⟨hl, rfl⟩ := List.getElem?_eq_some_iff.1 h
  unfold fixS
  simp only
  rw [if_neg (by omega), if_neg (by omega)]
  have e : (b.drop at_).take (1 : Int).toNat = [b[at_]] := by
    rw [List.drop_eq_getElem_cons hl]; rfl
  rw [e]
  rfl
theorem fix1_short (b : List Nat) (at_ : Nat) (h : at_ = b.length) : fixS b at_ none 1 = (0, at_, some (2, at_)) := by
  subst h
  unfold fixS
  simp only
  rw [if_neg (by omega), if_pos (by omega)]
theorem takeS_some (b : List Nat) (at_ : Nat) (y : Int × Nat) (n : Int) : takeS b at_ (some y) n = ([], at_, some y) := rfl
theorem failS_some (at_ : Nat) (y : Int × Nat) (k : Int) : failS at_ (some y) k = some y := rfl
theorem failS_none (at_ : Nat) (k : Int) (h : k ≠ 0) : failS at_ none k = some (k, at_) := by simp only [failS]; rw [if_neg h]
theorem take_left (b : List Nat) (at_ : Nat) (h : at_ ≤ b.length) : takeS b at_ none ((b.length : Int) - (at_ : Nat)) = (b.drop at_, b.length, none) := by
  unfold takeS
  simp only
  rw [if_neg (by omega), if_neg (by omega), List.take_of_length_le (by rw [List.length_drop]; omega)]
  congr 2
  omega
theorem rp_rest (b : List Nat) (at_ n c : Nat) (h : b[at_]? = some (blen (c - 1))) :
    rpS b at_ none n c = (unpackS (b.drop (at_ + 1)) (n : Int) (blen (c - 1) : Int), b.length, failS b.length (failS b.length none (unpackE (b.drop (at_ + 1)) (n : Int) (blen (c - 1) : Int))) (whE (unpackS (b.drop (at_ + 1)) (n : Int) (blen (c - 1) : Int)) c)) := by
  have hl := (List.getElem?_eq_some_iff.1 h).1
  unfold rpS
  rw [fix1_byte b at_ _ h]
  simp only
  rw [if_pos trivial, take_left b (at_ + 1) (by omega)]
theorem rp_end (b : List Nat) (at_ n c : Nat) (hat : at_ ≤ b.length) : (endS b (rpS b at_ none n c).2.1 (rpS b at_ none n c).2.2).1 = rpE b at_ n c := by
  unfold rpE
  cases h : b[at_]? with
  | none =>
    have hl : at_ = b.length := by have := List.getElem?_eq_none_iff.1 h; omega
    have e : (rpS b at_ none n c).2 = (at_, some (2, at_)) := by
      unfold rpS
      rw [fix1_short b at_ hl]
      simp only
      have e2 : (if 0 = blen (c - 1) then (some ((2 : Int), at_)) else failS at_ (some ((2 : Int), at_)) 4) = some ((2 : Int), at_) := by split <;> rfl
      rw [e2, takeS_some, failS_some, failS_some]
    rw [e, endS_some _ _ _ (by simp)]
  | some v =>
    simp only
    by_cases hv : v = blen (c - 1)
    · subst hv
      rw [if_pos rfl, rp_rest b at_ n c h]
      simp only
      by_cases hE : unpackE (b.drop (at_ + 1)) (n : Int) (blen (c - 1) : Int) = 0
      · rw [if_pos hE, hE]
        have e0 : failS b.length none ((0 : Nat) : Int) = none := rfl
        rw [e0]
        by_cases hw : whE (unpackS (b.drop (at_ + 1)) (n : Int) (blen (c - 1) : Int)) c = 0
        · rw [hw, e0, endS_none, if_neg (by omega)]; rfl
        · rw [failS_none _ _ (by omega), endS_some _ _ _ (by simp; omega)]
      · rw [if_neg hE, failS_none _ _ (by omega), failS_some, endS_some _ _ _ (by simp; omega)]
    · rw [if_neg hv]
      have e : (rpS b at_ none n c).2 = (at_ + 1, some (4, at_ + 1)) := by
        unfold rpS
        rw [fix1_byte b at_ v h]
        simp only
        rw [if_neg hv, failS_none _ _ (by omega), takeS_some, failS_some, failS_some]
      rw [e, endS_some _ _ _ (by simp)]
theorem rp_take (b : List Nat) (at_ n c : Nat) (h : rpE b at_ n c = 0) :
    b[at_]? = some (blen (c - 1)) ∧ unpackE (b.drop (at_ + 1)) (n : Int) (blen (c - 1) : Int) = 0 ∧ whE (unpackS (b.drop (at_ + 1)) (n : Int) (blen (c - 1) : Int)) c = 0 ∧ (rpS b at_ none n c).1 = unpackS (b.drop (at_ + 1)) (n : Int) (blen (c - 1) : Int) := by
  unfold rpE at h
  cases hb : b[at_]? with
  | none => rw [hb] at h; simp at h
  | some v =>
    rw [hb] at h
    simp only at h
    by_cases hv : v = blen (c - 1)
    · subst hv
      rw [if_pos rfl] at h
      by_cases hE : unpackE (b.drop (at_ + 1)) (n : Int) (blen (c - 1) : Int) = 0
      · rw [if_pos hE] at h
        exact ⟨rfl, hE, by omega, by rw [rp_rest b at_ n c hb]⟩
      · rw [if_neg hE] at h; omega
    · rw [if_neg hv] at h; omega
/-! The first error, case by case. -/
theorem dcE_some {b : List Nat} {N : Nat} {y : Int × Nat} (hN : N ≤ 65536) (hy : y.1 ≠ 0) (h : (rdl b N).1.2 = some y) : dcE b (N : Int) = y.1 := by
  unfold dcE
  rw [if_neg (by omega), Int.toNat_natCast]
  unfold dcS
  rw [h, rp_some, endS_some _ _ _ hy]
theorem dcE_var {b : List Nat} {N : Nat} {y : Int × Nat} (hN : N ≤ 65536) (h : (vst b 1).2 = some y) : dcE b (N : Int) = y.1 := by
  refine dcE_some hN (vst_ok b 1 y h) ?_
  unfold rdl
  split
  · rw [h]; rfl
  · have := ldS_stop (b := b) (k := 0) (y := y) h (vv b 0)
    rw [Nat.zero_add] at this
    rw [this]; exact h
theorem dcE_cnt {b : List Nat} {N : Nat} (hN : N ≤ 65536) (h : (vst b 1).2 = none) (hc : N < vv b 0) : dcE b (N : Int) = 5 := by
  refine dcE_some (y := (5, (vst b 1).1)) hN (by simp) ?_
  unfold rdl
  rw [if_pos hc, h]; rfl
theorem dcE_list {b : List Nat} {N k : Nat} {y : Int × Nat} (hN : N ≤ 65536) (hc : ¬ N < vv b 0) (hk : k ≤ vv b 0) (h : (ldS b k).1.2 = some y) : dcE b (N : Int) = y.1 := by
  refine dcE_some hN (ldS_ok b k y h) ?_
  unfold rdl
  rw [if_neg hc]
  have := ldS_stop h (vv b 0 - k)
  rw [show k + (vv b 0 - k) = vv b 0 by omega] at this
  simp only
  rw [this]; exact h
theorem ld_place {b : List Nat} (hb : ∀ x ∈ b, x < 256) {k : Nat} (h : (ldS b k).1.2 = none) : (ldS b k).1 = ((vst b (k + 1)).1, none) ∧ (vst b (k + 1)).2 = none ∧ (vst b (k + 1)).1 ≤ b.length := by
  have e := ldS_place hb h
  rw [e] at h
  refine ⟨by rw [e, ← h], h, (put_prefix b hb _ h).1⟩
theorem dcE_rest {b : List Nat} (hb : ∀ x ∈ b, x < 256) {N : Nat} (hN : N ≤ 65536) (hc : ¬ N < vv b 0) (h : (ldS b (vv b 0)).1.2 = none) : dcE b (N : Int) = rpE b (vst b (vv b 0 + 1)).1 N (vv b 0) := by
  obtain ⟨e1, e2, e3⟩ := ld_place hb h
  unfold dcE
  rw [if_neg (by omega), Int.toNat_natCast]
  unfold dcS rdl
  rw [if_neg hc]
  simp only
  rw [e1, ldL_length]
  exact rp_end b _ N _ e3
theorem dcG_rest {b : List Nat} (hb : ∀ x ∈ b, x < 256) {N : Nat} (hN : N ≤ 65536) (hc : ¬ N < vv b 0) (h : (ldS b (vv b 0)).1.2 = none) (hE : dcE b (N : Int) = 0) :
    b[(vst b (vv b 0 + 1)).1]? = some (blen (vv b 0 - 1)) ∧ unpackE (b.drop ((vst b (vv b 0 + 1)).1 + 1)) (N : Int) (blen (vv b 0 - 1) : Int) = 0 ∧ whE (unpackS (b.drop ((vst b (vv b 0 + 1)).1 + 1)) (N : Int) (blen (vv b 0 - 1) : Int)) (vv b 0) = 0 ∧
      dcG b (N : Int) = (unpackS (b.drop ((vst b (vv b 0 + 1)).1 + 1)) (N : Int) (blen (vv b 0 - 1) : Int)).map (fun a => ((ldL b (vv b 0))[a]?).getD 0) := by
  have hE2 := hE
  rw [dcE_rest hb hN hc h] at hE2
  obtain ⟨h1, h2, h3, h4⟩ := rp_take _ _ _ _ hE2
  refine ⟨h1, h2, h3, ?_⟩
  obtain ⟨e1, e2, e3⟩ := ld_place hb h
  unfold dcG
  rw [if_pos hE, Int.toNat_natCast]
  unfold dcS rdl
  rw [if_neg hc]
  simp only
  rw [e1, ldL_length]
  simp only
  rw [h4]
/-- All went well so far. -/
theorem dcE_zero {b : List Nat} {N : Nat} (hN : N ≤ 65536) (hE : dcE b (N : Int) = 0) : (vst b 1).2 = none ∧ ¬ N < vv b 0 ∧ (ldS b (vv b 0)).1.2 = none := by
  have h1 : (vst b 1).2 = none := by
    cases h : (vst b 1).2 with
    | none => rfl
    | some y => rw [dcE_var hN h] at hE; exact absurd hE (vst_ok b 1 y h)
  have h2 : ¬ N < vv b 0 := fun h => by rw [dcE_cnt hN h1 h] at hE; omega
  refine ⟨h1, h2, ?_⟩
  cases h : (ldS b (vv b 0)).1.2 with
  | none => rfl
  | some y => rw [dcE_list hN h2 (Nat.le_refl _) h] at hE; exact absurd hE (ldS_ok b _ y h)
end Go.Proofs.YtppeagjklndidaaGreatDoor
