import Derived.Test.YticanhidahkhfaaGreatDoorJ21
import Derived.Test.YticanhidahkhfaaGreatDoorJ7
import Derived.Test.YticanhidahkhfaaGreatDoorJ23
import Derived.Test.YticanhidahkhfaaGreatDoorJ25
import Derived.Test.YticanhidahkhfaaGreatDoorJ14
import Derived.Test.YticanhidahkhfaaGreatDoorJ12
import Derived.Test.YticanhidahkhfaaGreatDoorJ22
import Derived.Test.YticanhidahkhfaaGreatDoorJ24
namespace Go.Proofs.YticanhidahkhfaaGreatDoor
open Go.RowKit
set_option linter.unusedVariables false
set_option linter.unusedSimpArgs false
set_option maxRecDepth 100000
theorem wr64 (n : Int) : wrap64 n = (n + 9223372036854775808) % 18446744073709551616 - 9223372036854775808 := by unfold wrap64; rfl
theorem wr64_in (n : Int) : In64 (wrap64 n) := by rw [wr64]; unfold In64; omega
theorem wr64_id {n : Int} (h : In64 n) : wrap64 n = n := by unfold In64 at h; rw [wr64]; omega
def ldS (b : List Nat) : Nat → (Nat × Option (Int × Nat)) × Int
  | 0 => (vst b 1, 0)
  | k + 1 =>
    let v := varS b (ldS b k).1.1 (ldS b k).1.2
    if k = 0 then (v.2, zagI (v.1 : Int))
    else (if wrap64 ((ldS b k).2 + v.1 + 1) ≤ (ldS b k).2 then (v.2.1, failS v.2.1 v.2.2 4) else v.2, wrap64 ((ldS b k).2 + v.1 + 1))
def ldL (b : List Nat) (k : Nat) : List Int := (List.range k).map fun i => (ldS b (i + 1)).2
theorem ldL_length (b : List Nat) (k : Nat) : (ldL b k).length = k := by simp [ldL]
theorem ldL_succ (b : List Nat) (k : Nat) : ldL b (k + 1) = ldL b k ++ [(ldS b (k + 1)).2] := by simp [ldL, List.range_succ]
theorem ldL_at (b : List Nat) (n k : Nat) (h : k < n) : (ldL b n)[k]? = some (ldS b (k + 1)).2 := by simp [ldL, h]
theorem ldL_take (b : List Nat) (n k : Nat) (h : k ≤ n) : (ldL b n).take k = ldL b k := by
  unfold ldL
  rw [← List.map_take, List.take_range, Nat.min_eq_left h]
theorem varS_some (b : List Nat) (at_ : Nat) (y : Int × Nat) : varS b at_ (some y) = (0, at_, some y) := rfl
theorem ldS_some {b : List Nat} {k : Nat} {y : Int × Nat} (h : (ldS b k).1.2 = some y) : (ldS b (k + 1)).1 = (ldS b k).1 := by
  have e : ∀ a : Nat × Option (Int × Nat), a.2 = some y → varS b a.1 a.2 = (0, a) := by
    rintro ⟨p, q⟩ h
    simp only at h
    subst h
    rfl
  simp only [ldS]
  rw [e _ h]
  by_cases h0 : k = 0
  · rw [if_pos h0]
  · rw [if_neg h0]
    simp only
    split
    · rw [h]
      show ((ldS b k).1.1, some y) = _
      rw [← h]
    · rfl
theorem ldS_stop {b : List Nat} {k : Nat} {y : Int × Nat} (h : (ldS b k).1.2 = some y) : ∀ j, (ldS b (k + j)).1 = (ldS b k).1
  | 0 => rfl
  | j + 1 => by
    have := ldS_stop h j
    rw [← Nat.add_assoc, ldS_some (y := y) (by rw [this]; exact h), this]
theorem ldS_in {b : List Nat} (hb : ∀ x ∈ b, x < 256) (k : Nat) : In64 (ldS b k).2 := by
  cases k with
  | zero => simp [ldS, In64]
  | succ k =>
    simp only [ldS]
    by_cases h0 : k = 0
    · rw [if_pos h0]
      simp only
      refine zagI_in ?_
      subst h0
      exact vv_lt hb 1
    · rw [if_neg h0]; exact wr64_in _
theorem ldL_in {b : List Nat} (hb : ∀ x ∈ b, x < 256) (k : Nat) : ∀ z ∈ ldL b k, In64 z := by
  intro z hz
  obtain ⟨i, _, rfl⟩ := List.mem_map.1 hz
  exact ldS_in hb _
theorem varS_lt {b : List Nat} (hb : ∀ x ∈ b, x < 256) (at_ : Nat) (x : Option (Int × Nat)) : (varS b at_ x).1 < 18446744073709551616 := by
  cases x with
  | some y => show 0 < _; omega
  | none =>
    unfold varS
    simp only
    split
    · rename_i h1
      rcases hl : lookF 0 0 (b.drop at_) with ⟨v, m, e⟩
      rw [hl] at h1
      simp only at h1
      subst h1
      exact (look_is (fun x h => hb x (List.mem_of_mem_drop h)) hl).2
    · show 0 < _; omega
theorem ldS_ok (b : List Nat) (k : Nat) : ∀ y, (ldS b k).1.2 = some y → y.1 ≠ 0 := by
  induction k with
  | zero => intro y h; exact vst_ok b 1 y h
  | succ k ih =>
    intro y h
    cases hx : (ldS b k).1.2 with
    | some z => rw [ldS_some hx] at h; exact ih y h
    | none =>
      simp only [ldS] at h
      rw [hx] at h
      have hv : ∀ y, (varS b (ldS b k).1.1 none).2.2 = some y → y.1 ≠ 0 := by
        intro y h
        unfold varS at h
        simp only at h
        split at h
        · cases h
        · injection h with h
          subst h
          show ((lookF 0 0 (b.drop (ldS b k).1.1)).2.2 : Int) ≠ 0
          omega
      by_cases h0 : k = 0
      · rw [if_pos h0] at h; exact hv y h
      · rw [if_neg h0] at h
        simp only at h
        split at h
        · cases hq : (varS b (ldS b k).1.1 none).2.2 with
          | some z =>
            rw [hq] at h
            simp only [failS] at h
            injection h with h
            subst h
            exact hv _ hq
          | none =>
            rw [hq] at h
            simp only [failS] at h
            rw [if_neg (by omega)] at h
            injection h with h
            subst h
            simp
        · exact hv y h
theorem ldS_none {b : List Nat} (hb : ∀ x ∈ b, x < 256) (k : Nat) : (ldS b (k + 1)).1.2 = none →
    (ldS b k).1.2 = none ∧ (ldS b (k + 1)).1 = vst b (k + 2) ∧ (ldS b (k + 1)).2 = (if k = 0 then zagI (vv b 1 : Int) else (ldS b k).2 + vv b (k + 1) + 1) ∧ (k ≠ 0 → (ldS b k).2 < (ldS b (k + 1)).2) := by
  induction k with
  | zero =>
    intro h
    refine ⟨?_, rfl, rfl, fun h => absurd rfl h⟩
    cases hx : (ldS b 0).1.2 with
    | some y => rw [ldS_some hx, hx] at h; cases h
    | none => rfl
  | succ k ih =>
    intro h
    have h0 : (ldS b (k + 1)).1.2 = none := by
      cases hx : (ldS b (k + 1)).1.2 with
      | some y => rw [ldS_some hx, hx] at h; cases h
      | none => rfl
    obtain ⟨_, e, _, _⟩ := ih h0
    refine ⟨h0, ?_⟩
    have hin := ldS_in hb (k + 1)
    have hv := vv_lt hb (k + 2)
    have h1 : ldS b (k + 2) = (if wrap64 ((ldS b (k + 1)).2 + vv b (k + 2) + 1) ≤ (ldS b (k + 1)).2 then ((vst b (k + 3)).1, failS (vst b (k + 3)).1 (vst b (k + 3)).2 4) else vst b (k + 3), wrap64 ((ldS b (k + 1)).2 + vv b (k + 2) + 1)) := by
      conv => lhs; unfold ldS
      simp only
      rw [if_neg (by omega), e]
      rfl
    rw [h1] at h ⊢
    simp only at h ⊢
    rw [if_neg (show ¬ k + 1 = 0 by omega)]
    by_cases hle : wrap64 ((ldS b (k + 1)).2 + vv b (k + 2) + 1) ≤ (ldS b (k + 1)).2
    · rw [if_pos hle] at h
      simp only at h
      exfalso
      unfold failS at h
      cases hq : (vst b (k + 3)).2 with
      | some y => rw [hq] at h; cases h
      | none => rw [hq] at h; simp only at h; rw [if_neg (by omega)] at h; cases h
    · rw [if_neg hle]
      refine ⟨rfl, ?_, fun _ => by omega⟩
      show wrap64 ((ldS b (k + 1)).2 + vv b (k + 2) + 1) = (ldS b (k + 1)).2 + vv b (k + 2) + 1
      rw [wr64] at hle ⊢
      unfold In64 at hin
      omega
theorem ldS_before {b : List Nat} {c k : Nat} (h : (ldS b c).1.2 = none) (hk : k ≤ c) : (ldS b k).1.2 = none := by
  cases hx : (ldS b k).1.2 with
  | none => rfl
  | some y =>
    have := ldS_stop hx (c - k)
    rw [show k + (c - k) = c by omega] at this
    rw [this, hx] at h; cases h
theorem ldS_place {b : List Nat} (hb : ∀ x ∈ b, x < 256) {k : Nat} (h : (ldS b k).1.2 = none) : (ldS b k).1 = vst b (k + 1) := by
  cases k with
  | zero => rfl
  | succ k => exact (ldS_none hb k h).2.1
theorem ldL_rise {b : List Nat} (hb : ∀ x ∈ b, x < 256) (c : Nat) (h : (ldS b c).1.2 = none) : Rise (ldL b c) := by
  have key : ∀ k, k ≤ c → Rise (ldL b k) ∧ ∀ z ∈ ldL b k, z ≤ (ldS b k).2 := by
    intro k
    induction k with
    | zero => intro _; exact ⟨by simp [ldL, Rise], by simp [ldL]⟩
    | succ k ih =>
      intro hk
      obtain ⟨i1, i2⟩ := ih (by omega)
      obtain ⟨_, _, _, e⟩ := ldS_none hb k (ldS_before h hk)
      rw [ldL_succ]
      refine ⟨?_, ?_⟩
      · unfold Rise
        rw [List.pairwise_append]
        refine ⟨i1, by simp, ?_⟩
        intro x hx y hy
        rw [List.mem_singleton] at hy
        subst hy
        by_cases h0 : k = 0
        · subst h0; simp [ldL] at hx
        · have := i2 x hx; have := e h0; omega
      · intro z hz
        rcases List.mem_append.1 hz with hz | hz
        · by_cases h0 : k = 0
          · subst h0; simp [ldL] at hz
          · have := i2 z hz; have := e h0; omega
        · rw [List.mem_singleton] at hz; omega
  exact (key c (Nat.le_refl _)).1
theorem ldL_head {b : List Nat} (hb : ∀ x ∈ b, x < 256) (c : Nat) (h : (ldS b c).1.2 = none) : ∀ k, k < c → (htD (ldL b c))[k]? = some (vv b (k + 1)) := by
  intro k hk
  obtain ⟨_, _, e1, _⟩ := ldS_none hb k (ldS_before h (by omega))
  have hat := ldL_at b c k hk
  cases k with
  | zero =>
    rw [htD_zero hat, e1, if_pos rfl, zg_zagI]
  | succ k =>
    have hat0 := ldL_at b c k (by omega)
    rw [htD_succ hat0 hat, e1, if_neg (by omega)]
    congr 1
    omega
end Go.Proofs.YticanhidahkhfaaGreatDoor
namespace Go.Proofs.YticanhidahkhfaaGreatDoor
open Go.RowKit
set_option linter.unusedVariables false
set_option linter.unusedSimpArgs false
set_option maxRecDepth 100000
def whE (L : List Nat) (c : Nat) : Nat := if L.any (fun a => decide (c ≤ a)) = true then 5 else if (List.range c).all (fun i => L.contains i) = true then 0 else 4
theorem whE_zero {L : List Nat} {c : Nat} (h : whE L c = 0) : (∀ a ∈ L, a < c) ∧ ∀ i, i < c → i ∈ L := by
  unfold whE at h
  by_cases h1 : L.any (fun a => decide (c ≤ a)) = true
  · rw [if_pos h1] at h; omega
  · rw [if_neg h1] at h
    by_cases h2 : (List.range c).all (fun i => L.contains i) = true
    · refine ⟨fun a ha => ?_, fun i hi => ?_⟩
      · have h3 : L.any (fun a => decide (c ≤ a)) = false := Bool.eq_false_iff.2 h1
        have h4 := List.any_eq_false.1 h3 a ha
        simp at h4; exact h4
      · have := List.all_eq_true.1 h2 i (by simpa using hi)
        simpa using this
    · rw [if_neg h2] at h; omega
theorem whE_of {L : List Nat} {c : Nat} (h1 : ∀ a ∈ L, a < c) (h2 : ∀ i, i < c → i ∈ L) : whE L c = 0 := by
  unfold whE
  rw [if_neg, if_pos]
  · rw [List.all_eq_true]; intro i hi; simpa using h2 i (by simpa using hi)
  · intro h
    rw [List.any_eq_true] at h
    obtain ⟨a, ha, hc⟩ := h
    have := h1 a ha
    simp at hc; omega
theorem whE_lt (L : List Nat) (c : Nat) : whE L c ≤ 5 := by
  unfold whE
  split
  · omega
  · split <;> omega
def rdl (b : List Nat) (n : Nat) : (Nat × Option (Int × Nat)) × List Int :=
  if n < vv b 0 then (((vst b 1).1, failS (vst b 1).1 (vst b 1).2 5), []) else ((ldS b (vv b 0)).1, ldL b (vv b 0))
def rpS (b : List Nat) (at_ : Nat) (x : Option (Int × Nat)) (n c : Nat) : List Nat × Nat × Option (Int × Nat) :=
  let f := fixS b at_ x 1
  let x2 := if f.1 = blen (c - 1) then f.2.2 else failS f.2.1 f.2.2 4
  let t := takeS b f.2.1 x2 ((b.length : Int) - f.2.1)
  let x4 := failS t.2.1 t.2.2 (unpackE t.1 (n : Int) (blen (c - 1) : Int))
  (unpackS t.1 (n : Int) (blen (c - 1) : Int), t.2.1, failS t.2.1 x4 (whE (unpackS t.1 (n : Int) (blen (c - 1) : Int)) c))
def dcS (b : List Nat) (n : Nat) : List Nat × Nat × Option (Int × Nat) := rpS b (rdl b n).1.1 (rdl b n).1.2 n (rdl b n).2.length
def dcE (b : List Nat) (k : Int) : Int := if k < 0 ∨ 65536 < k then 1 else (endS b (dcS b k.toNat).2.1 (dcS b k.toNat).2.2).1
def dcG (b : List Nat) (k : Int) : List Int := if dcE b k = 0 then (dcS b k.toNat).1.map (fun a => ((rdl b k.toNat).2[a]?).getD 0) else []
theorem dcE_bad {b : List Nat} {k : Int} (h : k < 0 ∨ 65536 < k) : dcE b k = 1 ∧ dcG b k = [] := by
  have hE : dcE b k = 1 := by unfold dcE; rw [if_pos h]
  exact ⟨hE, by unfold dcG; rw [if_neg (by omega)]⟩
theorem unpackS_all (t : List Nat) (n w : Int) : (∀ a ∈ unpackS t n w, a < 18446744073709551616) ∧ (unpackS t n w).length ≤ 65536 := by
  unfold unpackS
  by_cases h : unpackE t n w = 0
  · obtain ⟨h1, h2, h3, h4, _, _⟩ := unpackE_0 h
    rw [if_pos h]
    refine ⟨fun a ha => Nat.lt_of_lt_of_le (dg_lt _ _ _ a ha) (Nat.pow_le_pow_right (j := 64) (by omega) (by omega)), ?_⟩
    rw [dg_length]; omega
  · rw [if_neg h]; simp
theorem dcG_length (b : List Nat) (k : Int) : (dcG b k).length ≤ 65536 := by
  unfold dcG
  split
  · rw [List.length_map]; exact (unpackS_all _ _ _).2
  · simp
theorem rp_some (b : List Nat) (at_ : Nat) (y : Int × Nat) (n c : Nat) : (rpS b at_ (some y) n c).2 = (at_, some y) := by
  unfold rpS fixS takeS failS
  simp
def rpE (b : List Nat) (at_ n c : Nat) : Int :=
  match b[at_]? with
  | none => 2
  | some v => if v = blen (c - 1) then (if unpackE (b.drop (at_ + 1)) (n : Int) (v : Int) = 0 then (whE (unpackS (b.drop (at_ + 1)) (n : Int) (v : Int)) c : Int) else (unpackE (b.drop (at_ + 1)) (n : Int) (v : Int) : Int)) else 4
theorem fix1_byte (b : List Nat) (at_ v : Nat) (h : b[at_]? = some v) : fixS b at_ none 1 = (v, at_ + 1, none) := by
  obtain ⟨hl, rfl⟩ := List.getElem?_eq_some_iff.1 h
  unfold fixS
  simp only
  rw [if_neg (by omega), if_neg (by omega)]
  have e : (b.drop at_).take (1 : Int).toNat = [b[at_]] := by
    rw [List.drop_eq_getElem_cons hl]; rfl
  rw [e]
  rfl
theorem fix1_short (b : List Nat) (at_ : Nat) (h : at_ = b.length) : fixS b at_ none 1 = (0, at_, some (2, at_)) := by
  subst h
  unfold fixS
  simp only
  rw [if_neg (by omega), if_pos (by omega)]
theorem takeS_some (b : List Nat) (at_ : Nat) (y : Int × Nat) (n : Int) : takeS b at_ (some y) n = ([], at_, some y) := rfl
theorem failS_some (at_ : Nat) (y : Int × Nat) (k : Int) : failS at_ (some y) k = some y := rfl
theorem failS_none (at_ : Nat) (k : Int) (h : k ≠ 0) : failS at_ none k = some (k, at_) := by simp only [failS]; rw [if_neg h]
theorem take_left (b : List Nat) (at_ : Nat) (h : at_ ≤ b.length) : takeS b at_ none ((b.length : Int) - (at_ : Nat)) = (b.drop at_, b.length, none) := by
  unfold takeS
  simp only
  rw [if_neg (by omega), if_neg (by omega), List.take_of_length_le (by rw [List.length_drop]; omega)]
  congr 2
  omega
theorem rp_rest (b : List Nat) (at_ n c : Nat) (h : b[at_]? = some (blen (c - 1))) :
    rpS b at_ none n c = (unpackS (b.drop (at_ + 1)) (n : Int) (blen (c - 1) : Int), b.length, failS b.length (failS b.length none (unpackE (b.drop (at_ + 1)) (n : Int) (blen (c - 1) : Int))) (whE (unpackS (b.drop (at_ + 1)) (n : Int) (blen (c - 1) : Int)) c)) := by
  have hl := (List.getElem?_eq_some_iff.1 h).1
  unfold rpS
  rw [fix1_byte b at_ _ h]
  simp only
  rw [if_pos trivial, take_left b (at_ + 1) (by omega)]
theorem rp_end (b : List Nat) (at_ n c : Nat) (hat : at_ ≤ b.length) : (endS b (rpS b at_ none n c).2.1 (rpS b at_ none n c).2.2).1 = rpE b at_ n c := by
  unfold rpE
  cases h : b[at_]? with
  | none =>
    have hl : at_ = b.length := by have := List.getElem?_eq_none_iff.1 h; omega
    have e : (rpS b at_ none n c).2 = (at_, some (2, at_)) := by
      unfold rpS
      rw [fix1_short b at_ hl]
      simp only
      have e2 : (if 0 = blen (c - 1) then (some ((2 : Int), at_)) else failS at_ (some ((2 : Int), at_)) 4) = some ((2 : Int), at_) := by split <;> rfl
      rw [e2, takeS_some, failS_some, failS_some]
    rw [e, endS_some _ _ _ (by simp)]
  | some v =>
    simp only
    by_cases hv : v = blen (c - 1)
    · subst hv
      rw [if_pos rfl, rp_rest b at_ n c h]
      simp only
      by_cases hE : unpackE (b.drop (at_ + 1)) (n : Int) (blen (c - 1) : Int) = 0
      · rw [if_pos hE, hE]
        have e0 : failS b.length none ((0 : Nat) : Int) = none := rfl
        rw [e0]
        by_cases hw : whE (unpackS (b.drop (at_ + 1)) (n : Int) (blen (c - 1) : Int)) c = 0
        · rw [hw, e0, endS_none, if_neg (by omega)]; rfl
        · rw [failS_none _ _ (by omega), endS_some _ _ _ (by simp; omega)]
      · rw [if_neg hE, failS_none _ _ (by omega), failS_some, endS_some _ _ _ (by simp; omega)]
    · rw [if_neg hv]
      have e : (rpS b at_ none n c).2 = (at_ + 1, some (4, at_ + 1)) := by
        unfold rpS
        rw [fix1_byte b at_ v h]
        simp only
        rw [if_neg hv, failS_none _ _ (by omega), takeS_some, failS_some, failS_some]
      rw [e, endS_some _ _ _ (by simp)]
theorem rp_take (b : List Nat) (at_ n c : Nat) (h : rpE b at_ n c = 0) :
    b[at_]? = some (blen (c - 1)) ∧ unpackE (b.drop (at_ + 1)) (n : Int) (blen (c - 1) : Int) = 0 ∧ whE (unpackS (b.drop (at_ + 1)) (n : Int) (blen (c - 1) : Int)) c = 0 ∧ (rpS b at_ none n c).1 = unpackS (b.drop (at_ + 1)) (n : Int) (blen (c - 1) : Int) := by
  unfold rpE at h
  cases hb : b[at_]? with
  | none => rw [hb] at h; simp at h
  | some v =>
    rw [hb] at h
    simp only at h
    by_cases hv : v = blen (c - 1)
    · subst hv
      rw [if_pos rfl] at h
      by_cases hE : unpackE (b.drop (at_ + 1)) (n : Int) (blen (c - 1) : Int) = 0
      · rw [if_pos hE] at h
        exact ⟨rfl, hE, by omega, by rw [rp_rest b at_ n c hb]⟩
      · rw [if_neg hE] at h; omega
    · rw [if_neg hv] at h; omega
theorem dcE_some {b : List Nat} {N : Nat} {y : Int × Nat} (hN : N ≤ 65536) (hy : y.1 ≠ 0) (h : (rdl b N).1.2 = some y) : dcE b (N : Int) = y.1 := by
  unfold dcE
  rw [if_neg (by omega), Int.toNat_natCast]
  unfold dcS
  rw [h, rp_some, endS_some _ _ _ hy]
theorem dcE_var {b : List Nat} {N : Nat} {y : Int × Nat} (hN : N ≤ 65536) (h : (vst b 1).2 = some y) : dcE b (N : Int) = y.1 := by
  refine dcE_some hN (vst_ok b 1 y h) ?_
  unfold rdl
  split
  · rw [h]; rfl
  · have := ldS_stop (b := b) (k := 0) (y := y) h (vv b 0)
    rw [Nat.zero_add] at this
    rw [this]; exact h
theorem dcE_cnt {b : List Nat} {N : Nat} (hN : N ≤ 65536) (h : (vst b 1).2 = none) (hc : N < vv b 0) : dcE b (N : Int) = 5 := by
  refine dcE_some (y := (5, (vst b 1).1)) hN (by simp) ?_
  unfold rdl
  rw [if_pos hc, h]; rfl
theorem dcE_list {b : List Nat} {N k : Nat} {y : Int × Nat} (hN : N ≤ 65536) (hc : ¬ N < vv b 0) (hk : k ≤ vv b 0) (h : (ldS b k).1.2 = some y) : dcE b (N : Int) = y.1 := by
  refine dcE_some hN (ldS_ok b k y h) ?_
  unfold rdl
  rw [if_neg hc]
  have := ldS_stop h (vv b 0 - k)
  rw [show k + (vv b 0 - k) = vv b 0 by omega] at this
  simp only
  rw [this]; exact h
theorem ld_place {b : List Nat} (hb : ∀ x ∈ b, x < 256) {k : Nat} (h : (ldS b k).1.2 = none) : (ldS b k).1 = ((vst b (k + 1)).1, none) ∧ (vst b (k + 1)).2 = none ∧ (vst b (k + 1)).1 ≤ b.length := by
  have e := ldS_place hb h
  rw [e] at h
  refine ⟨by rw [e, ← h], h, (put_prefix b hb _ h).1⟩
theorem dcE_rest {b : List Nat} (hb : ∀ x ∈ b, x < 256) {N : Nat} (hN : N ≤ 65536) (hc : ¬ N < vv b 0) (h : (ldS b (vv b 0)).1.2 = none) : dcE b (N : Int) = rpE b (vst b (vv b 0 + 1)).1 N (vv b 0) := by
  obtain ⟨e1, e2, e3⟩ := ld_place hb h
  unfold dcE
  rw [if_neg (by omega), Int.toNat_natCast]
  unfold dcS rdl
  rw [if_neg hc]
  simp only
  rw [e1, ldL_length]
  exact rp_end b _ N _ e3
theorem dcG_rest {b : List Nat} (hb : ∀ x ∈ b, x < 256) {N : Nat} (hN : N ≤ 65536) (hc : ¬ N < vv b 0) (h : (ldS b (vv b 0)).1.2 = none) (hE : dcE b (N : Int) = 0) :
    b[(vst b (vv b 0 + 1)).1]? = some (blen (vv b 0 - 1)) ∧ unpackE (b.drop ((vst b (vv b 0 + 1)).1 + 1)) (N : Int) (blen (vv b 0 - 1) : Int) = 0 ∧ whE (unpackS (b.drop ((vst b (vv b 0 + 1)).1 + 1)) (N : Int) (blen (vv b 0 - 1) : Int)) (vv b 0) = 0 ∧
      dcG b (N : Int) = (unpackS (b.drop ((vst b (vv b 0 + 1)).1 + 1)) (N : Int) (blen (vv b 0 - 1) : Int)).map (fun a => ((ldL b (vv b 0))[a]?).getD 0) := by
  have hE2 := hE
  rw [dcE_rest hb hN hc h] at hE2
  obtain ⟨h1, h2, h3, h4⟩ := rp_take _ _ _ _ hE2
  refine ⟨h1, h2, h3, ?_⟩
  obtain ⟨e1, e2, e3⟩ := ld_place hb h
  unfold dcG
  rw [if_pos hE, Int.toNat_natCast]
  unfold dcS rdl
  rw [if_neg hc]
  simp only
  rw [e1, ldL_length]
  simp only
  rw [h4]
theorem dcE_zero {b : List Nat} {N : Nat} (hN : N ≤ 65536) (hE : dcE b (N : Int) = 0) : (vst b 1).2 = none ∧ ¬ N < vv b 0 ∧ (ldS b (vv b 0)).1.2 = none := by
  have h1 : (vst b 1).2 = none := by
    cases h : (vst b 1).2 with
    | none => rfl
    | some y => rw [dcE_var hN h] at hE; exact absurd hE (vst_ok b 1 y h)
  have h2 : ¬ N < vv b 0 := fun h => by rw [dcE_cnt hN h1 h] at hE; omega
  refine ⟨h1, h2, ?_⟩
  cases h : (ldS b (vv b 0)).1.2 with
  | none => rfl
  | some y => rw [dcE_list hN h2 (Nat.le_refl _) h] at hE; exact absurd hE (ldS_ok b _ y h)
end Go.Proofs.YticanhidahkhfaaGreatDoor
namespace Go.Proofs.YticanhidahkhfaaGreatDoor
open Go.RowKit
set_option linter.unusedVariables false
set_option linter.unusedSimpArgs false
set_option maxRecDepth 100000
theorem indexB_any (A : Option Addr) (n c : Nat) (f : Nat → Bool) (w : World) (hr : Reads w w.heap.size 1 A n (bl f n)) (hn : n ≤ 140737488355328) :
    Calls Tryz.prog 315 #[.slice A n c, .bool false] w fun e w' => e = .returned (.int .i64 (missI f n)) ∧ w = w' := by
  go_enter Tryz.func315, Tryz.ntmps315
  go_wp2_with fail
  go_loop [8] (fun s8 => ∃ k : Nat, k ≤ n ∧ s8 = .int .i64 (k : Int) ∧ ∀ j, j < k → f j = true) (fun i => n - (intOf i).toNat)
  case atStart => exact ⟨0, Nat.zero_le _, rfl, fun j h => absurd h (by omega)⟩
  case round =>
    obtain ⟨k, hk, rfl, hall⟩ := hrel
    obtain ⟨h1, h2⟩ := find_step hk hall
    by_cases hlt : k < n
    · obtain ⟨ad, rfl, _, hc⟩ := bl_cell hr hlt
      cases hf : f k with
      | true =>
        rw [hf] at hc
        have HALL : Hid (∀ j, j < k + 1 → f j = true) := Lib.hid fun j hj => by
          rcases Nat.lt_or_ge j k with h | h
          · exact hall j h
          · obtain rfl : j = k := by omega
            exact hf
        clear h1 h2 hall hf
        go_wp2_with fail
        go_round
        case rel => exact ⟨k + 1, by omega, by go_num, HALL.out⟩
        case measure => simp [intOf]; omega
      | false =>
        rw [hf] at hc
        have HM := Lib.hid (h1 hlt hf)
        clear h1 h2 hall hf
        go_wp2_with fail
        go_ret
        exact ⟨by rw [HM.out]; rfl, rfl⟩
    · have HM := Lib.hid (h2 (by omega))
      clear h1 h2 hall
      go_wp2_with fail
      go_ret
      exact ⟨by rw [HM.out]; rfl, rfl⟩
theorem containsB_any (A : Option Addr) (n c : Nat) (f : Nat → Bool) (w : World) (hr : Reads w w.heap.size 1 A n (bl f n)) (hn : n ≤ 140737488355328) :
    Calls Tryz.prog 298 #[.slice A n c, .bool false] w fun e w' => e = .returned (.bool (!(List.range n).all f)) ∧ w = w' := by
  have hm := miss_all (f := f) (n := n)
  have HC := Lib.hid (indexB_any A n c f w hr hn)
  obtain ⟨m, hme⟩ : ∃ m, m = missI f n := ⟨_, rfl⟩
  rw [← hme] at hm HC
  have HM : Hid (decide (0 ≤ m) = !(List.range n).all f) := Lib.hid (by
    cases h : (List.range n).all f with
    | true =>
      have : ¬ 0 ≤ m := fun h1 => by have := hm.1 h1; rw [h] at this; cases this
      simp [this]
    | false => simp [hm.2 h])
  clear hm hme
  go_enter Tryz.func298, Tryz.ntmps298
  go_wp2_with fail
  refine HC.out.mono ?_
  rintro e w' ⟨rfl, rfl⟩
  go_wp2_with fail
  go_ret
  exact ⟨by rw [← HM.out]; rfl, rfl⟩
theorem run_make_bool (n : Nat) (hn : n ≤ 140737488355328) (w : World) :
    (Instr.makeSlice 31 (.int .i64 (n : Int)) (.int .i64 (n : Int))).run Tryz.prog w = .ok (.slice (some ⟨w.heap.size, 0, none⟩) n n) (w.alloc (.cells (madeCells #[.bool false] n) 4)) := by
  obtain ⟨i, hi, hz0, hz1, hz2⟩ := info_parts info_bool
  have hr := run_make (P := Tryz.prog) w 31 4 i _ Tryz.underlying31 hi hz0 .i64 .i64 n n (by omega) (by omega) (by rw [hz2]; omega) (by omega)
  rw [hz1] at hr
  simpa [Value.cells] using hr
theorem made_bl (n : Nat) : madeCells #[Value.bool false] n = (bl (fun _ => false) n).toArray := by
  apply Array.ext'
  rw [toList_madeCells_one]
  apply List.ext_getElem?
  intro j
  by_cases hj : j < n
  · rw [bl_at _ hj, List.getElem?_replicate, if_pos hj]
  · rw [List.getElem?_eq_none (by simp; omega), List.getElem?_eq_none (by rw [bl_length]; omega)]
theorem whE_five {L : List Nat} {c k a : Nat} (h : L[k]? = some a) (hc : c ≤ a) : whE L c = 5 := by
  unfold whE
  rw [if_pos]
  rw [List.any_eq_true]
  exact ⟨a, List.mem_of_getElem? h, by simpa using hc⟩
theorem whE_else {L : List Nat} {c : Nat} (h : ∀ a ∈ L, a < c) : whE L c = if (List.range c).all (fun i => L.contains i) = true then 0 else 4 := by
  unfold whE
  rw [if_neg]
  intro h1
  rw [List.any_eq_true] at h1
  obtain ⟨a, ha, hc⟩ := h1
  have := h a ha
  simp at hc; omega
set_option maxHeartbeats 1000000 in
theorem whole_any (A : Option Addr) (n c : Nat) (L : List Nat) (cnt : Nat) (w : World) (hr : Reads w w.heap.size 1 A n (us L)) (hn : n ≤ 65536) (hc : cnt ≤ 65536) :
    Calls Tryz.prog 283 #[.slice A n c, .int .i64 (cnt : Int)] w fun e w' => e = .returned (.int .i64 (whE L cnt : Int)) ∧ Below w.heap.size w w' := by
  have e1 : L.length = n := by have := hr.1; rw [us_length] at this; omega
  have E1 := Lib.hid e1
  have hmk := fun W => run_make_bool cnt (by omega) W
  rw [made_bl] at hmk
  have hF0 := Blk.new w 4 (bl (fun _ => false) cnt).toArray
  have hb0 : Below w.heap.size w (w.alloc (.cells (bl (fun _ => false) cnt).toArray 4)) := (Below.refl _ _).alloc (Nat.le_refl _) _
  have hw1 : IntKind.u64.wrap (cnt : Int) = (cnt : Int) := IntWalk.u64_in _ (by omega)
  clear e1
  go_enter Tryz.func283, Tryz.ntmps283
  go_wp2_with fail
  clear hmk
  go_loopw [12] (fun s12 wr => ∃ k : Nat, k ≤ n ∧ s12 = .int .i64 (k : Int) ∧ Blk wr w.heap.size 4 (bl (fun j => (L.take k).contains j) cnt).toArray ∧ Below w.heap.size w wr ∧ Hid (∀ a ∈ L.take k, a < cnt)) (fun i _ => n - (intOf i).toNat)
  case atStart => exact ⟨0, Nat.zero_le _, rfl, hF0, hb0, Lib.hid (by simp)⟩
  case round =>
    clear hF0 hb0
    obtain ⟨k, hk, rfl, hF, hb, hall⟩ := hrel
    by_cases hlt : k < n
    · obtain ⟨ad, u, rfl, _, hu, hc0⟩ := (hr.below hb).at_ hlt
      obtain ⟨a, ha, rfl⟩ := us_at hu
      by_cases hca : cnt ≤ a
      · have H5 := Lib.hid (whE_five ha hca)
        clear hu ha
        go_wp2_with fail
        go_ret
        exact ⟨by rw [H5.out]; rfl, hb⟩
      · have hac : a < cnt := by omega
        have hcell := hF.cell a
        rw [List.getElem?_toArray, bl_at _ hac] at hcell
        have hf := hF.frozen a
        have HA := Lib.hid ha
        have HALL : Hid (∀ x ∈ L.take (k + 1), x < cnt) := Lib.hid fun x hx => by
          rw [take_snoc ha] at hx
          rcases List.mem_append.1 hx with h | h
          · exact hall.out x h
          · rw [List.mem_singleton] at h; omega
        clear hu ha
        generalize hq : (List.take k L).contains a = q at hcell
        clear hq
        go_wp2_with fail
        go_round
        case rel =>
          refine ⟨k + 1, by omega, by go_num, ?_, hb.setCell (Nat.le_refl _) _, HALL⟩
          have h1 := hF.set_ a (.bool true)
          rw [List.setIfInBounds_toArray, bl_set _ hac] at h1
          have e : (fun j => (L.take (k + 1)).contains j) = fun j => decide (j = a) || (L.take k).contains j := by
            funext j
            rw [take_snoc HA.out]
            simp [Bool.or_comm]
          rw [e]
          exact h1
        case measure => simp [intOf]; omega
    · obtain rfl : k = n := by omega
      rw [List.take_of_length_le (by rw [E1.out]; exact Nat.le_refl _)] at hF hall
      have hR : Reads wr wr.heap.size 1 (some ⟨w.heap.size, 0, none⟩) cnt (bl (fun j => L.contains j) cnt) := reads_blk hF _ cnt _ hF.lt (bl_length _ _) (by rw [List.take_of_length_le (by simp [bl_length])])
      have HW := Lib.hid (whE_else hall.out)
      have HC := Lib.hid (containsB_any (some ⟨w.heap.size, 0, none⟩) cnt cnt (fun j => L.contains j) wr hR (by omega))
      generalize hq : (List.range cnt).all (fun j => L.contains j) = q at HW HC
      clear hF hall hR hq
      go_wp2_with fail
      refine HC.out.mono ?_
      rintro e w' ⟨rfl, rfl⟩
      cases q with
      | true =>
        go_wp2_with fail
        go_ret
        exact ⟨by rw [HW.out]; rfl, hb⟩
      | false =>
        go_wp2_with fail
        go_ret
        exact ⟨by rw [HW.out]; rfl, hb⟩
end Go.Proofs.YticanhidahkhfaaGreatDoor
namespace Go.Proofs.YticanhidahkhfaaGreatDoor
open Go.RowKit
set_option linter.unusedVariables false
set_option linter.unusedSimpArgs false
set_option maxRecDepth 100000
theorem fix1_small (b : List Nat) (at_ : Nat) (x : Option (Int × Nat)) (hb : ∀ v ∈ b, v < 256) : (fixS b at_ x 1).1 < 256 := by
  cases x with
  | some y => show (0 : Nat) < 256; omega
  | none =>
    cases h : b[at_]? with
    | none =>
      have := List.getElem?_eq_none_iff.1 h
      unfold fixS
      simp only
      rw [if_neg (by omega), if_pos (by omega)]
      show (0 : Nat) < 256
      omega
    | some v => rw [fix1_byte b at_ v h]; exact hb v (List.mem_of_getElem? h)
theorem wd_one (a : Nat) : wd [a] = blen a := by simp [wd]
set_option maxHeartbeats 1000000 in
theorem places_any {w : World} {g : Nat} {b : List Nat} {at_ : Nat} {x : Option (Int × Nat)} (n c : Nat) (h : RdS w g b at_ x) (hn : n ≤ 65536) (hc : c ≤ 65536) :
    Calls Tryz.prog 267 #[.pointer (some ⟨g, 0, none⟩), .int .i64 (n : Int), .int .i64 (c : Int)] w
      fun e w' => ∃ v, e = .returned v ∧ w'.ownsRow w.heap.size 109 1 v (rpS b at_ x n c).1.length (us (rpS b at_ x n c).1) ∧ RdTo w g b (rpS b at_ x n c).2.1 (rpS b at_ x n c).2.2 w' := by
  have hby := h.byte
  have hpl := h.place.2
  have hgw := h.lt
  obtain ⟨K, hK⟩ : ∃ K, K = blen (c - 1) := ⟨_, rfl⟩
  have hK16 : K ≤ 17 := by rw [hK, blen_le]; omega
  obtain ⟨w1, hw1⟩ : ∃ w1, w1 = w.alloc (.cells #[.int .u64 ((c - 1 : Nat) : Int)] 109) := ⟨_, rfl⟩
  have hb1 : Below w.heap.size w w1 := by rw [hw1]; exact (Below.refl _ _).alloc (Nat.le_refl _) _
  have hwi : Calls Tryz.prog 211 #[.slice (some ⟨w.heap.size, 0, none⟩) 1 1] w1 fun e w' => e = .returned (.int .i64 (K : Int)) ∧ w1 = w' := by
    have := width_any (some ⟨w.heap.size, 0, none⟩) 1 1 [c - 1] w1 (by rw [hw1]; exact reads_blk (Blk.new w _ _) _ 1 _ (by simp) rfl rfl) (by intro a ha; simp at ha; omega) (by omega)
    rwa [wd_one, ← hK] at this
  have h1 := h.next hb1
  have hfs := fix1_small b at_ x hby
  have hf := nfix_is 1 h1
  have hR : rpS b at_ x n c = rpS b at_ x n c := rfl
  unfold rpS at hR ⊢
  clear hR
  rw [← hK]
  rcases hF : fixS b at_ x 1 with ⟨v, a1, x1⟩
  rw [hF] at hf hfs
  simp only at hf hfs ⊢
  obtain ⟨x2, hx2⟩ : ∃ x2, x2 = (if v = K then x1 else failS a1 x1 4) := ⟨_, rfl⟩
  rw [← hx2]
  have htb := takeS_byte b a1 x2 ((b.length : Int) - a1) hby
  have ht := fun (w1 : World) (h1 : RdS w1 g b a1 x2) => take_is ((b.length : Int) - a1) h1
  rcases hT : takeS b a1 x2 ((b.length : Int) - a1) with ⟨t, a2, x3⟩
  rw [hT] at htb ht
  simp only at htb ht ⊢
  obtain ⟨L, hL⟩ : ∃ L, L = unpackS t (n : Int) (K : Int) := ⟨_, rfl⟩
  obtain ⟨E, hE⟩ : ∃ E, E = unpackE t (n : Int) (K : Int) := ⟨_, rfl⟩
  have hu := fun (A : Option Addr) (m c : Nat) (w1 : World) (h1 : Reads w1 w1.heap.size 1 A m (bs t)) => unpack_any A m c t (n : Int) (K : Int) w1 h1 htb.1 (by have := h1.1; rw [bs_length] at this; omega) (by omega) (by omega)
  have hLl := unpackS_all t (n : Int) (K : Int)
  rw [← hL] at hLl hu ⊢
  rw [← hE] at hu ⊢
  obtain ⟨W, hW⟩ : ∃ W, W = whE L c := ⟨_, rfl⟩
  have hwh := fun (A : Option Addr) (m cc : Nat) (w1 : World) (h1 : Reads w1 w1.heap.size 1 A m (us L)) (hm : m ≤ 65536) => whole_any A m cc L c w1 h1 hm hc
  rw [← hW] at hwh ⊢
  have hLL := hLl.2
  have HT := Lib.hid ht; have HU := Lib.hid hu; have HW := Lib.hid hwi; have HX := Lib.hid hx2; have HF := Lib.hid hf; have HH := Lib.hid hwh; have HW1 := Lib.hid hw1
  have hw1s := hb1.size
  have hG1 : w.grownBy w1 (some g) := by rw [hw1]; exact only_alloc (World.grownBy.refl w _) _
  clear ht hu hwi hx2 hf hF hT hL hE hK hLl htb hwh hW hw1 h1 hpl
  have hv2 : (v : Int) ≤ 255 := by omega
  have hKw : IntKind.u64.wrap (K : Int) = (K : Int) := IntWalk.u64_in _ (by omega)
  by_cases hc0 : c = 0
  case' pos =>
    subst hc0
    have hw := HW1.out
    rw [show ((0 - 1 : Nat) : Int) = 0 from rfl] at hw
    go_enter Tryz.func267, Tryz.ntmps267
    go_wp2_with fail
    rw [show max (-1 : Int) 0 = 0 from rfl, ← hw]
  case' neg =>
    have hcc : (c : Int) - 1 = ((c - 1 : Nat) : Int) := by omega
    have hw := HW1.out
    go_enter Tryz.func267, Tryz.ntmps267
    go_wp2_with fail
    rw [← hw]
  all_goals
    clear hw
    refine HW.out.mono ?_
    rintro e w' ⟨rfl, rfl⟩
    go_wp2_with fail
    refine HF.out.mono ?_
    rintro e w2 ⟨rfl, hS2, hG2⟩
    have hG02 := only_trans hG1 hG2
    clear hG2
    by_cases hvK : v = K
    case' pos =>
      have q1 : ((v : Int) != (K : Int)) = false := by simp; omega
      have hx := HX.out
      rw [if_pos hvK] at hx
      rw [← hx] at hS2
      clear hx hvK
      go_wp2_with fail
    case' neg =>
      have q1 : ((v : Int) != (K : Int)) = true := by simp; omega
      have hx := HX.out
      rw [if_neg hvK] at hx
      clear hvK
      go_wp2_with fail
      refine (fail_is 4 hS2).mono ?_
      rintro e w2' ⟨rfl, hS2', hG2'⟩
      rw [← hx] at hS2'
      have hG02' := only_trans hG02 hG2'
      clear hS2 hG02 hG2' hx
      have hS2 := hS2'
      have hG02 := hG02'
      clear hS2' hG02'
      go_wp2_with fail
    all_goals
      refine (left_is hS2).mono ?_
      rintro e w3 ⟨rfl, hd3⟩
      have hS3 := hS2.next (hd3.below (Below.refl _ _))
      have hG03 := only_trans hG02 (only_below (World.grownBy.refl _ _) (hd3.below (Below.refl _ _)))
      go_wp2_with fail
      refine (HT.out w3 hS3).mono ?_
      rintro e w4 ⟨⟨A4, m4, c4, rfl, r4⟩, hS4, hG4⟩
      have hG04 := only_trans hG03 hG4
      go_wp2_with fail
      refine (HU.out A4 m4 c4 w4 r4).mono ?_
      rintro e w5 ⟨v5, rfl, hown5, hb5⟩
      obtain ⟨A5, c5, rfl, _, _, r5⟩ := own_slice hown5
      have hS5 := hS4.next hb5
      have hG05 := only_below hG04 hb5
      have hlt := hS4.lt
      have hz4 := hG04.size
      clear hS2 hS3 hS4 hG02 hG03 hG4 hG04 hb5 r4 r5 hd3
      go_wp2_with fail
      refine (fail_is (E : Int) hS5).mono ?_
      rintro e w6 ⟨rfl, hS6, hG6⟩
      have hown6 := own_before hown5 hG6 (fun r hr => by injection hr with hr; omega)
      have r6 := Reads.of_own hown6
      have hG06 := only_trans hG05 hG6
      clear hS5 hG05 hown5 hG6
      go_wp2_with fail
      refine (HH.out A5 L.length c5 w6 r6 hLL).mono ?_
      rintro e w7 ⟨rfl, hb7⟩
      have hS7 := hS6.next hb7
      have hG07 := only_below hG06 hb7
      have hown7 := own_below hown6 hb7
      clear hS6 hG06 hown6 r6 hb7
      go_wp2_with fail
      refine (fail_is (W : Int) hS7).mono ?_
      rintro e w8 ⟨rfl, hS8, hG8⟩
      have hown8 := own_before hown7 hG8 (fun r hr => by injection hr with hr; omega)
      go_wp2_with fail
      go_ret
      exact ⟨_, rfl, own_base hown8 hz4, hS8, only_trans hG07 hG8⟩
end Go.Proofs.YticanhidahkhfaaGreatDoor
