/- Texts joined: Miss DcRead DcRead2. -/
import Derived.Test.YthlfplljbbnaoaaGreatDoorJ1
import Derived.Test.YthlfplljbbnaoaaGreatDoorJ24
import Derived.Test.YthlfplljbbnaoaaGreatDoorJ7
import Derived.Test.YthlfplljbbnaoaaGreatDoorJ28
/- Plain facts: the first place at which something doesn't hold, or -1. No program. -/
namespace Go.Proofs.YthlfplljbbnaoaaGreatDoor
open Go.RowKit
set_option linter.unusedVariables false
set_option linter.unusedSimpArgs false

/-- The first place below 'n' at which it doesn't hold, or -1. -/
def missI (f : Nat → Bool) (n : Nat) : Int := match (List.range n).find? (fun j => !f j) with | some j => (j : Int) | none => -1
theorem miss_all {f : Nat → Bool} {n : Nat} : (0 ≤ missI f n) ↔ (List.range n).all f = false := by
  unfold missI
  cases h : (List.range n).find? (fun j => !f j) with
  | none =>
    have h1 := List.find?_eq_none.1 h
    simp only
    constructor
    · intro h2; omega
    · intro h2
      have h3 : (List.range n).all f = true := List.all_eq_true.2 fun x hx => by have := h1 x hx; simpa using this
      rw [h3] at h2; cases h2
  | some j =>
    have h1 := List.find?_some h
    have h2 := List.mem_of_find?_eq_some h
    simp only
    constructor
    · intro _
      refine Bool.eq_false_iff.2 fun h3 => ?_
      have := List.all_eq_true.1 h3 j h2
      rw [this] at h1; cases h1
    · intro _; omega
theorem find_step {f : Nat → Bool} {n : Nat} {k : Nat} (hk : k ≤ n) (h : ∀ j, j < k → f j = true) : (k < n → f k = false → missI f n = (k : Int)) ∧ (k = n → missI f n = -1) := by
  constructor
  · intro hlt hf
    unfold missI
    have e : List.range n = List.range k ++ (List.range (n - k)).map (k + ·) := by
      rw [← List.range_add]; congr 1; omega
    have e1 : (List.range k).find? (fun j => !f j) = none := List.find?_eq_none.2 fun x hx => by
      have := h x (by simpa using hx)
      simp [this]
    have e2 : ((List.range (n - k)).map (k + ·)).find? (fun j => !f j) = some k := by
      obtain ⟨m, hm⟩ : ∃ m, n - k = m + 1 := ⟨n - k - 1, by omega⟩
      rw [hm, List.range_succ_eq_map, List.map_cons, List.find?_cons_of_pos (by simp [hf])]
      rfl
    rw [e, List.find?_append, e1, e2]
    rfl
  · intro he
    subst he
    unfold missI
    rw [List.find?_eq_none.2 fun x hx => by have := h x (by simpa using hx); simp [this]]
end Go.Proofs.YthlfplljbbnaoaaGreatDoor

/- Plain facts on reading the form by a list: the reader behind each part, the list, the places, the first error. -/
namespace Go.Proofs.YthlfplljbbnaoaaGreatDoor
open Go.RowKit
set_option linter.unusedVariables false
set_option linter.unusedSimpArgs false
set_option maxRecDepth 100000

theorem wr64 (n : Int) : wrap64 n = (n + 9223372036854775808) % 18446744073709551616 - 9223372036854775808 := by unfold wrap64; rfl
theorem wr64_in (n : Int) : In64 (wrap64 n) := by rw [wr64]; unfold In64; omega
theorem wr64_id {n : Int} (h : In64 n) : wrap64 n = n := by unfold In64 at h; rw [wr64]; omega
/-- The reader's place and error, and the last number, behind so many numbers of the list. -/
def ldS (b : List Nat) : Nat → (Nat × Option (Int × Nat)) × Int
  | 0 => (vst b 1, 0)
  | k + 1 =>
    let v := varS b (ldS b k).1.1 (ldS b k).1.2
    if k = 0 then (v.2, zagI (v.1 : Int))
    else (if wrap64 ((ldS b k).2 + v.1 + 1) ≤ (ldS b k).2 then (v.2.1, failS v.2.1 v.2.2 4) else v.2, wrap64 ((ldS b k).2 + v.1 + 1))
/-- The numbers of the list. -/
def ldL (b : List Nat) (k : Nat) : List Int := (List.range k).map fun i => (ldS b (i + 1)).2
theorem ldL_length (b : List Nat) (k : Nat) : (ldL b k).length = k := by simp [ldL]
theorem ldL_succ (b : List Nat) (k : Nat) : ldL b (k + 1) = ldL b k ++ [(ldS b (k + 1)).2] := by simp [ldL, List.range_succ]
theorem ldL_at (b : List Nat) (n k : Nat) (h : k < n) : (ldL b n)[k]? = some (ldS b (k + 1)).2 := by simp [ldL, h]
theorem ldL_take (b : List Nat) (n k : Nat) (h : k ≤ n) : (ldL b n).take k = ldL b k := by
  unfold ldL
  rw [← List.map_take, List.take_range, Nat.min_eq_left h]
theorem varS_some (b : List Nat) (at_ : Nat) (y : Int × Nat) : varS b at_ (some y) = (0, at_, some y) := rfl
theorem ldS_some {b : List Nat} {k : Nat} {y : Int × Nat} (h : (ldS b k).1.2 = some y) : (ldS b (k + 1)).1 = (ldS b k).1 := by
  have e : ∀ a : Nat × Option (Int × Nat), a.2 = some y → varS b a.1 a.2 = (0, a) := by
    rintro ⟨p, q⟩ h
    simp only at h
    subst h
    rfl
  simp only [ldS]
  rw [e _ h]
  by_cases h0 : k = 0
  · rw [if_pos h0]
  · rw [if_neg h0]
    simp only
    split
    · rw [h]
      show ((ldS b k).1.1, some y) = _
      rw [← h]
    · rfl
theorem ldS_stop {b : List Nat} {k : Nat} {y : Int × Nat} (h : (ldS b k).1.2 = some y) : ∀ j, (ldS b (k + j)).1 = (ldS b k).1
  | 0 => rfl
  | j + 1 => by
    have := ldS_stop h j
    rw [← Nat.add_assoc, ldS_some (y := y) (by rw [this]; exact h), this]
theorem ldS_in {b : List Nat} (hb : ∀ x ∈ b, x < 256) (k : Nat) : In64 (ldS b k).2 := by
  cases k with
  | zero => simp [ldS, In64]
  | succ k =>
    simp only [ldS]
    by_cases h0 : k = 0
    · rw [if_pos h0]
      simp only
      refine zagI_in ?_
      subst h0
      exact vv_lt hb 1
    · rw [if_neg h0]; exact wr64_in _
theorem ldL_in {b : List Nat} (hb : ∀ x ∈ b, x < 256) (k : Nat) : ∀ z ∈ ldL b k, In64 z := by
  intro z hz
  obtain ⟨i, _, rfl⟩ := List.mem_map.1 hz
  exact ldS_in hb _
theorem varS_lt {b : List Nat} (hb : ∀ x ∈ b, x < 256) (at_ : Nat) (x : Option (Int × Nat)) : (varS b at_ x).1 < 18446744073709551616 := by
  cases x with
  | some y => show 0 < _; omega
  | none =>
    unfold varS
    simp only
    split
    · rename_i h1
      rcases hl : lookF 0 0 (b.drop at_) with ⟨v, m, e⟩
      rw [hl] at h1
      simp only at h1
      subst h1
      exact (look_is (fun x h => hb x (List.mem_of_mem_drop h)) hl).2
    · show 0 < _; omega
theorem ldS_ok (b : List Nat) (k : Nat) : ∀ y, (ldS b k).1.2 = some y → y.1 ≠ 0 := by
  induction k with
  | zero => intro y h; exact vst_ok b 1 y h
  | succ k ih =>
    intro y h
    cases hx : (ldS b k).1.2 with
    | some z => rw [ldS_some hx] at h; exact ih y h
    | none =>
      simp only [ldS] at h
      rw [hx] at h
      have hv : ∀ y, (varS b (ldS b k).1.1 none).2.2 = some y → y.1 ≠ 0 := by
        intro y h
        unfold varS at h
        simp only at h
        split at h
        · cases h
        · injection h with h
          subst h
          show ((lookF 0 0 (b.drop (ldS b k).1.1)).2.2 : Int) ≠ 0
          omega
      by_cases h0 : k = 0
      · rw [if_pos h0] at h; exact hv y h
      · rw [if_neg h0] at h
        simp only at h
        split at h
        · cases hq : (varS b (ldS b k).1.1 none).2.2 with
          | some z =>
            rw [hq] at h
            simp only [failS] at h
            injection h with h
            subst h
            exact hv _ hq
          | none =>
            rw [hq] at h
            simp only [failS] at h
            rw [if_neg (by omega)] at h
            injection h with h
            subst h
            simp
        · exact hv y h
/-- Where nothing is wrong: the reader stands behind so many short numbers, and each number is above the one ahead. -/
theorem ldS_none {b : List Nat} (hb : ∀ x ∈ b, x < 256) (k : Nat) : (ldS b (k + 1)).1.2 = none →
    (ldS b k).1.2 = none ∧ (ldS b (k + 1)).1 = vst b (k + 2) ∧ (ldS b (k + 1)).2 = (if k = 0 then zagI (vv b 1 : Int) else (ldS b k).2 + vv b (k + 1) + 1) ∧ (k ≠ 0 → (ldS b k).2 < (ldS b (k + 1)).2) := by
  induction k with
  | zero =>
    intro h
    refine ⟨?_, rfl, rfl, fun h => absurd rfl h⟩
    cases hx : (ldS b 0).1.2 with
    | some y => rw [ldS_some hx, hx] at h; cases h
    | none => rfl
  | succ k ih =>
    intro h
    have h0 : (ldS b (k + 1)).1.2 = none := by
      cases hx : (ldS b (k + 1)).1.2 with
      | some y => rw [ldS_some hx, hx] at h; cases h
      | none => rfl
    obtain ⟨_, e, _, _⟩ := ih h0
    refine ⟨h0, ?_⟩
    have hin := ldS_in hb (k + 1)
    have hv := vv_lt hb (k + 2)
    have h1 : ldS b (k + 2) = (if wrap64 ((ldS b (k + 1)).2 + vv b (k + 2) + 1) ≤ (ldS b (k + 1)).2 then ((vst b (k + 3)).1, failS (vst b (k + 3)).1 (vst b (k + 3)).2 4) else vst b (k + 3), wrap64 ((ldS b (k + 1)).2 + vv b (k + 2) + 1)) := by
      conv => lhs; unfold ldS
      simp only
      rw [if_neg (by omega), e]
      rfl
    rw [h1] at h ⊢
    simp only at h ⊢
    rw [if_neg (show ¬ k + 1 = 0 by omega)]
    by_cases hle : wrap64 ((ldS b (k + 1)).2 + vv b (k + 2) + 1) ≤ (ldS b (k + 1)).2
    · rw [if_pos hle] at h
      simp only at h
      exfalso
      unfold failS at h
      cases hq : (vst b (k + 3)).2 with
      | some y => rw [hq] at h; cases h
      | none => rw [hq] at h; simp only at h; rw [if_neg (by omega)] at h; cases h
    · rw [if_neg hle]
      refine ⟨rfl, ?_, fun _ => by omega⟩
      show wrap64 ((ldS b (k + 1)).2 + vv b (k + 2) + 1) = (ldS b (k + 1)).2 + vv b (k + 2) + 1
      rw [wr64] at hle ⊢
      unfold In64 at hin
      omega
theorem ldS_before {b : List Nat} {c k : Nat} (h : (ldS b c).1.2 = none) (hk : k ≤ c) : (ldS b k).1.2 = none := by
  cases hx : (ldS b k).1.2 with
  | none => rfl
  | some y =>
    have := ldS_stop hx (c - k)
    rw [show k + (c - k) = c by omega] at this
    rw [this, hx] at h; cases h
theorem ldS_place {b : List Nat} (hb : ∀ x ∈ b, x < 256) {k : Nat} (h : (ldS b k).1.2 = none) : (ldS b k).1 = vst b (k + 1) := by
  cases k with
  | zero => rfl
  | succ k => exact (ldS_none hb k h).2.1
theorem ldL_rise {b : List Nat} (hb : ∀ x ∈ b, x < 256) (c : Nat) (h : (ldS b c).1.2 = none) : Rise (ldL b c) := by
  have key : ∀ k, k ≤ c → Rise (ldL b k) ∧ ∀ z ∈ ldL b k, z ≤ (ldS b k).2 := by
    intro k
    induction k with
    | zero => intro _; exact ⟨by simp [ldL, Rise], by simp [ldL]⟩
    | succ k ih =>
      intro hk
      obtain ⟨i1, i2⟩ := ih (by omega)
      obtain ⟨_, _, _, e⟩ := ldS_none hb k (ldS_before h hk)
      rw [ldL_succ]
      refine ⟨?_, ?_⟩
      · unfold Rise
        rw [List.pairwise_append]
        refine ⟨i1, by simp, ?_⟩
        intro x hx y hy
        rw [List.mem_singleton] at hy
        subst hy
        by_cases h0 : k = 0
        · subst h0; simp [ldL] at hx
        · have := i2 x hx; have := e h0; omega
      · intro z hz
        rcases List.mem_append.1 hz with hz | hz
        · by_cases h0 : k = 0
          · subst h0; simp [ldL] at hz
          · have := i2 z hz; have := e h0; omega
        · rw [List.mem_singleton] at hz; omega
  exact (key c (Nat.le_refl _)).1
/-- The short numbers that were read are those of the list. -/
theorem ldL_head {b : List Nat} (hb : ∀ x ∈ b, x < 256) (c : Nat) (h : (ldS b c).1.2 = none) : ∀ k, k < c → (htD (ldL b c))[k]? = some (vv b (k + 1)) := by
  intro k hk
  obtain ⟨_, _, e1, _⟩ := ldS_none hb k (ldS_before h (by omega))
  have hat := ldL_at b c k hk
  cases k with
  | zero =>
    rw [htD_zero hat, e1, if_pos rfl, zg_zagI]
  | succ k =>
    have hat0 := ldL_at b c k (by omega)
    rw [htD_succ hat0 hat, e1, if_neg (by omega)]
    congr 1
    omega
end Go.Proofs.YthlfplljbbnaoaaGreatDoor

/- Plain facts on reading the form by a list: the whole of it, its first error, the numbers. -/
namespace Go.Proofs.YthlfplljbbnaoaaGreatDoor
open Go.RowKit
set_option linter.unusedVariables false
set_option linter.unusedSimpArgs false
set_option maxRecDepth 100000

/-- What is wrong with places in a list of so many: one isn't in it, one of it is at no place. -/
def whE (L : List Nat) (c : Nat) : Nat := if L.any (fun a => decide (c ≤ a)) = true then 5 else if (List.range c).all (fun i => L.contains i) = true then 0 else 4
theorem whE_zero {L : List Nat} {c : Nat} (h : whE L c = 0) : (∀ a ∈ L, a < c) ∧ ∀ i, i < c → i ∈ L := by
  unfold whE at h
  by_cases h1 : L.any (fun a => decide (c ≤ a)) = true
  · rw [if_pos h1] at h; omega
  · rw [if_neg h1] at h
    by_cases h2 : (List.range c).all (fun i => L.contains i) = true
    · refine ⟨fun a ha => ?_, fun i hi => ?_⟩
      · have h3 : L.any (fun a => decide (c ≤ a)) = false := Bool.eq_false_iff.2 h1
        have h4 := List.any_eq_false.1 h3 a ha
        simp at h4; exact h4
      · have := List.all_eq_true.1 h2 i (by simpa using hi)
        simpa using this
    · rw [if_neg h2] at h; omega
theorem whE_of {L : List Nat} {c : Nat} (h1 : ∀ a ∈ L, a < c) (h2 : ∀ i, i < c → i ∈ L) : whE L c = 0 := by
  unfold whE
  rw [if_neg, if_pos]
  · rw [List.all_eq_true]; intro i hi; simpa using h2 i (by simpa using hi)
  · intro h
    rw [List.any_eq_true] at h
    obtain ⟨a, ha, hc⟩ := h
    have := h1 a ha
    simp at hc; omega
theorem whE_lt (L : List Nat) (c : Nat) : whE L c ≤ 5 := by
  unfold whE
  split
  · omega
  · split <;> omega
/-- What is read of the list, and the reader behind it. -/
def rdl (b : List Nat) (n : Nat) : (Nat × Option (Int × Nat)) × List Int :=
  if n < vv b 0 then (((vst b 1).1, failS (vst b 1).1 (vst b 1).2 5), []) else ((ldS b (vv b 0)).1, ldL b (vv b 0))
/-- What is read of the places, and the reader behind them. -/
def rpS (b : List Nat) (at_ : Nat) (x : Option (Int × Nat)) (n c : Nat) : List Nat × Nat × Option (Int × Nat) :=
  let f := fixS b at_ x 1
  let x2 := if f.1 = blen (c - 1) then f.2.2 else failS f.2.1 f.2.2 4
  let t := takeS b f.2.1 x2 ((b.length : Int) - f.2.1)
  let x4 := failS t.2.1 t.2.2 (unpackE t.1 (n : Int) (blen (c - 1) : Int))
  (unpackS t.1 (n : Int) (blen (c - 1) : Int), t.2.1, failS t.2.1 x4 (whE (unpackS t.1 (n : Int) (blen (c - 1) : Int)) c))
def dcS (b : List Nat) (n : Nat) : List Nat × Nat × Option (Int × Nat) := rpS b (rdl b n).1.1 (rdl b n).1.2 n (rdl b n).2.length
/-- The error's number of reading; the numbers. -/
def dcE (b : List Nat) (k : Int) : Int := if k < 0 ∨ 65536 < k then 1 else (endS b (dcS b k.toNat).2.1 (dcS b k.toNat).2.2).1
def dcG (b : List Nat) (k : Int) : List Int := if dcE b k = 0 then (dcS b k.toNat).1.map (fun a => ((rdl b k.toNat).2[a]?).getD 0) else []
theorem dcE_bad {b : List Nat} {k : Int} (h : k < 0 ∨ 65536 < k) : dcE b k = 1 ∧ dcG b k = [] := by
  have hE : dcE b k = 1 := by unfold dcE; rw [if_pos h]
  exact ⟨hE, by unfold dcG; rw [if_neg (by omega)]⟩
theorem unpackS_all (t : List Nat) (n w : Int) : (∀ a ∈ unpackS t n w, a < 18446744073709551616) ∧ (unpackS t n w).length ≤ 65536 := by
  unfold unpackS
  by_cases h : unpackE t n w = 0
  · obtain ⟨h1, h2, h3, h4, _, _⟩ := unpackE_0 h
    rw [if_pos h]
    refine ⟨fun a ha => Nat.lt_of_lt_of_le (dg_lt _ _ _ a ha) (Nat.pow_le_pow_right (j := 64) (by omega) (by omega)), ?_⟩
    rw [dg_length]; omega
  · rw [if_neg h]; simp
theorem dcG_length (b : List Nat) (k : Int) : (dcG b k).length ≤ 65536 := by
  unfold dcG
  split
  · rw [List.length_map]; exact (unpackS_all _ _ _).2
  · simp
theorem rp_some (b : List Nat) (at_ : Nat) (y : Int × Nat) (n c : Nat) : (rpS b at_ (some y) n c).2 = (at_, some y) := by
  unfold rpS fixS takeS failS
  simp
/-- Behind the list: the first error. -/
def rpE (b : List Nat) (at_ n c : Nat) : Int :=
  match b[at_]? with
  | none => 2
  | some v => if v = blen (c - 1) then (if unpackE (b.drop (at_ + 1)) (n : Int) (v : Int) = 0 then (whE (unpackS (b.drop (at_ + 1)) (n : Int) (v : Int)) c : Int) else (unpackE (b.drop (at_ + 1)) (n : Int) (v : Int) : Int)) else 4
theorem fix1_byte (b : List Nat) (at_ v : Nat) (h : b[at_]? = some v) : fixS b at_ none 1 = (v, at_ + 1, none) := by
  obtain ⟨hl, rfl⟩ := List.getElem?_eq_some_iff.1 h
  unfold fixS
  simp only
  rw [if_neg (by omega), if_neg (by omega)]
  have e : (b.drop at_).take (1 : Int).toNat = [b[at_]] := by
    rw [List.drop_eq_getElem_cons hl]; rfl
  rw [e]
  rfl
theorem fix1_short (b : List Nat) (at_ : Nat) (h : at_ = b.length) : fixS b at_ none 1 = (0, at_, some (2, at_)) := by
  subst h
  unfold fixS
  simp only
  rw [if_neg (by omega), if_pos (by omega)]
theorem takeS_some (b : List Nat) (at_ : Nat) (y : Int × Nat) (n : Int) : takeS b at_ (some y) n = ([], at_, some y) := rfl
theorem failS_some (at_ : Nat) (y : Int × Nat) (k : Int) : failS at_ (some y) k = some y := rfl
theorem failS_none (at_ : Nat) (k : Int) (h : k ≠ 0) : failS at_ none k = some (k, at_) := by simp only [failS]; rw [if_neg h]
theorem take_left (b : List Nat) (at_ : Nat) (h : at_ ≤ b.length) : takeS b at_ none ((b.length : Int) - (at_ : Nat)) = (b.drop at_, b.length, none) := by
  unfold takeS
  simp only
  rw [if_neg (by omega), if_neg (by omega), List.take_of_length_le (by rw [List.length_drop]; omega)]
  congr 2
  omega
theorem rp_rest (b : List Nat) (at_ n c : Nat) (h : b[at_]? = some (blen (c - 1))) :
    rpS b at_ none n c = (unpackS (b.drop (at_ + 1)) (n : Int) (blen (c - 1) : Int), b.length, failS b.length (failS b.length none (unpackE (b.drop (at_ + 1)) (n : Int) (blen (c - 1) : Int))) (whE (unpackS (b.drop (at_ + 1)) (n : Int) (blen (c - 1) : Int)) c)) := by
  have hl := (List.getElem?_eq_some_iff.1 h).1
  unfold rpS
  rw [fix1_byte b at_ _ h]
  simp only
  rw [if_pos trivial, take_left b (at_ + 1) (by omega)]
theorem rp_end (b : List Nat) (at_ n c : Nat) (hat : at_ ≤ b.length) : (endS b (rpS b at_ none n c).2.1 (rpS b at_ none n c).2.2).1 = rpE b at_ n c := by
  unfold rpE
  cases h : b[at_]? with
  | none =>
    have hl : at_ = b.length := by have := List.getElem?_eq_none_iff.1 h; omega
    have e : (rpS b at_ none n c).2 = (at_, some (2, at_)) := by
      unfold rpS
      rw [fix1_short b at_ hl]
      simp only
      have e2 : (if 0 = blen (c - 1) then (some ((2 : Int), at_)) else failS at_ (some ((2 : Int), at_)) 4) = some ((2 : Int), at_) := by split <;> rfl
      rw [e2, takeS_some, failS_some, failS_some]
    rw [e, endS_some _ _ _ (by simp)]
  | some v =>
    simp only
    by_cases hv : v = blen (c - 1)
    · subst hv
      rw [if_pos rfl, rp_rest b at_ n c h]
      simp only
      by_cases hE : unpackE (b.drop (at_ + 1)) (n : Int) (blen (c - 1) : Int) = 0
      · rw [if_pos hE, hE]
        have e0 : failS b.length none ((0 : Nat) : Int) = none := rfl
        rw [e0]
        by_cases hw : whE (unpackS (b.drop (at_ + 1)) (n : Int) (blen (c - 1) : Int)) c = 0
        · rw [hw, e0, endS_none, if_neg (by omega)]; rfl
        · rw [failS_none _ _ (by omega), endS_some _ _ _ (by simp; omega)]
      · rw [if_neg hE, failS_none _ _ (by omega), failS_some, endS_some _ _ _ (by simp; omega)]
    · rw [if_neg hv]
      have e : (rpS b at_ none n c).2 = (at_ + 1, some (4, at_ + 1)) := by
        unfold rpS
        rw [fix1_byte b at_ v h]
        simp only
        rw [if_neg hv, failS_none _ _ (by omega), takeS_some, failS_some, failS_some]
      rw [e, endS_some _ _ _ (by simp)]
theorem rp_take (b : List Nat) (at_ n c : Nat) (h : rpE b at_ n c = 0) :
    b[at_]? = some (blen (c - 1)) ∧ unpackE (b.drop (at_ + 1)) (n : Int) (blen (c - 1) : Int) = 0 ∧ whE (unpackS (b.drop (at_ + 1)) (n : Int) (blen (c - 1) : Int)) c = 0 ∧ (rpS b at_ none n c).1 = unpackS (b.drop (at_ + 1)) (n : Int) (blen (c - 1) : Int) := by
  unfold rpE at h
  cases hb : b[at_]? with
  | none => rw [hb] at h; simp at h
  | some v =>
    rw [hb] at h
    simp only at h
    by_cases hv : v = blen (c - 1)
    · subst hv
      rw [if_pos rfl] at h
      by_cases hE : unpackE (b.drop (at_ + 1)) (n : Int) (blen (c - 1) : Int) = 0
      · rw [if_pos hE] at h
        exact ⟨rfl, hE, by omega, by rw [rp_rest b at_ n c hb]⟩
      · rw [if_neg hE] at h; omega
    · rw [if_neg hv] at h; omega
/-! The first error, case by case. -/
theorem dcE_some {b : List Nat} {N : Nat} {y : Int × Nat} (hN : N ≤ 65536) (hy : y.1 ≠ 0) (h : (rdl b N).1.2 = some y) : dcE b (N : Int) = y.1 := by
  unfold dcE
  rw [if_neg (by omega), Int.toNat_natCast]
  unfold dcS
  rw [h, rp_some, endS_some _ _ _ hy]
theorem dcE_var {b : List Nat} {N : Nat} {y : Int × Nat} (hN : N ≤ 65536) (h : (vst b 1).2 = some y) : dcE b (N : Int) = y.1 := by
  refine dcE_some hN (vst_ok b 1 y h) ?_
  unfold rdl
  split
  · rw [h]; rfl
  · have := ldS_stop (b := b) (k := 0) (y := y) h (vv b 0)
    rw [Nat.zero_add] at this
    rw [this]; exact h
theorem dcE_cnt {b : List Nat} {N : Nat} (hN : N ≤ 65536) (h : (vst b 1).2 = none) (hc : N < vv b 0) : dcE b (N : Int) = 5 := by
  refine dcE_some (y := (5, (vst b 1).1)) hN (by simp) ?_
  unfold rdl
  rw [if_pos hc, h]; rfl
theorem dcE_list {b : List Nat} {N k : Nat} {y : Int × Nat} (hN : N ≤ 65536) (hc : ¬ N < vv b 0) (hk : k ≤ vv b 0) (h : (ldS b k).1.2 = some y) : dcE b (N : Int) = y.1 := by
  refine dcE_some hN (ldS_ok b k y h) ?_
  unfold rdl
  rw [if_neg hc]
  have := ldS_stop h (vv b 0 - k)
  rw [show k + (vv b 0 - k) = vv b 0 by omega] at this
  simp only
  rw [this]; exact h
theorem ld_place {b : List Nat} (hb : ∀ x ∈ b, x < 256) {k : Nat} (h : (ldS b k).1.2 = none) : (ldS b k).1 = ((vst b (k + 1)).1, none) ∧ (vst b (k + 1)).2 = none ∧ (vst b (k + 1)).1 ≤ b.length := by
  have e := ldS_place hb h
  rw [e] at h
  refine ⟨by rw [e, ← h], h, (put_prefix b hb _ h).1⟩
theorem dcE_rest {b : List Nat} (hb : ∀ x ∈ b, x < 256) {N : Nat} (hN : N ≤ 65536) (hc : ¬ N < vv b 0) (h : (ldS b (vv b 0)).1.2 = none) : dcE b (N : Int) = rpE b (vst b (vv b 0 + 1)).1 N (vv b 0) := by
  obtain ⟨e1, e2, e3⟩ := ld_place hb h
  unfold dcE
  rw [if_neg (by omega), Int.toNat_natCast]
  unfold dcS rdl
  rw [if_neg hc]
  simp only
  rw [e1, ldL_length]
  exact rp_end b _ N _ e3
theorem dcG_rest {b : List Nat} (hb : ∀ x ∈ b, x < 256) {N : Nat} (hN : N ≤ 65536) (hc : ¬ N < vv b 0) (h : (ldS b (vv b 0)).1.2 = none) (hE : dcE b (N : Int) = 0) :
    b[(vst b (vv b 0 + 1)).1]? = some (blen (vv b 0 - 1)) ∧ unpackE (b.drop ((vst b (vv b 0 + 1)).1 + 1)) (N : Int) (blen (vv b 0 - 1) : Int) = 0 ∧ whE (unpackS (b.drop ((vst b (vv b 0 + 1)).1 + 1)) (N : Int) (blen (vv b 0 - 1) : Int)) (vv b 0) = 0 ∧
      dcG b (N : Int) = (unpackS (b.drop ((vst b (vv b 0 + 1)).1 + 1)) (N : Int) (blen (vv b 0 - 1) : Int)).map (fun a => ((ldL b (vv b 0))[a]?).getD 0) := by
  have hE2 := hE
  rw [dcE_rest hb hN hc h] at hE2
  obtain ⟨h1, h2, h3, h4⟩ := rp_take _ _ _ _ hE2
  refine ⟨h1, h2, h3, ?_⟩
  obtain ⟨e1, e2, e3⟩ := ld_place hb h
  unfold dcG
  rw [if_pos hE, Int.toNat_natCast]
  unfold dcS rdl
  rw [if_neg hc]
  simp only
  rw [e1, ldL_length]
  simp only
  rw [h4]
/-- All went well so far. -/
theorem dcE_zero {b : List Nat} {N : Nat} (hN : N ≤ 65536) (hE : dcE b (N : Int) = 0) : (vst b 1).2 = none ∧ ¬ N < vv b 0 ∧ (ldS b (vv b 0)).1.2 = none := by
  have h1 : (vst b 1).2 = none := by
    cases h : (vst b 1).2 with
    | none => rfl
    | some y => rw [dcE_var hN h] at hE; exact absurd hE (vst_ok b 1 y h)
  have h2 : ¬ N < vv b 0 := fun h => by rw [dcE_cnt hN h1 h] at hE; omega
  refine ⟨h1, h2, ?_⟩
  cases h : (ldS b (vv b 0)).1.2 with
  | none => rfl
  | some y => rw [dcE_list hN h2 (Nat.le_refl _) h] at hE; exact absurd hE (ldS_ok b _ y h)
end Go.Proofs.YthlfplljbbnaoaaGreatDoor
