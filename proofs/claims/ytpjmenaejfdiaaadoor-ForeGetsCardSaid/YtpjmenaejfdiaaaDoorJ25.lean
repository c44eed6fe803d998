/- Texts joined: DlRead FoFitB. -/
import Derived.Test.YtpjmenaejfdiaaaDoorPlRead
import Derived.Test.YtpjmenaejfdiaaaDoorDlPlain
import Derived.Test.YtpjmenaejfdiaaaDoorJ24
import Derived.Test.YtpjmenaejfdiaaaDoorJ11
/- Plain facts on reading the form of steps: the reader behind each part, the numbers, the first error. -/
namespace Go.Proofs.YtpjmenaejfdiaaaDoor
open Go.RowKit
set_option linter.unusedVariables false
set_option linter.unusedSimpArgs false
set_option maxRecDepth 100000

theorem unpackS_lt (t : List Nat) (n w : Int) : (∀ a ∈ unpackS t n w, a < 18446744073709551616) ∧ (unpackS t n w).length ≤ 65536 := by
  unfold unpackS
  by_cases h : unpackE t n w = 0
  · obtain ⟨h1, h2, h3, h4, _, _⟩ := unpackE_0 h
    rw [if_pos h]
    refine ⟨fun a ha => Nat.lt_of_lt_of_le (dg_lt _ _ _ a ha) (Nat.pow_le_pow_right (j := 64) (by omega) (by omega)), ?_⟩
    rw [dg_length]; omega
  · rw [if_neg h]; simp
/-- What readBehind takes, and the reader's place and error behind it: the steps behind the first number. -/
def rbS (b : List Nat) (at_ : Nat) (x : Option (Int × Nat)) (n : Int) : List Nat × Nat × Option (Int × Nat) :=
  let f := fixS b at_ x 1
  let x2 := if 64 < f.1 then failS f.2.1 f.2.2 5 else f.2.2
  let t := takeS b f.2.1 x2 ((b.length : Int) - f.2.1)
  let x4 := failS t.2.1 t.2.2 (unpackE t.1 n f.1)
  (unpackS t.1 n f.1, t.2.1, if wd (unpackS t.1 n f.1) = f.1 then x4 else failS t.2.1 x4 4)
theorem rb_lt (b : List Nat) (at_ : Nat) (x : Option (Int × Nat)) (n : Int) : (∀ a ∈ (rbS b at_ x n).1, a < 18446744073709551616) ∧ (rbS b at_ x n).1.length ≤ 65536 := unpackS_lt _ _ _
theorem rb_some (b : List Nat) (at_ : Nat) (y : Int × Nat) (n : Int) : (rbS b at_ (some y) n).2 = (at_, some y) := by
  unfold rbS fixS takeS failS
  simp
theorem rb_short (b : List Nat) (at_ : Nat) (n : Int) (h : at_ = b.length) : (rbS b at_ none n).2 = (at_, some (2, at_)) := by
  subst h
  unfold rbS fixS takeS failS
  simp
theorem fix_byte (b : List Nat) (at_ v : Nat) (h : b[at_]? = some v) : fixS b at_ none 1 = (v, at_ + 1, none) := by
  obtain ⟨hl, rfl⟩ := List.getElem?_eq_some_iff.1 h
  unfold fixS
  simp only
  rw [if_neg (by omega), if_neg (by omega)]
  have e : (b.drop at_).take (1 : Int).toNat = [b[at_]] := by
    rw [List.drop_eq_getElem_cons hl]; rfl
  rw [e]
  rfl
theorem fix_small (b : List Nat) (at_ : Nat) (x : Option (Int × Nat)) (hb : ∀ v ∈ b, v < 256) : (fixS b at_ x 1).1 < 256 := by
  cases x with
  | some y => show (0 : Nat) < 256; omega
  | none =>
    cases h : b[at_]? with
    | none =>
      have := List.getElem?_eq_none_iff.1 h
      unfold fixS
      simp only
      rw [if_neg (by omega), if_pos (by omega)]
      show (0 : Nat) < 256
      omega
    | some v => rw [fix_byte b at_ v h]; exact hb v (List.mem_of_getElem? h)
theorem rb_byte (b : List Nat) (at_ v : Nat) (n : Int) (h : b[at_]? = some v) :
    rbS b at_ none n =
      let x2 := if 64 < v then some ((5 : Int), at_ + 1) else none
      let t := takeS b (at_ + 1) x2 ((b.length : Int) - (at_ + 1 : Nat))
      let x4 := failS t.2.1 t.2.2 (unpackE t.1 n v)
      (unpackS t.1 n v, t.2.1, if wd (unpackS t.1 n v) = v then x4 else failS t.2.1 x4 4) := by
  unfold rbS
  rw [fix_byte b at_ v h]
  rfl
theorem rb_wide (b : List Nat) (at_ v : Nat) (n : Int) (h : b[at_]? = some v) (hv : 64 < v) : (rbS b at_ none n).2 = (at_ + 1, some (5, at_ + 1)) := by
  rw [rb_byte b at_ v n h, if_pos hv]
  unfold takeS failS
  simp
theorem take_rest (b : List Nat) (at_ : Nat) (h : at_ ≤ b.length) : takeS b at_ none ((b.length : Int) - (at_ : Nat)) = (b.drop at_, b.length, none) := by
  unfold takeS
  simp only
  rw [if_neg (by omega), if_neg (by omega), List.take_of_length_le (by rw [List.length_drop]; omega)]
  congr 2
  omega
theorem rb_rest (b : List Nat) (at_ v : Nat) (n : Int) (h : b[at_]? = some v) (hv : ¬ 64 < v) :
    rbS b at_ none n = (unpackS (b.drop (at_ + 1)) n v, b.length, if wd (unpackS (b.drop (at_ + 1)) n v) = v then failS b.length none (unpackE (b.drop (at_ + 1)) n v) else failS b.length (failS b.length none (unpackE (b.drop (at_ + 1)) n v)) 4) := by
  have hl := (List.getElem?_eq_some_iff.1 h).1
  rw [rb_byte b at_ v n h, if_neg hv]
  simp only
  rw [take_rest b (at_ + 1) (by omega)]
/-- Behind the first number: the first error, the steps. -/
def rbE (b : List Nat) (at_ : Nat) (n : Int) : Int :=
  match b[at_]? with
  | none => 2
  | some v => if 64 < v then 5 else if unpackE (b.drop (at_ + 1)) n v = 0 then (if wd (unpackS (b.drop (at_ + 1)) n v) = v then 0 else 4) else (unpackE (b.drop (at_ + 1)) n v : Int)
theorem rb_end (b : List Nat) (at_ : Nat) (n : Int) (hat : at_ ≤ b.length) : (endS b (rbS b at_ none n).2.1 (rbS b at_ none n).2.2).1 = rbE b at_ n := by
  unfold rbE
  cases h : b[at_]? with
  | none =>
    have hl : at_ = b.length := by have := List.getElem?_eq_none_iff.1 h; omega
    rw [rb_short b at_ n hl, endS_some _ _ _ (by simp)]
  | some v =>
    simp only
    by_cases hv : 64 < v
    · rw [rb_wide b at_ v n h hv, endS_some _ _ _ (by simp), if_pos hv]
    · rw [rb_rest b at_ v n h hv, if_neg hv]
      simp only
      by_cases hE : unpackE (b.drop (at_ + 1)) n v = 0
      · rw [hE, if_pos rfl]
        by_cases hw : wd (unpackS (b.drop (at_ + 1)) n v) = v
        · rw [if_pos hw, if_pos hw]
          simp only [failS]
          rw [if_pos (by simp), endS_none, if_neg (by omega)]
        · rw [if_neg hw, if_neg hw]
          simp only [failS]
          rw [if_pos (by simp)]
          simp only
          rw [if_neg (by omega), endS_some _ _ _ (by simp)]
      · have hE' : ((unpackE (b.drop (at_ + 1)) n v : Nat) : Int) ≠ 0 := by omega
        rw [if_neg hE]
        have hf : failS b.length none (unpackE (b.drop (at_ + 1)) n v : Int) = some ((unpackE (b.drop (at_ + 1)) n v : Int), b.length) := by
          simp only [failS]; rw [if_neg hE']
        rw [hf]
        have hf2 : failS b.length (some ((unpackE (b.drop (at_ + 1)) n v : Int), b.length)) 4 = some ((unpackE (b.drop (at_ + 1)) n v : Int), b.length) := rfl
        rw [hf2]
        split <;> exact endS_some _ _ _ hE'
theorem rb_take (b : List Nat) (at_ : Nat) (n : Int) (h : rbE b at_ n = 0) : ∃ v, b[at_]? = some v ∧ v ≤ 64 ∧ unpackE (b.drop (at_ + 1)) n v = 0 ∧ wd (unpackS (b.drop (at_ + 1)) n v) = v ∧ (rbS b at_ none n).1 = unpackS (b.drop (at_ + 1)) n v := by
  unfold rbE at h
  cases hb : b[at_]? with
  | none => rw [hb] at h; simp at h
  | some v =>
    rw [hb] at h
    simp only at h
    by_cases hv : 64 < v
    · rw [if_pos hv] at h; omega
    · rw [if_neg hv] at h
      by_cases hE : unpackE (b.drop (at_ + 1)) n v = 0
      · rw [if_pos hE] at h
        by_cases hw : wd (unpackS (b.drop (at_ + 1)) n v) = v
        · exact ⟨v, rfl, by omega, hE, hw, by rw [rb_rest b at_ v n hb hv]⟩
        · rw [if_neg hw] at h; omega
      · rw [if_neg hE] at h; omega
/-- The reader behind all that is read. -/
def dst (b : List Nat) (k : Nat) : Nat × Option (Int × Nat) :=
  if k = 0 then (0, none) else if k = 1 then vst b 1 else (rbS b (vst b 1).1 (vst b 1).2 ((k : Int) - 1)).2
/-- The steps that are read. -/
def dL (b : List Nat) (k : Nat) : List Int :=
  if k = 0 then [] else zagI (vv b 0 : Int) :: (if k = 1 then [] else (rbS b (vst b 1).1 (vst b 1).2 ((k : Int) - 1)).1.map fun v : Nat => zagI (v : Int))
/-- The error's number of reading; the numbers. -/
def dE (b : List Nat) (k : Int) : Int := if k < 0 ∨ 65536 < k then 1 else (endS b (dst b k.toNat).1 (dst b k.toNat).2).1
def dG (b : List Nat) (k : Int) : List Int := if dE b k = 0 then sms 0 (dL b k.toNat) else []
theorem dE_bad {b : List Nat} {k : Int} (h : k < 0 ∨ 65536 < k) : dE b k = 1 ∧ dG b k = [] := by
  have hE : dE b k = 1 := by unfold dE; rw [if_pos h]
  exact ⟨hE, by unfold dG; rw [if_neg (by omega)]⟩
theorem dE_zero (b : List Nat) : dE b 0 = if 0 < b.length then 3 else 0 := by
  unfold dE dst
  rw [if_neg (by omega), show (0 : Int).toNat = 0 from rfl, if_pos rfl, endS_none]
theorem dE_err (b : List Nat) (k : Nat) (y : Int × Nat) (hk : 1 ≤ k ∧ k ≤ 65536) (h : (vst b 1).2 = some y) : dE b (k : Int) = y.1 := by
  have hy := vst_ok b 1 y h
  unfold dE dst
  rw [if_neg (by omega), Int.toNat_natCast, if_neg (by omega)]
  by_cases h1 : k = 1
  · rw [if_pos h1, h, endS_some _ _ _ hy]
  · rw [if_neg h1, h, rb_some, endS_some _ _ _ hy]
theorem dE_one (b : List Nat) (h : (vst b 1).2 = none) : dE b 1 = if (vst b 1).1 < b.length then 3 else 0 := by
  unfold dE dst
  rw [if_neg (by omega), show (1 : Int).toNat = 1 from rfl, if_neg (by omega), if_pos rfl, h, endS_none]
theorem vst_place (b : List Nat) (hb : ∀ x ∈ b, x < 256) (h : (vst b 1).2 = none) : (vst b 1).1 ≤ b.length := (put_prefix b hb 1 h).1
theorem dE_more (b : List Nat) (hb : ∀ x ∈ b, x < 256) (k : Nat) (hk : 2 ≤ k ∧ k ≤ 65536) (h : (vst b 1).2 = none) : dE b (k : Int) = rbE b (vst b 1).1 ((k : Int) - 1) := by
  unfold dE dst
  rw [if_neg (by omega), Int.toNat_natCast, if_neg (by omega), if_neg (by omega), h, rb_end _ _ _ (vst_place b hb h)]
theorem dL_in {b : List Nat} (hb : ∀ x ∈ b, x < 256) (k : Nat) : ∀ z ∈ dL b k, In64 z := by
  intro z hz
  unfold dL at hz
  split at hz
  · simp at hz
  · rcases List.mem_cons.1 hz with rfl | hz
    · exact zagI_in (vv_lt hb 0)
    · split at hz
      · simp at hz
      · obtain ⟨v, hv, rfl⟩ := List.mem_map.1 hz
        exact zagI_in ((rb_lt _ _ _ _).1 v hv)
theorem dL_length (b : List Nat) (k : Nat) : (dL b k).length ≤ 65537 := by
  unfold dL
  split
  · simp
  · rw [List.length_cons]
    split
    · simp
    · rw [List.length_map]; have := (rb_lt b (vst b 1).1 (vst b 1).2 ((k : Int) - 1)).2; omega
theorem dG_length (b : List Nat) (k : Int) : (dG b k).length ≤ 65537 := by
  unfold dG
  split
  · rw [sms_length]; exact dL_length _ _
  · simp
end Go.Proofs.YtpjmenaejfdiaaaDoor

/- Plain facts: whether these may be the differences to a least one. No program. -/
namespace Go.Proofs.YtpjmenaejfdiaaaDoor
open Go.RowKit
set_option linter.unusedVariables false
set_option linter.unusedSimpArgs false

/-- How much the greatest number is above 'm'. -/
def roomI (m : Int) : Nat := (9223372036854775807 - m).toNat
/-- These may be the differences to 'm': one is 0, and none leads beyond the greatest number. -/
def fitB (m : Int) (L : List Nat) : Bool := L.contains 0 && L.all fun d => decide (d ≤ roomI m)
theorem fitB_iff {m : Int} {L : List Nat} : fitB m L = true ↔ 0 ∈ L ∧ ∀ d ∈ L, d ≤ roomI m := by
  unfold fitB
  simp [List.all_eq_true]
end Go.Proofs.YtpjmenaejfdiaaaDoor
