/- Texts joined: FoRead Miss. -/
import Derived.Test.YtpjmenaejfdiaaaDoorJ25
import Derived.Test.YtpjmenaejfdiaaaDoorJ11
import Derived.Test.YtpjmenaejfdiaaaDoorWords
/- Plain facts on reading the form by the least one: the reader behind each part, the numbers, the first error. No program. -/
namespace Go.Proofs.YtpjmenaejfdiaaaDoor
open Go.RowKit
set_option linter.unusedVariables false
set_option linter.unusedSimpArgs false
set_option maxRecDepth 100000

/-- What readAbove takes, and the reader's place and error behind it. -/
def raS (b : List Nat) (at_ : Nat) (x : Option (Int × Nat)) (n m : Int) : List Nat × Nat × Option (Int × Nat) :=
  ((rbS b at_ x n).1, (rbS b at_ x n).2.1, if fitB m (rbS b at_ x n).1 = true then (rbS b at_ x n).2.2 else failS (rbS b at_ x n).2.1 (rbS b at_ x n).2.2 4)
theorem ra_lt (b : List Nat) (at_ : Nat) (x : Option (Int × Nat)) (n m : Int) : (∀ a ∈ (raS b at_ x n m).1, a < 18446744073709551616) ∧ (raS b at_ x n m).1.length ≤ 65536 := rb_lt b at_ x n
theorem ra_some (b : List Nat) (at_ : Nat) (y : Int × Nat) (n m : Int) : (raS b at_ (some y) n m).2 = (at_, some y) := by
  unfold raS
  rw [rb_some]
  unfold failS
  simp
theorem rb_none (b : List Nat) (at_ : Nat) (n : Int) (hat : at_ ≤ b.length) (h : (rbS b at_ none n).2.2 = none) : (rbS b at_ none n).2.1 = b.length := by
  cases hv : b[at_]? with
  | none =>
    have hl : at_ = b.length := by have := List.getElem?_eq_none_iff.1 hv; omega
    rw [rb_short b at_ n hl] at h ⊢
    exact hl
  | some v =>
    by_cases h64 : 64 < v
    · rw [rb_wide b at_ v n hv h64] at h; cases h
    · rw [rb_rest b at_ v n hv h64]
theorem failS_ok {at_ : Nat} {x : Option (Int × Nat)} {k : Int} {y : Int × Nat} (hx : ∀ z, x = some z → z.1 ≠ 0) (h : failS at_ x k = some y) : y.1 ≠ 0 := by
  cases x with
  | some z => injection h with h; subst h; exact hx z rfl
  | none =>
    unfold failS at h
    simp only at h
    split at h
    · cases h
    · rename_i hk
      injection h with h
      subst h
      exact hk
theorem rb_ok (b : List Nat) (at_ : Nat) (n : Int) (hat : at_ ≤ b.length) (y : Int × Nat) (h : (rbS b at_ none n).2.2 = some y) : y.1 ≠ 0 := by
  cases hv : b[at_]? with
  | none =>
    have hl : at_ = b.length := by have := List.getElem?_eq_none_iff.1 hv; omega
    rw [rb_short b at_ n hl] at h
    injection h with h
    subst h
    simp
  | some v =>
    by_cases h64 : 64 < v
    · rw [rb_wide b at_ v n hv h64] at h
      injection h with h
      subst h
      simp
    · rw [rb_rest b at_ v n hv h64] at h
      simp only at h
      split at h
      · exact failS_ok (by simp) h
      · exact failS_ok (fun z hz => failS_ok (by simp) hz) h
/-- Behind the least one: the first error. -/
def raE (b : List Nat) (at_ : Nat) (n m : Int) : Int := if rbE b at_ n = 0 then (if fitB m (rbS b at_ none n).1 = true then 0 else 4) else rbE b at_ n
theorem ra_end (b : List Nat) (at_ : Nat) (n m : Int) (hat : at_ ≤ b.length) : (endS b (raS b at_ none n m).2.1 (raS b at_ none n m).2.2).1 = raE b at_ n m := by
  have h := rb_end b at_ n hat
  have hn := rb_none b at_ n hat
  have hk := rb_ok b at_ n hat
  unfold raE
  rw [← h]
  unfold raS
  generalize rbS b at_ none n = s at h hn hk ⊢
  obtain ⟨L, a, x⟩ := s
  simp only at h hn hk ⊢
  cases x with
  | none =>
    have ha := hn rfl
    subst ha
    have h0 : (endS b b.length none).1 = 0 := by rw [endS_none, if_neg (by omega)]
    rw [if_pos h0]
    by_cases hf : fitB m L = true
    · rw [if_pos hf, if_pos hf, h0]
    · rw [if_neg hf, if_neg hf]
      simp only [failS]
      rw [if_neg (by omega), endS_some _ _ _ (by simp)]
  | some y =>
    have hy := hk y rfl
    have hfs : failS a (some y) 4 = some y := rfl
    have h0 : ¬ (endS b a (some y)).1 = 0 := by rw [endS_some _ _ _ hy]; exact hy
    rw [hfs, if_neg h0, ite_self]
/-- The least one, as it is read. -/
def fM (b : List Nat) : Int := zagI (vv b 0 : Int)
/-- The reader behind all that is read. -/
def fst_ (b : List Nat) (k : Nat) : Nat × Option (Int × Nat) := if k = 0 then (0, none) else (raS b (vst b 1).1 (vst b 1).2 (k : Int) (fM b)).2
/-- The differences that are read. -/
def fD (b : List Nat) (k : Nat) : List Nat := if k = 0 then [] else (raS b (vst b 1).1 (vst b 1).2 (k : Int) (fM b)).1
/-- The error's number of reading; the numbers. -/
def fE (b : List Nat) (k : Int) : Int := if k < 0 ∨ 65536 < k then 1 else (endS b (fst_ b k.toNat).1 (fst_ b k.toNat).2).1
def fG (b : List Nat) (k : Int) : List Int := if fE b k = 0 then ups (fM b) (fD b k.toNat) else []
theorem fE_bad {b : List Nat} {k : Int} (h : k < 0 ∨ 65536 < k) : fE b k = 1 ∧ fG b k = [] := by
  have hE : fE b k = 1 := by unfold fE; rw [if_pos h]
  exact ⟨hE, by unfold fG; rw [if_neg (by omega)]⟩
theorem fE_zero (b : List Nat) : fE b 0 = if 0 < b.length then 3 else 0 := by
  unfold fE fst_
  rw [if_neg (by omega), show (0 : Int).toNat = 0 from rfl, if_pos rfl, endS_none]
theorem fG_zero (b : List Nat) : fG b 0 = [] := by
  unfold fG fD
  rw [show (0 : Int).toNat = 0 from rfl, if_pos rfl]
  split <;> rfl
theorem fE_err (b : List Nat) (k : Nat) (y : Int × Nat) (hk : 1 ≤ k ∧ k ≤ 65536) (h : (vst b 1).2 = some y) : fE b (k : Int) = y.1 := by
  have hy := vst_ok b 1 y h
  unfold fE fst_
  rw [if_neg (by omega), Int.toNat_natCast, if_neg (by omega), h, ra_some, endS_some _ _ _ hy]
theorem fE_more (b : List Nat) (hb : ∀ x ∈ b, x < 256) (k : Nat) (hk : 1 ≤ k ∧ k ≤ 65536) (h : (vst b 1).2 = none) : fE b (k : Int) = raE b (vst b 1).1 (k : Int) (fM b) := by
  unfold fE fst_
  rw [if_neg (by omega), Int.toNat_natCast, if_neg (by omega), h, ra_end _ _ _ _ (vst_place b hb h)]
theorem fM_in {b : List Nat} (hb : ∀ x ∈ b, x < 256) : In64 (fM b) := zagI_in (vv_lt hb 0)
theorem fD_lt (b : List Nat) (k : Nat) : (∀ a ∈ fD b k, a < 18446744073709551616) ∧ (fD b k).length ≤ 65536 := by
  unfold fD
  split
  · simp
  · exact ra_lt _ _ _ _ _
theorem fG_length (b : List Nat) (k : Int) : (fG b k).length ≤ 65536 := by
  unfold fG
  split
  · rw [ups_length]; exact (fD_lt _ _).2
  · simp
/-- What is read without an error: what stands in the bytes. -/
theorem ra_zero {b : List Nat} {at_ : Nat} {n m : Int} (h : raE b at_ n m = 0) : rbE b at_ n = 0 ∧ fitB m (rbS b at_ none n).1 = true := by
  unfold raE at h
  by_cases h0 : rbE b at_ n = 0
  · rw [if_pos h0] at h
    by_cases hf : fitB m (rbS b at_ none n).1 = true
    · exact ⟨h0, hf⟩
    · rw [if_neg hf] at h; omega
  · rw [if_neg h0] at h; exact absurd h h0
theorem fE_vst {b : List Nat} {k : Nat} (hk : 1 ≤ k ∧ k ≤ 65536) (h : fE b (k : Int) = 0) : (vst b 1).2 = none := by
  cases hx : (vst b 1).2 with
  | none => rfl
  | some y =>
    rw [fE_err b k y hk hx] at h
    exact absurd h (vst_ok b 1 y hx)
/-- The differences of what is read without an error: as many as were asked for, and they fit. -/
theorem fD_ok {b : List Nat} (hb : ∀ x ∈ b, x < 256) {k : Nat} (hk : k ≤ 65536) (h : fE b (k : Int) = 0) : (fD b k).length = k ∧ ∀ d ∈ fD b k, d ≤ roomI (fM b) := by
  rcases Nat.eq_zero_or_pos k with h0 | h0
  · subst h0; unfold fD; simp
  · have hx := fE_vst ⟨h0, hk⟩ h
    rw [fE_more b hb k ⟨h0, hk⟩ hx] at h
    obtain ⟨h1, h2⟩ := ra_zero h
    obtain ⟨v, e1, e2, e3, e4, e5⟩ := rb_take b (vst b 1).1 (k : Int) h1
    have hpa := pack_again (b.drop ((vst b 1).1 + 1)) (k : Int) v (fun x hx => hb x (List.mem_of_mem_drop hx)) e3
    have hD : fD b k = (rbS b (vst b 1).1 none (k : Int)).1 := by
      unfold fD; rw [if_neg (by omega), hx]; rfl
    rw [hD]
    refine ⟨by rw [e5, hpa.2.2.1]; omega, (fitB_iff.1 h2).2⟩
end Go.Proofs.YtpjmenaejfdiaaaDoor

/- Plain facts: the first place at which something doesn't hold, or -1. No program. -/
namespace Go.Proofs.YtpjmenaejfdiaaaDoor
open Go.RowKit
set_option linter.unusedVariables false
set_option linter.unusedSimpArgs false

/-- The first place below 'n' at which it doesn't hold, or -1. -/
def missI (f : Nat → Bool) (n : Nat) : Int := match (List.range n).find? (fun j => !f j) with | some j => (j : Int) | none => -1
theorem miss_all {f : Nat → Bool} {n : Nat} : (0 ≤ missI f n) ↔ (List.range n).all f = false := by
  unfold missI
  cases h : (List.range n).find? (fun j => !f j) with
  | none =>
    have h1 := List.find?_eq_none.1 h
    simp only
    constructor
    · intro h2; omega
    · intro h2
      have h3 : (List.range n).all f = true := List.all_eq_true.2 fun x hx => by have := h1 x hx; simpa using this
      rw [h3] at h2; cases h2
  | some j =>
    have h1 := List.find?_some h
    have h2 := List.mem_of_find?_eq_some h
    simp only
    constructor
    · intro _
      refine Bool.eq_false_iff.2 fun h3 => ?_
      have := List.all_eq_true.1 h3 j h2
      rw [this] at h1; cases h1
    · intro _; omega
theorem find_step {f : Nat → Bool} {n : Nat} {k : Nat} (hk : k ≤ n) (h : ∀ j, j < k → f j = true) : (k < n → f k = false → missI f n = (k : Int)) ∧ (k = n → missI f n = -1) := by
  constructor
  · intro hlt hf
    unfold missI
    have e : List.range n = List.range k ++ (List.range (n - k)).map (k + ·) := by
      rw [← List.range_add]; congr 1; omega
    have e1 : (List.range k).find? (fun j => !f j) = none := List.find?_eq_none.2 fun x hx => by
      have := h x (by simpa using hx)
      simp [this]
    have e2 : ((List.range (n - k)).map (k + ·)).find? (fun j => !f j) = some k := by
      obtain ⟨m, hm⟩ : ∃ m, n - k = m + 1 := ⟨n - k - 1, by omega⟩
      rw [hm, List.range_succ_eq_map, List.map_cons, List.find?_cons_of_pos (by simp [hf])]
      rfl
    rw [e, List.find?_append, e1, e2]
    rfl
  · intro he
    subst he
    unfold missI
    rw [List.find?_eq_none.2 fun x hx => by have := h x (by simpa using hx); simp [this]]
end Go.Proofs.YtpjmenaejfdiaaaDoor
