/- Plain facts on runs: what is put is read as it was. No program, no condition. -/
import Derived.Test.YtlonaeonndjmmaaDoorRnRead
namespace Go.Proofs.YtlonaeonndjmmaaDoor
open Go.RowKit
set_option linter.unusedVariables false
set_option linter.unusedSimpArgs false
set_option maxRecDepth 100000

theorem ilv_at : ∀ {r : List (Int × Nat)} {k : Nat} {x : Int} {m : Nat}, r[k]? = some (x, m) → (ilv r)[2 * k]? = some (zagI ((m - 1 : Nat) : Int)) ∧ (ilv r)[2 * k + 1]? = some x
  | p :: r, 0, x, m, h => by
    simp at h
    subst h
    exact ⟨rfl, rfl⟩
  | p :: r, k + 1, x, m, h => by
    have ih := ilv_at (r := r) (k := k) (by simpa using h)
    rw [show 2 * (k + 1) = 2 * k + 2 by omega]
    exact ⟨by simpa [ilv] using ih.1, by simpa [ilv] using ih.2⟩
theorem ilv_in {l : List Int} (hl : ∀ z ∈ l, In64 z) (hn : l.length ≤ 65536) : ∀ z ∈ ilv (runs l), In64 z := by
  intro z hz
  obtain ⟨⟨x, m⟩, hp, hz⟩ := List.mem_flatMap.1 hz
  obtain ⟨k, hk⟩ := List.mem_iff_getElem?.1 hp
  obtain ⟨h1, h2, h3, _⟩ := run_at hk
  simp at hz
  rcases hz with rfl | rfl
  · exact zagI_in (by omega)
  · exact hl _ (List.mem_of_getElem? (h3 0 h1))
section
variable {l : List Int} (hl : ∀ z ∈ l, In64 z) (hn : l.length ≤ 65536)
include hl hn
theorem put_how {k : Nat} {x : Int} {m : Nat} (h : (runs l)[k]? = some (x, m)) : how (rf (runs l)) k = m - 1 ∧ num (rf (runs l)) k = x := by
  have hk : k < (runs l).length := (List.getElem?_eq_some_iff.1 h).1
  have hil := ilv_length (runs l)
  obtain ⟨_, e2⟩ := vst_put (ilv (runs l)) [] (ilv_in hl hn) (2 * k + 2) (by omega)
  rw [List.append_nil] at e2
  obtain ⟨a1, a2⟩ := ilv_at h
  have g1 := getL_at (pl (ilv (runs l))) (2 * k + 2) (2 * k) (by omega)
  have g2 := getL_at (pl (ilv (runs l))) (2 * k + 2) (2 * k + 1) (by omega)
  rw [e2, List.getElem?_take, if_pos (by omega)] at g1 g2
  rw [a1] at g1
  rw [a2] at g2
  injection g1 with g1
  injection g2 with g2
  refine ⟨?_, g2.symm⟩
  have := congrArg zg g1
  rw [zg_zagI, zg_zagI] at this
  exact this.symm
theorem put_rr : ∀ k, k ≤ rc l → rr (rf (runs l)) k = (runs l).take k
  | 0, _ => by simp [rr]
  | k + 1, h => by
    have hk : k < (runs l).length := h
    obtain ⟨x, m, hat⟩ : ∃ x m, (runs l)[k]? = some (x, m) := ⟨_, _, List.getElem?_eq_getElem hk⟩
    obtain ⟨h1, h2⟩ := put_how hl hn hat
    have h3 := (run_at hat).1
    rw [rr_succ, put_rr k (by omega), h1, h2, List.take_add_one, hat, show m - 1 + 1 = m by omega]
    rfl
theorem put_tot {k : Nat} (h : k ≤ rc l) : tot (rf (runs l)) k = pos (runs l) k := by unfold tot pos; rw [put_rr hl hn k h]
theorem put_go {k : Nat} (h : k < rc l) : rGo (rf (runs l)) l.length k := by
  have hk : k < (runs l).length := h
  have hil := ilv_length (runs l)
  obtain ⟨x, m, hat⟩ : ∃ x m, (runs l)[k]? = some (x, m) := ⟨_, _, List.getElem?_eq_getElem hk⟩
  obtain ⟨h1, h2⟩ := put_how hl hn hat
  obtain ⟨r1, r2, _, _⟩ := run_at hat
  have ht := put_tot hl hn (Nat.le_of_lt h)
  refine go_of ?_ ?_ ?_ ?_
  · rw [ht]; omega
  · have e1 := (vst_put (ilv (runs l)) [] (ilv_in hl hn) (2 * k + 2) (by omega)).1
    rw [List.append_nil] at e1
    show (vst (pl (ilv (runs l))) (2 * k + 2)).2 = none
    rw [e1]
  · rw [ht, h1]; omega
  · rintro ⟨h3, h4⟩
    obtain ⟨j, rfl⟩ : ∃ j, k = j + 1 := ⟨k - 1, by omega⟩
    obtain ⟨y, q, hay⟩ : ∃ y q, (runs l)[j]? = some (y, q) := ⟨_, _, List.getElem?_eq_getElem (by omega)⟩
    rw [ahd_succ, h2, (put_how hl hn hay).2] at h4
    have := (good_at (good_runs l) hay).2
    rw [List.head?_drop, hat] at this
    exact this (by rw [h4]; rfl)
theorem put_K : rK (rf (runs l)) l.length = rc l := by
  have h1 := rK_end (rf (runs l)) l.length
  rcases Nat.lt_trichotomy (rK (rf (runs l)) l.length) (rc l) with h | h | h
  · exact absurd (put_go hl hn h) h1
  · exact h
  · have := (go_is (rK_go h)).1
    rw [put_tot hl hn (Nat.le_refl _), pos_all] at this
    omega
/-- What is put is read as it was. -/
theorem rn_get_put : rE (rf (runs l)) (l.length : Int) = 0 ∧ rS (rf (runs l)) (l.length : Int) = l := by
  have hil := ilv_length (runs l)
  have hrc : (runs l).length = rc l := rfl
  have hE : rE (rf (runs l)) (l.length : Int) = 0 := by
    unfold rE
    rw [if_neg (by omega), Int.toNat_natCast]
    unfold rEnd
    rw [put_K hl hn, put_tot hl hn (Nat.le_refl _), pos_all, if_neg (by omega), endS_none, if_neg]
    have e1 := (vst_put (ilv (runs l)) [] (ilv_in hl hn) (2 * rc l) (by omega)).1
    rw [List.append_nil] at e1
    show ¬ (vst (pl (ilv (runs l))) (2 * rc l)).1 < (pl (ilv (runs l))).length
    rw [e1, List.take_of_length_le (by omega)]
    simp
  refine ⟨hE, ?_⟩
  unfold rS
  rw [if_pos hE, Int.toNat_natCast, put_K hl hn, put_rr hl hn _ (Nat.le_refl _), List.take_of_length_le (by omega), expd_runs]
end
theorem rf_byte {l : List Int} (hl : ∀ z ∈ l, In64 z) (hn : l.length ≤ 65536) : ∀ x ∈ rf (runs l), x < 256 := pl_byte _ (ilv_in hl hn)
end Go.Proofs.YtlonaeonndjmmaaDoor
