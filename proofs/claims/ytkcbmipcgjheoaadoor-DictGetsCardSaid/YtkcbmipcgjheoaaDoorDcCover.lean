/- Plain facts: what numbers at places of a list have of it; the document's way to reckon a number of the list. -/
import Derived.Test.YtkcbmipcgjheoaaDoorDcRead2
namespace Go.Proofs.YtkcbmipcgjheoaaDoor
open Go.RowKit
set_option linter.unusedVariables false
set_option linter.unusedSimpArgs false
set_option maxRecDepth 100000

theorem rise_sub : ∀ (b a : List Int), Rise a → Rise b → (∀ x ∈ a, x ∈ b) → a.length ≤ b.length ∧ (a.length = b.length → a = b) := by
  intro b
  induction b with
  | nil =>
    intro a _ _ h
    cases a with
    | nil => exact ⟨Nat.le_refl _, fun _ => rfl⟩
    | cons x a => have := h x (by simp); simp at this
  | cons y b ih =>
    intro a ha hb h
    cases a with
    | nil => exact ⟨by simp, fun e => by simp at e⟩
    | cons x a =>
      obtain ⟨a1, a2⟩ := List.pairwise_cons.1 ha
      obtain ⟨b1, b2⟩ := List.pairwise_cons.1 hb
      by_cases hxy : x = y
      · subst hxy
        have hs : ∀ z ∈ a, z ∈ b := fun z hz => by
          rcases List.mem_cons.1 (h z (List.mem_cons_of_mem _ hz)) with rfl | h1
          · have := a1 z hz; omega
          · exact h1
        obtain ⟨i1, i2⟩ := ih a a2 b2 hs
        refine ⟨by simp only [List.length_cons]; omega, fun e => ?_⟩
        simp only [List.length_cons] at e
        rw [i2 (by omega)]
      · have hxb : x ∈ b := by
          rcases List.mem_cons.1 (h x (by simp)) with h1 | h1
          · exact absurd h1 hxy
          · exact h1
        have hyx := b1 x hxb
        have hs : ∀ z ∈ x :: a, z ∈ b := fun z hz => by
          rcases List.mem_cons.1 (h z hz) with rfl | h1
          · rcases List.mem_cons.1 hz with h2 | h2
            · omega
            · have := a1 z h2; omega
          · exact h1
        obtain ⟨i1, _⟩ := ih (x :: a) ha b2 hs
        simp only [List.length_cons] at i1 ⊢
        exact ⟨by omega, fun e => by omega⟩
/-- The numbers at these places. -/
def atL (X : List Int) (L : List Nat) : List Int := L.map fun a => (X[a]?).getD 0
theorem atL_length (X : List Int) (L : List Nat) : (atL X L).length = L.length := by simp [atL]
theorem atL_step {X : List Int} {L : List Nat} {k a : Nat} {z : Int} (h : L[k]? = some a) (hz : X[a]? = some z) : atL X (L.take (k + 1)) = atL X (L.take k) ++ [z] := by
  unfold atL
  rw [take_snoc h, List.map_append]
  simp [hz]
theorem cover_iff {X : List Int} {L : List Nat} {c : Nat} (hX : Rise X) (hc : X.length = c) (hL : ∀ a ∈ L, a < c) : (whE L c = 0 ∧ (lstD (atL X L)).length = c) ∨ (whE L c = 4 ∧ (lstD (atL X L)).length ≠ c) := by
  have hget : ∀ a, a < c → ∃ z, X[a]? = some z ∧ (X[a]?).getD 0 = z := fun a ha => by
    have : X[a]? = some X[a] := List.getElem?_eq_getElem (by omega)
    exact ⟨_, this, by rw [this]; rfl⟩
  have hmem : ∀ x, x ∈ atL X L ↔ ∃ a ∈ L, X[a]? = some x := fun x => by
    unfold atL
    rw [List.mem_map]
    constructor
    · rintro ⟨a, ha, rfl⟩
      obtain ⟨z, e1, e2⟩ := hget a (hL a ha)
      exact ⟨a, ha, by rw [e2]; exact e1⟩
    · rintro ⟨a, ha, h⟩
      exact ⟨a, ha, by rw [h]; rfl⟩
  have hsub : ∀ x ∈ lstD (atL X L), x ∈ X := fun x hx => by
    obtain ⟨a, _, h⟩ := (hmem x).1 ((lstD_mem _ x).1 hx)
    exact List.mem_of_getElem? h
  obtain ⟨_, s2⟩ := rise_sub X _ (lstD_rise (atL X L)) hX hsub
  have hel : (∀ i, i < c → i ∈ L) ↔ (lstD (atL X L)).length = c := by
    constructor
    · intro h
      have : lstD (atL X L) = X := rise_ext _ _ (lstD_rise _) hX fun x => by
        refine ⟨hsub x, fun hx => ?_⟩
        obtain ⟨i, hi, rfl⟩ := List.mem_iff_getElem.1 hx
        exact (lstD_mem _ _).2 ((hmem _).2 ⟨i, h i (by omega), List.getElem?_eq_getElem hi⟩)
      rw [this, hc]
    · intro h i hi
      have h1 := s2 (by rw [h, hc])
      have hiX : X[i]? = some X[i] := List.getElem?_eq_getElem (by omega)
      have h2 : X[i] ∈ lstD (atL X L) := by rw [h1]; exact List.getElem_mem _
      obtain ⟨a, ha, h3⟩ := (hmem _).1 ((lstD_mem _ _).1 h2)
      rw [rise_inj hX hiX h3]; exact ha
  by_cases h : (lstD (atL X L)).length = c
  · exact .inl ⟨whE_of hL (hel.2 h), h⟩
  · refine .inr ⟨?_, h⟩
    unfold whE
    rw [if_neg, if_neg]
    · intro h1
      refine h (hel.1 fun i hi => ?_)
      have := List.all_eq_true.1 h1 i (by simpa using hi)
      simpa using this
    · intro h1
      rw [List.any_eq_true] at h1
      obtain ⟨a, ha, hca⟩ := h1
      have := hL a ha
      simp at hca; omega
theorem whE_out {L : List Nat} {c k a : Nat} (h : L[k]? = some a) (hc : c ≤ a) : whE L c = 5 := by
  unfold whE
  rw [if_pos]
  rw [List.any_eq_true]
  exact ⟨a, List.mem_of_getElem? h, by simpa using hc⟩
theorem vv_err {b : List Nat} {y : Int × Nat} (h : (vst b 1).2 = some y) : vv b 0 = 0 := by
  have h2 : (varS b 0 none).2.2 = some y := h
  show (varS b 0 none).1 = 0
  unfold varS at h2 ⊢
  simp only at h2 ⊢
  split
  · rename_i h3; rw [if_pos h3] at h2; cases h2
  · rfl
theorem step_eq2 (p : Int) (v : Nat) : wrap64 (IntKind.u64.wrap (IntKind.u64.wrap (IntKind.u64.wrap p + (v : Int)) + 1)) = wrap64 (p + v + 1) := by
  rw [u64w, u64w, u64w, wr64, wr64]; omega
end Go.Proofs.YtkcbmipcgjheoaaDoor
