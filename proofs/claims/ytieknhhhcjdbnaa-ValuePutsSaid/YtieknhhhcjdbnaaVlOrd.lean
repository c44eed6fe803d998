/- The order of a column's values, told plainly: turned about it is turned; ahead of one that is ahead is ahead; the same are the same, if they may stand in columns. What is wrong with a schema, with a row. No program; no condition. -/
import Derived.Test.YtieknhhhcjdbnaaCkPlain
namespace Go.Proofs.Ytieknhhhcjdbnaa
open Go.RowKit
set_option linter.unusedVariables false
set_option linter.unusedSimpArgs false

/-- Values of one kind: which is ahead. -/
def vahd (a b : Vl) : Prop := a.1 = 1 ∧ a.2.1 < b.2.1 ∨ a.1 = 2 ∧ tlt a.2.2 b.2.2
instance (a b : Vl) : Decidable (vahd a b) := by unfold vahd; exact inferInstance
/-- The order of two values. -/
def cmpV (a b : Vl) : Int := if a.1 < b.1 then -1 else if b.1 < a.1 then 1 else if vahd a b then -1 else if vahd b a then 1 else 0
/-- Below, at or above: one of three, by the kind; within a kind by its own order. -/
theorem cmp_cases (a b : Vl) : (a.1 < b.1 ∧ cmpV a b = -1) ∨ (b.1 < a.1 ∧ cmpV a b = 1) ∨ (a.1 = b.1 ∧ ((a.1 = 1 ∧ (a.2.1 < b.2.1 ∧ cmpV a b = -1 ∨ b.2.1 < a.2.1 ∧ cmpV a b = 1 ∨ a.2.1 = b.2.1 ∧ cmpV a b = 0)) ∨
    (a.1 = 2 ∧ (tlt a.2.2 b.2.2 ∧ cmpV a b = -1 ∨ tlt b.2.2 a.2.2 ∧ cmpV a b = 1 ∨ a.2.2 = b.2.2 ∧ cmpV a b = 0)) ∨ (a.1 ≠ 1 ∧ a.1 ≠ 2 ∧ cmpV a b = 0))) := by
  by_cases h1 : a.1 < b.1
  · exact .inl ⟨h1, by unfold cmpV; rw [if_pos h1]⟩
  by_cases h2 : b.1 < a.1
  · exact .inr (.inl ⟨h2, by unfold cmpV; rw [if_neg h1, if_pos h2]⟩)
  have h3 : a.1 = b.1 := by omega
  refine .inr (.inr ⟨h3, ?_⟩)
  have hc : cmpV a b = if vahd a b then -1 else if vahd b a then 1 else 0 := by unfold cmpV; rw [if_neg h1, if_neg h2]
  rw [hc]
  by_cases k1 : a.1 = 1
  · refine .inl ⟨k1, ?_⟩
    have e1 : vahd a b ↔ a.2.1 < b.2.1 := by unfold vahd; constructor; (rintro (⟨_, h⟩ | ⟨h, _⟩); exact h; omega); exact fun h => .inl ⟨k1, h⟩
    have e2 : vahd b a ↔ b.2.1 < a.2.1 := by unfold vahd; constructor; (rintro (⟨_, h⟩ | ⟨h, _⟩); exact h; omega); exact fun h => .inl ⟨by omega, h⟩
    by_cases l1 : a.2.1 < b.2.1
    · exact .inl ⟨l1, by rw [if_pos (e1.2 l1)]⟩
    by_cases l2 : b.2.1 < a.2.1
    · exact .inr (.inl ⟨l2, by rw [if_neg (fun h => l1 (e1.1 h)), if_pos (e2.2 l2)]⟩)
    · exact .inr (.inr ⟨by omega, by rw [if_neg (fun h => l1 (e1.1 h)), if_neg (fun h => l2 (e2.1 h))]⟩)
  by_cases k2 : a.1 = 2
  · refine .inr (.inl ⟨k2, ?_⟩)
    have e1 : vahd a b ↔ tlt a.2.2 b.2.2 := by unfold vahd; constructor; (rintro (⟨h, _⟩ | ⟨_, h⟩); omega; exact h); exact fun h => .inr ⟨k2, h⟩
    have e2 : vahd b a ↔ tlt b.2.2 a.2.2 := by unfold vahd; constructor; (rintro (⟨h, _⟩ | ⟨_, h⟩); omega; exact h); exact fun h => .inr ⟨by omega, h⟩
    by_cases l1 : tlt a.2.2 b.2.2
    · exact .inl ⟨l1, by rw [if_pos (e1.2 l1)]⟩
    by_cases l2 : tlt b.2.2 a.2.2
    · exact .inr (.inl ⟨l2, by rw [if_neg (fun h => l1 (e1.1 h)), if_pos (e2.2 l2)]⟩)
    · refine .inr (.inr ⟨Classical.byContradiction fun e => l2 (tlt_total l1 e), by rw [if_neg (fun h => l1 (e1.1 h)), if_neg (fun h => l2 (e2.1 h))]⟩)
  · refine .inr (.inr ⟨k1, k2, ?_⟩)
    rw [if_neg, if_neg]
    · unfold vahd; rintro (⟨h, _⟩ | ⟨h, _⟩) <;> omega
    · unfold vahd; rintro (⟨h, _⟩ | ⟨h, _⟩) <;> omega
/-- Turned about it is turned. -/
theorem cmp_turn (a b : Vl) : cmpV b a = - cmpV a b := by
  rcases cmp_cases a b with ⟨h, e⟩ | ⟨h, e⟩ | ⟨h, hr⟩
  · rw [e]; rcases cmp_cases b a with ⟨h', e'⟩ | ⟨h', e'⟩ | ⟨h', _⟩ <;> omega
  · rw [e]; rcases cmp_cases b a with ⟨h', e'⟩ | ⟨h', e'⟩ | ⟨h', _⟩ <;> omega
  · rcases cmp_cases b a with ⟨h', e'⟩ | ⟨h', e'⟩ | ⟨h', hr'⟩
    · omega
    · omega
    · rcases hr with ⟨k, hr⟩ | ⟨k, hr⟩ | ⟨k, k', hr⟩
      · rcases hr' with ⟨_, hr'⟩ | ⟨_, _⟩ | ⟨_, _, _⟩
        · rcases hr with ⟨_, e⟩ | ⟨_, e⟩ | ⟨_, e⟩ <;> rcases hr' with ⟨_, e'⟩ | ⟨_, e'⟩ | ⟨_, e'⟩ <;> omega
        · omega
        · omega
      · rcases hr' with ⟨_, _⟩ | ⟨_, hr'⟩ | ⟨_, _, _⟩
        · omega
        · rcases hr with ⟨l, e⟩ | ⟨l, e⟩ | ⟨l, e⟩ <;> rcases hr' with ⟨l', e'⟩ | ⟨l', e'⟩ | ⟨l', e'⟩
          all_goals first
            | omega
            | exact absurd l' (tlt_asymm l)
            | (rw [l'] at l; exact absurd l (tlt_irrefl _))
            | (rw [l] at l'; exact absurd l' (tlt_irrefl _))
        · omega
      · rcases hr' with ⟨_, _⟩ | ⟨_, _⟩ | ⟨_, _, e'⟩ <;> omega
theorem cmp_range (a b : Vl) : cmpV a b = -1 ∨ cmpV a b = 0 ∨ cmpV a b = 1 := by
  rcases cmp_cases a b with ⟨_, e⟩ | ⟨_, e⟩ | ⟨_, ⟨_, ⟨_, e⟩ | ⟨_, e⟩ | ⟨_, e⟩⟩ | ⟨_, ⟨_, e⟩ | ⟨_, e⟩ | ⟨_, e⟩⟩ | ⟨_, _, e⟩⟩ <;> simp [e]
/-- At or below. -/
theorem cmp_le_iff (a b : Vl) : cmpV a b ≤ 0 ↔ a.1 < b.1 ∨ a.1 = b.1 ∧ (a.1 = 1 → a.2.1 ≤ b.2.1) ∧ (a.1 = 2 → ¬ tlt b.2.2 a.2.2) := by
  rcases cmp_cases a b with ⟨h, e⟩ | ⟨h, e⟩ | ⟨h, ⟨k, ⟨l, e⟩ | ⟨l, e⟩ | ⟨l, e⟩⟩ | ⟨k, ⟨l, e⟩ | ⟨l, e⟩ | ⟨l, e⟩⟩ | ⟨k, k', e⟩⟩
  · exact ⟨fun _ => .inl h, fun _ => by omega⟩
  · exact ⟨fun _ => by omega, fun h' => by rcases h' with h' | ⟨h', _⟩ <;> omega⟩
  · exact ⟨fun _ => .inr ⟨h, fun _ => by omega, fun _ => by omega⟩, fun _ => by omega⟩
  · exact ⟨fun _ => by omega, fun h' => by rcases h' with h' | ⟨_, h', _⟩; omega; have := h' k; omega⟩
  · exact ⟨fun _ => .inr ⟨h, fun _ => by omega, fun _ => by omega⟩, fun _ => by omega⟩
  · exact ⟨fun _ => .inr ⟨h, fun _ => by omega, fun _ => tlt_asymm l⟩, fun _ => by omega⟩
  · exact ⟨fun _ => by omega, fun h' => by rcases h' with h' | ⟨_, _, h'⟩; omega; exact absurd l (h' k)⟩
  · exact ⟨fun _ => .inr ⟨h, fun _ => by omega, fun _ => by rw [l]; exact tlt_irrefl _⟩, fun _ => by omega⟩
  · exact ⟨fun _ => .inr ⟨h, fun _ => by omega, fun _ => by omega⟩, fun _ => by omega⟩
/-- Ahead of one that is ahead is ahead. -/
theorem cmp_trans {a b c : Vl} (h1 : cmpV a b ≤ 0) (h2 : cmpV b c ≤ 0) : cmpV a c ≤ 0 := by
  rw [cmp_le_iff] at *
  rcases h1 with h1 | ⟨h1, n1, t1⟩
  · rcases h2 with h2 | ⟨h2, _, _⟩
    · exact .inl (by omega)
    · exact .inl (by omega)
  · rcases h2 with h2 | ⟨h2, n2, t2⟩
    · exact .inl (by omega)
    · refine .inr ⟨by omega, fun k => ?_, fun k hlt => ?_⟩
      · have := n1 k; have := n2 (by omega); omega
      · have h3 := t1 k
        have h4 := t2 (by omega)
        by_cases e : c.2.2 = b.2.2
        · rw [e] at hlt; exact h3 hlt
        · have hbc : tlt b.2.2 c.2.2 := tlt_total h4 e
          exact h3 (tlt_trans hbc hlt)
theorem cmp_trans' {a b c : Vl} (h1 : 0 ≤ cmpV a b) (h2 : 0 ≤ cmpV b c) : 0 ≤ cmpV a c := by
  have e1 := cmp_turn a b
  have e2 := cmp_turn b c
  have e3 := cmp_turn a c
  have := cmp_trans (a := c) (b := b) (c := a) (by omega) (by omega)
  omega
/-- The same are the same, if they may stand in columns. -/
theorem cmp_same {a b : Vl} (ha : rgt 1 a = true ∨ rgt 2 a = true) (hb : rgt 1 b = true ∨ rgt 2 b = true) : cmpV a b = 0 ↔ a = b := by
  have hf : ∀ v : Vl, (rgt 1 v = true ∨ rgt 2 v = true) → v = (0, 0, []) ∨ (v.1 = 1 ∧ v.2.2 = []) ∨ (v.1 = 2 ∧ v.2.1 = 0) := by
    intro v hv
    rcases hv with hv | hv
    · rcases rgt_kind hv with e | ⟨e, _, e2⟩ | ⟨_, e, _⟩
      · exact .inl e
      · exact .inr (.inl ⟨e, e2⟩)
      · omega
    · rcases rgt_kind hv with e | ⟨_, e, _⟩ | ⟨e, _, e2⟩
      · exact .inl e
      · omega
      · exact .inr (.inr ⟨e, e2⟩)
  obtain ⟨a0, a1, a2⟩ := a
  obtain ⟨b0, b1, b2⟩ := b
  have fa := hf _ ha
  have fb := hf _ hb
  simp only [Prod.mk.injEq] at fa fb
  constructor
  · intro h
    rcases cmp_cases (a0, a1, a2) (b0, b1, b2) with ⟨_, e⟩ | ⟨_, e⟩ | ⟨h1, ⟨k, ⟨_, e⟩ | ⟨_, e⟩ | ⟨l, e⟩⟩ | ⟨k, ⟨_, e⟩ | ⟨_, e⟩ | ⟨l, e⟩⟩ | ⟨k, k', e⟩⟩
    all_goals try omega
    all_goals simp only at h1 k
    · simp only at l
      subst l
      rcases fa with ⟨e1, _, _⟩ | ⟨_, e2⟩ | ⟨e1, _⟩
      · omega
      · rcases fb with ⟨e1, _, _⟩ | ⟨_, e2'⟩ | ⟨e1, _⟩
        · omega
        · rw [e2, e2', h1]
        · omega
      · omega
    · simp only at l
      subst l
      rcases fa with ⟨e1, _, _⟩ | ⟨e1, _⟩ | ⟨_, e2⟩
      · omega
      · omega
      · rcases fb with ⟨e1, _, _⟩ | ⟨e1, _⟩ | ⟨_, e2'⟩
        · omega
        · omega
        · rw [e2, e2', h1]
    · simp only at k'
      rcases fa with ⟨e1, e2, e3⟩ | ⟨e1, _⟩ | ⟨e1, _⟩
      · rcases fb with ⟨e1', e2', e3'⟩ | ⟨e1', _⟩ | ⟨e1', _⟩
        · rw [e1, e2, e3, e1', e2', e3']
        · omega
        · omega
      · omega
      · omega
  · intro h
    rw [h]
    have := cmp_turn (b0, b1, b2) (b0, b1, b2)
    omega
end Go.Proofs.Ytieknhhhcjdbnaa
