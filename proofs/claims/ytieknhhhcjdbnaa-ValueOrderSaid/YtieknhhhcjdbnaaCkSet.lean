/- The bytes of a set of so many places, of which those are marked that a truth says. No program. -/
import Derived.Test.YtieknhhhcjdbnaaBmPlain
namespace Go.Proofs.Ytieknhhhcjdbnaa
set_option linter.unusedVariables false
set_option linter.unusedSimpArgs false

/-- The bytes of a set of 'n' places, of which the places of 'f' are marked. -/
def setB (f : Nat → Bool) (n : Nat) : List Nat := (sel f n).foldl mark (List.replicate (siz n) 0)
theorem marks_ok {n : Nat} : ∀ (ps : List Nat) (l : List Nat), OkS n l → (∀ p ∈ ps, p < n) → OkS n (ps.foldl mark l) ∧ ∀ k, bit (ps.foldl mark l) k = (decide (k ∈ ps) || bit l k) := by
  intro ps
  induction ps with
  | nil => intro l h _; exact ⟨h, fun k => by simp⟩
  | cons p ps ih =>
    intro l h hp
    have hpn : p < n := hp p (by simp)
    obtain ⟨h1, h2⟩ := ih (mark l p) (h.mark hpn) (fun q hq => hp q (by simp [hq]))
    refine ⟨h1, fun k => ?_⟩
    rw [List.foldl_cons, h2, bit_mark _ _ _ (by rw [h.len]; exact siz_lt hpn)]
    by_cases e1 : k ∈ ps <;> by_cases e2 : k = p <;> simp [e1, e2]
theorem sel_mem (f : Nat → Bool) (n k : Nat) : k ∈ sel f n ↔ k < n ∧ f k = true := by
  induction n with
  | zero => simp [sel]
  | succ n ih =>
    rw [sel, List.mem_append, ih]
    constructor
    · rintro (⟨h1, h2⟩ | h)
      · exact ⟨by omega, h2⟩
      · cases e : f n with
        | true => rw [e] at h; simp at h; subst h; exact ⟨by omega, e⟩
        | false => rw [e] at h; simp at h
    · rintro ⟨h1, h2⟩
      by_cases e : k = n
      · subst e; right; simp [h2]
      · left; exact ⟨by omega, h2⟩
theorem setB_ok (f : Nat → Bool) (n : Nat) : OkS n (setB f n) ∧ ∀ k, k < n → bit (setB f n) k = f k := by
  obtain ⟨h1, h2⟩ := marks_ok (sel f n) _ (OkS.new n) (sel_lt f n)
  refine ⟨h1, fun k hk => ?_⟩
  rw [setB, h2, bit_zeros, Bool.or_false]
  cases e : f k with
  | true => simp [sel_mem, hk, e]
  | false => simp [sel_mem, e]
theorem setB_length (f : Nat → Bool) (n : Nat) : (setB f n).length = siz n := (setB_ok f n).1.len
theorem setB_is {f : Nat → Bool} {n : Nat} {l : List Nat} (h : OkS n l) (hb : ∀ k, k < n → bit l k = f k) : setB f n = l :=
  (setB_ok f n).1.ext h fun k hk => by rw [(setB_ok f n).2 k hk, hb k hk]
theorem cnt_pos {f : Nat → Bool} {n k : Nat} (hk : k < n) (h : f k = true) : 0 < cnt f n := by
  induction n with
  | zero => omega
  | succ n ih =>
    rw [cnt]
    by_cases e : k = n
    · subst e; rw [h]; simp
    · have := ih (by omega); omega
theorem cnt_none {f : Nat → Bool} {n : Nat} (h : cnt f n = 0) : ∀ k, k < n → f k = false := by
  intro k hk
  cases e : f k with
  | false => rfl
  | true => have := cnt_pos hk e; omega
theorem cnt_off {f : Nat → Bool} : ∀ {n : Nat}, (∀ k, k < n → f k = false) → cnt f n = 0 := by
  intro n
  induction n with
  | zero => intro _; rfl
  | succ n ih => intro h; rw [cnt, ih fun k hk => h k (by omega), h n (by omega)]; rfl
theorem bit_nil (k : Nat) : bit [] k = false := by simp [bit]
end Go.Proofs.Ytieknhhhcjdbnaa
