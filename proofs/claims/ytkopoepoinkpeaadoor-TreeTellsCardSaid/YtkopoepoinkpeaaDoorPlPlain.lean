/- Plain facts on the plain form: numbers with a sign, each turned by Zig, as short numbers, one behind the other. No program, no condition. -/
import Derived.Test.YtkopoepoinkpeaaDoorPlain
import Derived.Test.YtkopoepoinkpeaaDoorZigP
import Derived.Test.YtkopoepoinkpeaaDoorJ23
namespace Go.Proofs.YtkopoepoinkpeaaDoor
open Go.RowKit
set_option linter.unusedVariables false
set_option linter.unusedSimpArgs false
set_option maxRecDepth 100000

/-- A number of 64 bits with a sign. -/
def In64 (z : Int) : Prop := -9223372036854775808 ≤ z ∧ z ≤ 9223372036854775807
/-- What Zig makes of it. -/
def zg (z : Int) : Nat := (zigI z).toNat
theorem zg_int {z : Int} (h : In64 z) : zigI z = (zg z : Int) ∧ zg z < 18446744073709551616 := by
  have := zigI_range z h.1 h.2
  unfold zg; omega
theorem zagI_zg {z : Int} (h : In64 z) : zagI (zg z : Int) = z := by rw [← (zg_int h).1, zag_zig]
theorem zg_zagI (v : Nat) : zg (zagI (v : Int)) = v := by unfold zg; rw [zig_zag _ (by omega)]; omega
theorem zagI_in {v : Nat} (h : v < 18446744073709551616) : In64 (zagI (v : Int)) := zagI_range _ (by omega) (by omega)
/-- The plain form. -/
def pl (l : List Int) : List Nat := l.flatMap fun z => vb (zg z)
theorem pl_nil : pl [] = [] := rfl
theorem pl_append (l m : List Int) : pl (l ++ m) = pl l ++ pl m := by simp [pl]
theorem pl_one (z : Int) : pl [z] = vb (zg z) := by simp [pl]
theorem take_snoc {α : Type} {l : List α} {k : Nat} {z : α} (h : l[k]? = some z) : l.take (k + 1) = l.take k ++ [z] := by rw [List.take_add_one, h]; rfl
theorem pl_step {l : List Int} {k : Nat} {z : Int} (h : l[k]? = some z) : pl (l.take (k + 1)) = pl (l.take k) ++ vb (zg z) := by rw [take_snoc h, pl_append, pl_one]
theorem pl_cons (z : Int) (l : List Int) : pl (z :: l) = vb (zg z) ++ pl l := by simp [pl]
theorem pl_length (l : List Int) : l.length ≤ (pl l).length ∧ (pl l).length ≤ 10 * l.length := by
  induction l with
  | nil => simp [pl]
  | cons z l ih =>
    have := vb_length (zg z)
    rw [pl_cons, List.length_append, List.length_cons]; omega
theorem pl_byte (l : List Int) (h : ∀ z ∈ l, In64 z) : ∀ b ∈ pl l, b < 256 := by
  intro b hb
  obtain ⟨z, hz, hb⟩ := List.mem_flatMap.1 hb
  exact vb_byte _ (zg_int (h z hz)).2 b hb
/-! How many bytes a short number has, by its bits. -/
theorem or_one (v : Nat) : 0 < v ||| 1 ∧ (v ||| 1) / 2 = v / 2 := by
  have h : (v ||| 1).testBit 0 = true := by simp
  have h2 : (v ||| 1) / 2 = v / 2 := by
    apply Nat.eq_of_testBit_eq
    intro i
    rw [Nat.testBit_div_two, Nat.testBit_or, Nat.testBit_div_two]
    have : Nat.testBit 1 (i + 1) = false := by rw [Nat.testBit_succ]; simp
    rw [this, Bool.or_false]
  refine ⟨?_, h2⟩
  rcases Nat.eq_zero_or_pos (v ||| 1) with h0 | h0
  · rw [h0] at h; simp at h
  · exact h0
theorem blen_one (v : Nat) : blen (v ||| 1) = blen (v / 2) + 1 := by rw [blen_half _ (or_one v).1, (or_one v).2]
theorem blen7 : ∀ b : Fin 128, 64 ≤ b.val → blen b.val = 7 := by decide +kernel
theorem vb_size (v : Nat) : v < 18446744073709551616 → (vb v).length = (blen (v / 2) + 7) / 7 := by
  induction v using Nat.strongRecOn with
  | ind v ih =>
    intro hv
    by_cases h : v < 128
    · have := (blen_le (v / 2) 6).2 (by omega)
      rw [vb_small v h, List.length_singleton]; omega
    · rw [vb_big v h hv, List.length_cons, ih (v / 128) (by omega) (by omega)]
      by_cases h2 : v < 256
      · have h3 := blen7 ⟨v / 2, by omega⟩ (by simp only; omega)
        simp only at h3
        have h4 : v / 128 / 2 = 0 := by omega
        rw [h3, h4]
        rfl
      · have h3 := Go.Proofs.YtkopoepoinkpeaaDoor.blen_half
        have e : blen (v / 2) = blen (v / 128 / 2) + 7 := by
          rw [h3 (v / 2) (by omega), h3 (v / 2 / 2) (by omega), h3 (v / 2 / 2 / 2) (by omega), h3 (v / 2 / 2 / 2 / 2) (by omega), h3 (v / 2 / 2 / 2 / 2 / 2) (by omega), h3 (v / 2 / 2 / 2 / 2 / 2 / 2) (by omega), h3 (v / 2 / 2 / 2 / 2 / 2 / 2 / 2) (by omega)]
          rw [show v / 2 / 2 / 2 / 2 / 2 / 2 / 2 / 2 = v / 128 / 2 by omega]
        omega
end Go.Proofs.YtkopoepoinkpeaaDoor
