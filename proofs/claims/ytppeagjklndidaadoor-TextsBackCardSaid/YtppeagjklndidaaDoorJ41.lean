/- Texts joined: BlobPlain FirstRead. -/
import Derived.Test.YtppeagjklndidaaDoorJ40
import Derived.Test.YtppeagjklndidaaDoorJ27
import Derived.Test.YtppeagjklndidaaDoorJ26
import Derived.Test.YtppeagjklndidaaDoorPlRead
/- Plain facts on a blob that is read: what was put is read as it was, whatever stands behind it; what is read has just the bytes that it has when it is put. No program. -/
namespace Go.Proofs.YtppeagjklndidaaDoor
open Go.RowKit
set_option linter.unusedVariables false
set_option linter.unusedSimpArgs false
set_option maxRecDepth 100000

theorem blobS_some (l : List Nat) (at_ : Nat) (y : Int × Nat) (most : Int) : blobS l at_ (some y) most = ([], at_, some y) := rfl
theorem blobS_put (l p rest : List Nat) (at_ : Nat) (most : Int) (h : l.drop at_ = vb p.length ++ p ++ rest) (hp : (p.length : Int) ≤ most) (h64 : p.length < 18446744073709551616) :
    blobS l at_ none most = (p, at_ + ((vb p.length).length + p.length), none) := by
  have hk := look_vb p.length h64 (p ++ rest)
  have hB : lookB (l.drop at_) most = ((vb p.length).length, (vb p.length).length + p.length, 0) := by
    unfold lookB
    rw [h, List.append_assoc]
    simp only [hk, if_true]
    rw [if_neg (by omega), if_neg (by simp)]
  unfold blobS
  simp only [hB, if_true]
  rw [h, List.append_assoc, List.drop_take, Nat.add_sub_cancel_left, List.drop_append_of_le_length (Nat.le_refl _), List.drop_length, List.nil_append, List.take_append_of_le_length (Nat.le_refl _), List.take_length]
theorem blobS_ok (l : List Nat) (at_ : Nat) (most : Int) (y : Int × Nat) (h : (blobS l at_ none most).2.2 = some y) : y.1 ≠ 0 := by
  unfold blobS at h
  simp only at h
  split at h
  · cases h
  · rename_i h1
    injection h with h
    subst h
    show ((lookB (l.drop at_) most).2.2 : Int) ≠ 0
    omega
theorem blobS_is {l : List Nat} (hb : ∀ x ∈ l, x < 256) {at_ : Nat} (hat : at_ ≤ l.length) {most : Int} (h : (blobS l at_ none most).2.2 = none) :
    ∃ p, blobS l at_ none most = (p, at_ + ((vb p.length).length + p.length), none) ∧ (p.length : Int) ≤ most ∧ at_ + ((vb p.length).length + p.length) ≤ l.length ∧ l.take (at_ + ((vb p.length).length + p.length)) = l.take at_ ++ (vb p.length ++ p) ∧ ∀ x ∈ p, x < 256 := by
  have hE : (lookB (l.drop at_) most).2.2 = 0 := by
    unfold blobS at h
    simp only at h
    split at h
    · rename_i h1; exact h1
    · cases h
  rcases hk : lookF 0 0 (l.drop at_) with ⟨v, m, e⟩
  have hB := hE
  unfold lookB at hB
  rw [hk] at hB
  simp only at hB
  by_cases he : e = 0
  · subst he
    rw [if_pos rfl] at hB
    by_cases hq : most < 0 ∨ most < (v : Int)
    · rw [if_pos hq] at hB; simp at hB
    · rw [if_neg hq] at hB
      by_cases hs : (l.drop at_).length - m < v
      · rw [if_pos hs] at hB; simp at hB
      · have hlk := look_is (fun x hx => hb x (List.mem_of_mem_drop hx)) hk
        have hlen := look_len (l.drop at_) 0 0 (by rw [hk])
        rw [hk] at hlen
        simp only [List.length_drop] at hlen hs
        have hL : lookB (l.drop at_) most = (m, m + v, 0) := by
          unfold lookB
          rw [hk]
          simp only [if_true]
          rw [if_neg hq, if_neg (by rw [List.length_drop]; exact hs)]
        have hm : (vb v).length = m := by rw [← hlk.1, List.length_take, List.length_drop]; omega
        have hp : (((l.drop at_).take (m + v)).drop m).length = v := by rw [List.length_drop, List.length_take, List.length_drop]; omega
        refine ⟨((l.drop at_).take (m + v)).drop m, ?_, ?_, ?_, ?_, ?_⟩
        · unfold blobS
          simp only [hL, if_true]
          rw [hp, hm]
        · rw [hp]; omega
        · rw [hp, hm]; omega
        · rw [hp, hm, List.take_add, ← hlk.1]
          congr 1
          have h1 : ((l.drop at_).take (m + v)).take m = (l.drop at_).take m := by rw [List.take_take]; congr 1; omega
          rw [← h1, List.take_append_drop]
        · intro x hx
          exact hb x (List.mem_of_mem_drop (List.mem_of_mem_take (List.mem_of_mem_drop hx)))
  · rw [if_neg he] at hB; exact absurd hB he
end Go.Proofs.YtppeagjklndidaaDoor

/- A plain fact: the first short number is read, whatever stands behind it. No program. -/
namespace Go.Proofs.YtppeagjklndidaaDoor
open Go.RowKit
set_option linter.unusedVariables false
set_option linter.unusedSimpArgs false
set_option maxRecDepth 100000

/-- The first number is read, whatever stands behind it. -/
theorem first_read (z : Int) (hz : In64 z) (rest : List Nat) : vst (vb (zg z) ++ rest) 1 = ((vb (zg z)).length, none) ∧ zagI (vv (vb (zg z) ++ rest) 0 : Int) = z := by
  obtain ⟨h1, h2⟩ := vst_put [z] rest (by simpa using hz) 1 (by simp)
  rw [pl_one] at h1 h2
  simp only [List.take_succ_cons, List.take_zero, pl_one] at h1 h2
  refine ⟨h1, ?_⟩
  have e : getL (vb (zg z) ++ rest) 1 = [zagI (vv (vb (zg z) ++ rest) 0 : Int)] := by simp [getL]
  rw [e] at h2
  injection h2
end Go.Proofs.YtppeagjklndidaaDoor
