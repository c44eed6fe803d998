/- Texts joined: TxCmp Hmf Opened. -/
import Derived.Test.YtppeagjklndidaaTxOrd
import Derived.Laws.Strings
import Derived.Test.YtppeagjklndidaaJ3
/- How the model orders texts: the laws of '>=' and '<=' on them, and their order as a truth. No program, no condition. -/
namespace Go.Proofs.Ytppeagjklndidaa
open Go.RowKit
theorem dec_tlt (a b : Tx) : decide (tlt a b) = Op.bytesLess a b := by rw [Bool.eq_iff_iff, decide_eq_true_iff]; exact Iff.rfl
theorem less_of {a b : Tx} (h : tlt a b) : Op.bytesLess a b = true := h
theorem less_not {a b : Tx} (h : ¬ tlt a b) : Op.bytesLess a b = false := by rw [← dec_tlt]; simp [h]
theorem binOp_geq_tx (t : TypeId) (a b : List UInt8) : binOp .geq t (.string ⟨a.toArray⟩) (.string ⟨b.toArray⟩) = pure (.bool !(decide (tlt a b))) := by
  rw [dec_tlt]; simp [binOp, Op.stringOp]
theorem binOp_leq_tx (t : TypeId) (a b : List UInt8) : binOp .leq t (.string ⟨a.toArray⟩) (.string ⟨b.toArray⟩) = pure (.bool !(decide (tlt b a))) := by
  have h : (Op.bytesLess a b || a == b) = !(decide (tlt b a)) := by
    by_cases h1 : tlt a b
    · rw [less_of h1, show decide (tlt b a) = false by simp [tlt_asymm h1]]; rfl
    · rw [less_not h1]
      by_cases h2 : a = b
      · subst h2
        rw [show decide (tlt a a) = false by simp [tlt_irrefl a]]; simp
      · rw [show decide (tlt b a) = true by simp [tlt_total h1 h2]]; simp [h2]
  rw [← h]; simp [binOp, Op.stringOp]
end Go.Proofs.Ytppeagjklndidaa

/- A function value that is made. No condition. -/
namespace Go.Proofs.Ytppeagjklndidaa
open Go.RowKit
theorem hmfP (fn : Fn) (first cap : Array Value) (w : World) : (Instr.makeFunc fn first cap).run Try.prog w = .ok (.func fn first cap) w := by rfl
end Go.Proofs.Ytppeagjklndidaa

/- What a function answers that hands out new bytes, opened; what reads goes on reading. -/
namespace Go.Proofs.Ytppeagjklndidaa
open Go.RowKit
set_option linter.unusedVariables false
set_option linter.unusedSimpArgs false
set_option maxRecDepth 100000

theorem New.opened {w w' : World} {xs : List Value} {n : Nat} {e : Ending} (h : New w xs n e w') : ∃ A c, e = .returned (.slice A n c) ∧ n ≤ c ∧ Reads w' w'.heap.size 1 A n xs ∧ Below w.heap.size w w' := by
  obtain ⟨v, rfl, hown, hb⟩ := h
  obtain ⟨A, c, rfl, hc, _, hr⟩ := own_slice hown
  exact ⟨A, c, rfl, hc, hr, hb⟩
theorem Reads.next {w w' : World} {size n : Nat} {A : Option Addr} {xs : List Value} (h : Reads w w.heap.size size A n xs) (hb : Below w.heap.size w w') : Reads w' w'.heap.size size A n xs :=
  (h.below hb).more hb.size
end Go.Proofs.Ytppeagjklndidaa
