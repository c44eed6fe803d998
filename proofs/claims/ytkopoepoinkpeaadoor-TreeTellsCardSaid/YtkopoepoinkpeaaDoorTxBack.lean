/- Bytes as a text, over this program. No condition. -/
import Derived.Laws.IdiomStrings
import Derived.Laws.BytesArg
import Derived.Test.YtkopoepoinkpeaaDoorTxPlain
import Derived.Test.YtkopoepoinkpeaaDoorTxVal
import Derived.Test.YtkopoepoinkpeaaDoorJ2
namespace Go.Proofs.YtkopoepoinkpeaaDoor
open Go.RowKit
set_option linter.unusedVariables false
set_option linter.unusedSimpArgs false
set_option maxRecDepth 100000

theorem tb_length (p : List Nat) : (tb p).length = p.length := by simp [tb]
theorem text_of {w : World} {B n : Nat} {A : Option Addr} {p : List Nat} (c : Nat) (hr : Reads w B 1 A n (bs p)) (hb : ∀ x ∈ p, x < 256) :
    (convert 37 9 (.slice A n c)).run Tryd.prog w = .ok (.string ⟨(tb p).toArray⟩) w := by
  have e1 : p.length = n := by have := hr.1; rw [bs_length] at this; omega
  cases A with
  | none =>
    have hn : n = 0 := by
      rcases Nat.eq_zero_or_pos n with h0 | h0
      · exact h0
      · obtain ⟨ad, h, _⟩ := hr.2 h0
        cases h
    subst hn
    obtain rfl : p = [] := List.eq_nil_of_length_eq_zero e1
    exact run_convert_bytes_nil w 37 5 Tryd.underlying37 Tryd.underlying5 0 c 9 Tryd.underlying9
  | some ad =>
    have h := run_convert_bytes_back (P := Tryd.prog) w 37 9 5 ad c (tb p) Tryd.underlying37 Tryd.underlying5 Tryd.underlying9 (fun j hj => by
      have hjp : j < p.length := by rw [tb_length] at hj; exact hj
      obtain ⟨ad', e, _, hc⟩ := hr.2 (by omega)
      injection e with e
      subst e
      refine hc j _ ?_
      have hx := hb p[j] (List.getElem_mem hjp)
      have e : (tb p)[j] = UInt8.ofNat p[j] := by simp [tb]
      rw [e, UInt8.toNat_ofNat_of_lt' hx]
      unfold bs
      rw [List.getElem?_map, List.getElem?_eq_getElem hjp]
      rfl)
    rw [tb_length, e1] at h
    exact h
end Go.Proofs.YtkopoepoinkpeaaDoor
