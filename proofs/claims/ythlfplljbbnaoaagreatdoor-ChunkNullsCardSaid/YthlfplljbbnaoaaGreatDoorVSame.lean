/- Contract of the statements' own Same over a column's values: it answers true of the same values; nothing changes. -/
import Derived.Deep.QuietTactic
import Derived.BigQuiet
import Derived.Test.YthlfplljbbnaoaaGreatDoorJ5
namespace Go.Proofs.YthlfplljbbnaoaaGreatDoor
open Go.RowKit
set_option linter.unusedVariables false
set_option linter.unusedSimpArgs false
set_option maxRecDepth 100000

set_option maxHeartbeats 400000 in
theorem sameV_true (A A' : Option Addr) (n c c' : Nat) (l : List (Int × Int × Tx)) (w : World) (h1 : Reads w w.heap.size 3 A n (vs l)) (h2 : Reads w w.heap.size 3 A' n (vs l)) (hn : n ≤ 65536) :
    Calls Tryz.prog 15 #[.slice A n c, .slice A' n c'] w fun e w' => e = .returned (.bool true) ∧ Drawn w w' := by
  have e1 : l.length = n := by have := h1.1; rw [vs_length] at this; omega
  go_enter Tryz.func15, Tryz.ntmps15
  go_wp2_with fail
  go_loopw [5] (fun i wr => ∃ k : Nat, k ≤ n ∧ i = .int .i64 (k : Int) ∧ ∃ q, wr = w.drewN q) (fun i _ => n - (intOf i).toNat)
  case atStart => exact ⟨0, Nat.zero_le _, rfl, 0, rfl⟩
  case round =>
    obtain ⟨k, hk, rfl, q, rfl⟩ := hrel
    by_cases hlt : k < n
    · obtain ⟨⟨v0, v1, v2⟩, hv⟩ : ∃ v, l[k]? = some v := ⟨_, List.getElem?_eq_getElem (by omega)⟩
      obtain ⟨b, o, rfl, hb, x0, x1, x2⟩ := h1.val hv
      obtain ⟨b', o', rfl, hb', y0, y1, y2⟩ := h2.val hv
      have q1 : (v2 == v2) = true := by simp
      clear hv e1
      go_wp2_with fail
      go_quiet (fail)
      go_wp2_with fail
      exact ⟨⟨k + 1, by omega, by go_num, _, rfl⟩, by simp [intOf]; omega⟩
    · go_wp2_with fail
      go_ret
      exact ⟨rfl, _, rfl⟩
end Go.Proofs.YthlfplljbbnaoaaGreatDoor
