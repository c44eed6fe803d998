/- Contract of the statements' own Same over numbers with a sign (layer 8's): it answers true of the same numbers; nothing changes. -/
import Derived.Deep.QuietTactic
import Derived.BigQuiet
import Derived.Test.YtppeagjklndidaaDoorJ9
import Derived.Test.YtppeagjklndidaaDoorJ3
namespace Go.Proofs.YtppeagjklndidaaDoor
open Go.RowKit
set_option linter.unusedVariables false
set_option linter.unusedSimpArgs false
set_option maxRecDepth 100000

set_option maxHeartbeats 400000 in
theorem sameZ_true (A A' : Option Addr) (n c c' : Nat) (l : List Int) (w : World) (h1 : Reads w w.heap.size 1 A n (zs l)) (h2 : Reads w w.heap.size 1 A' n (zs l)) (hn : n ≤ 140737488355328) :
    Calls Tryd.prog 8 #[.slice A n c, .slice A' n c'] w fun e w' => e = .returned (.bool true) ∧ Drawn w w' := by
  go_enter Tryd.func8, Tryd.ntmps8
  go_wp2_with fail
  go_loopw [5] (fun i wr => ∃ k : Nat, k ≤ n ∧ i = .int .i64 (k : Int) ∧ ∃ q, wr = w.drewN q) (fun i _ => n - (intOf i).toNat)
  case atStart => exact ⟨0, Nat.zero_le _, rfl, 0, rfl⟩
  case round =>
    obtain ⟨k, hk, rfl, q, rfl⟩ := hrel
    by_cases hlt : k < n
    · obtain ⟨ad, u, rfl, _, hu, hc⟩ := h1.at_ hlt
      obtain ⟨ad', u', rfl, _, hu', hc'⟩ := h2.at_ hlt
      obtain ⟨b, hb, rfl⟩ := zs_at hu
      obtain ⟨b', hb', rfl⟩ := zs_at hu'
      obtain rfl : b = b' := by rw [hb] at hb'; exact Option.some.inj hb'
      clear hb hb' hu hu'
      go_wp2_with fail
      go_quiet (fail)
      go_wp2_with fail
      exact ⟨⟨k + 1, by omega, by go_num, _, rfl⟩, by simp [intOf]; omega⟩
    · go_wp2_with fail
      go_ret
      exact ⟨rfl, _, rfl⟩
end Go.Proofs.YtppeagjklndidaaDoor
