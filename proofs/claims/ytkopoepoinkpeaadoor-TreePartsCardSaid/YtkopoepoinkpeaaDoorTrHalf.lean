/- Contract of package tree's halves. No condition. -/
import Derived.Deep.RegionLaw
import Derived.Deep.RegionWith
import Derived.Deep.DeepCutAuto
import Derived.Deep.CutBlock
import Derived.Test.YtkopoepoinkpeaaDoorTrDig
import Derived.Test.YtkopoepoinkpeaaDoorTrSplit
namespace Go.Proofs.YtkopoepoinkpeaaDoor
open Go.RowKit
set_option linter.unusedVariables false
set_option linter.unusedSimpArgs false
set_option maxRecDepth 100000

set_option maxHeartbeats 1000000 in
theorem halves_any (b o n c : Nat) (w : World) (h2 : 2 ≤ n) (hc : n ≤ c) (hm : n ≤ 1000000) :
    Calls Tryd.prog 29 #[.slice (some ⟨b, o, none⟩) n c] w fun e w' => e = .returned (.tuple #[.slice (some ⟨b, o, none⟩) (spl n) (spl n), .slice (some ⟨b, o + spl n * 32, none⟩) (n - spl n) (n - spl n)]) ∧ Drawn w w' := by
  have hsz := Lib.hid (zero_of_info info_hash).2
  have HS := Lib.hid (split_any (n : Int) w (by omega) (by omega))
  rw [Int.toNat_natCast] at HS
  have h3 := spl_lt h2
  have h4 := spl_pos h2
  obtain ⟨k, hk⟩ : ∃ k, spl n = k := ⟨_, rfl⟩
  rw [hk] at h3 h4 HS ⊢
  have hk0 : ¬ (n - k = 0) := by omega
  have hk1 : (k : Int) ≤ (n : Int) := by omega
  have hk2 : (n : Int) ≤ (c : Int) := by omega
  have hk3 : (0 : Int) ≤ (k : Int) := by omega
  have hk4 : (k : Int) ≤ (c : Int) := by omega
  have hk5 : ((n : Int) - (k : Int)).toNat = n - k := by omega
  clear hk
  go_enter Tryd.func29, Tryd.ntmps29
  go_wp2_with fail
  refine HS.out.mono ?_
  rintro _ _ ⟨rfl, rfl⟩
  go_wp2_with fail
  go_region
  go_wp2_with fail
  trace_state
  go_ret2
  exact ⟨rfl, Drawn.one _ _⟩
end Go.Proofs.YtkopoepoinkpeaaDoor
