/- Contracts of the library's slices.Min over int64 and of package fore's distance. -/
import Derived.Test.YtpjmenaejfdiaaaFoPlain
import Derived.Test.YtpjmenaejfdiaaaFoDist
import Derived.Test.YtpjmenaejfdiaaaI64Row
namespace Go.Proofs.Ytpjmenaejfdiaaa
open Go.RowKit
set_option linter.unusedVariables false
set_option linter.unusedSimpArgs false
set_option maxRecDepth 100000

theorem dist_any (y z : Int) (w : World) (hy : In64 y) (hz : In64 z) (h : y ≤ z) :
    Calls Try.prog 12 #[.int .i64 y, .int .i64 z] w fun e w' => e = .returned (.int .u64 ((z - y).toNat : Int)) ∧ w = w' := by
  have HD := Lib.hid (dist_eq hy hz h)
  go_enter Try.func12, Try.ntmps12
  go_wp2_with fail
  go_ret
  exact ⟨by rw [HD.out]; rfl, rfl⟩
set_option maxHeartbeats 1000000 in
theorem min_any (A : Option Addr) (n c : Nat) (l : List Int) (w : World) (hr : Reads w w.heap.size 1 A n (zs l)) (hl : ∀ z ∈ l, In64 z) (h0 : 0 < n) (hn : n ≤ 140737488355328) :
    Calls Try.prog 11 #[.slice A n c] w fun e w' => e = .returned (.int .i64 (ls l)) ∧ w = w' := by
  have e1 : l.length = n := by have := hr.1; rw [zs_length] at this; omega
  obtain ⟨ad, u, rfl, _, hu, hc⟩ := hr.at_ h0
  obtain ⟨z0, hz0, rfl⟩ := zs_at hu
  have hc0 : w.cell? ad = some (.int .i64 z0) := by simpa [Addr.add] using hc
  have E1 := Lib.hid e1; have HF := Lib.hid (ls_first hz0)
  have d1 : decide ((n : Int) < 1) = false := by simp; omega
  clear e1 hu hc hz0
  go_enter Try.func11, Try.ntmps11
  go_wp2_with fail
  go_loop [3, 4] (fun s3 s4 => ∃ (k : Nat) (m : Int), 1 ≤ k ∧ k ≤ n ∧ s4 = .int .i64 (k : Int) ∧ s3 = .int .i64 m ∧ Hid (m = ls (l.take k))) (fun _ i => n - (intOf i).toNat)
  case atStart => exact ⟨1, z0, Nat.le_refl _, by omega, rfl, rfl, Lib.hid HF.out.symm⟩
  case round =>
    obtain ⟨k, m, hk1, hk, rfl, rfl, hm⟩ := hrel
    by_cases hlt : k < n
    · obtain ⟨ad', u, e', _, hu, hc⟩ := hr.at_ hlt
      injection e' with e'
      subst e'
      obtain ⟨z, hz, rfl⟩ := zs_at hu
      have HS := Lib.hid (ls_step (by omega) hz)
      clear hu hz
      go_wp2_with fail
      go_round
      case rel =>
        refine ⟨k + 1, _, by omega, by omega, by go_num, rfl, Lib.hid ?_⟩
        rw [HS.out, ← hm.out]
        by_cases hz : z < m
        · rw [if_pos hz]; omega
        · rw [if_neg hz]; omega
      case measure => simp [intOf]; omega
    · obtain rfl : k = n := by omega
      go_wp2_with fail
      go_ret
      refine ⟨?_, rfl⟩
      rw [hm.out, List.take_of_length_le (by rw [E1.out]; exact Nat.le_refl _)]
      rfl
end Go.Proofs.Ytpjmenaejfdiaaa
