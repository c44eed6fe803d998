/- Contracts of the document's answers for layer 2: bit, Size. No condition beside the list's length. -/
import Derived.Test.YtppeagjklndidaaGreatDoorJ18
import Derived.Test.YtppeagjklndidaaGreatDoorJ42
namespace Go.Proofs.YtppeagjklndidaaGreatDoor
open Go.RowKit
set_option linter.unusedVariables false
set_option linter.unusedSimpArgs false
set_option maxRecDepth 100000

theorem bit_any (v : Nat) (kI : Int) (k : Nat) (hk : kI = (k : Int)) (w : World) (hv : v < 18446744073709551616) (h64 : k < 64) :
    Calls Tryz.prog 42 #[.int .u64 (v : Int), .int .i64 kI] w fun e w' => e = .returned (.bool (bitB v k)) ∧ w = w' := by
  subst hk
  go_enter Tryz.func42, Tryz.ntmps42
  go_wp2_with fail
  go_ret
  refine ⟨ret_of (congrArg Value.bool ?_), rfl⟩
  have e : (v : Int) / 2 ^ k = ((v / 2 ^ k : Nat) : Int) := by push_cast; rfl
  unfold bitB
  rw [e]
  generalize v / 2 ^ k = y
  rw [Int.tmod_eq_emod_of_nonneg (by omega), Bool.eq_iff_iff]
  simp
  omega

theorem refSize_any (n w : Int) (W : World) (hn : -9223372036854775808 ≤ n ∧ n ≤ 9223372036854775807) (hw : -9223372036854775808 ≤ w ∧ w ≤ 9223372036854775807) :
    Calls Tryz.prog 41 #[.int .i64 n, .int .i64 w] W fun e w' => e = .returned (.int .i64 (szI n w)) ∧ W = w' := by
  by_cases h : 0 ≤ n ∧ n ≤ 65536 ∧ 0 ≤ w ∧ w ≤ 64
  · have hz : szI n w = (sz n.toNat w.toNat : Int) := by unfold szI; rw [if_pos h]
    have HZ := Lib.hid hz; clear hz
    obtain ⟨h1, h2, h3, h4⟩ := h
    obtain ⟨n, rfl⟩ := Int.eq_ofNat_of_zero_le h1
    obtain ⟨w, rfl⟩ := Int.eq_ofNat_of_zero_le h3
    have hs := sz_small n w (by omega) (by omega)
    have hs2 : (n : Int) * (w : Int) ≤ 4194304 := by rw [← Int.natCast_mul]; omega
    have hs3 : 0 ≤ (n : Int) * (w : Int) := by rw [← Int.natCast_mul]; omega
    by_cases h8 : 8 * ((n : Int) * (w : Int) / 8) < (n : Int) * (w : Int)
    all_goals
      go_enter Tryz.func41, Tryz.ntmps41
      go_wp2_with fail
      go_ret
      refine ⟨ret_of (congrArg (Value.int .i64) ?_), rfl⟩
      rw [HZ.out]
      unfold sz
      simp
      omega
  · have hz : szI n w = -1 := by unfold szI; rw [if_neg h]
    have HZ := Lib.hid hz; clear hz
    by_cases h1 : n < 0
    · clear h
      go_enter Tryz.func41, Tryz.ntmps41
      go_wp2_with fail
      go_ret
      exact ⟨ret_of (congrArg (Value.int .i64) HZ.out.symm), rfl⟩
    · by_cases h2 : 65536 < n
      · clear h
        go_enter Tryz.func41, Tryz.ntmps41
        go_wp2_with fail
        go_ret
        exact ⟨ret_of (congrArg (Value.int .i64) HZ.out.symm), rfl⟩
      · by_cases h3 : w < 0
        · clear h
          go_enter Tryz.func41, Tryz.ntmps41
          go_wp2_with fail
          go_ret
          exact ⟨ret_of (congrArg (Value.int .i64) HZ.out.symm), rfl⟩
        · have h4 : 64 < w := by omega
          clear h
          go_enter Tryz.func41, Tryz.ntmps41
          go_wp2_with fail
          go_ret
          exact ⟨ret_of (congrArg (Value.int .i64) HZ.out.symm), rfl⟩
end Go.Proofs.YtppeagjklndidaaGreatDoor
