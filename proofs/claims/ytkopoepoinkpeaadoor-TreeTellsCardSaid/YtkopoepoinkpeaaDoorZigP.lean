/- Plain facts on Zig and Zag: numbers with a sign as numbers without. No program. -/
import Derived.Test.YtkopoepoinkpeaaDoorWords
namespace Go.Proofs.YtkopoepoinkpeaaDoor
open Go.RowKit
set_option linter.unusedVariables false
set_option linter.unusedSimpArgs false
set_option maxRecDepth 100000

def zigI (n : Int) : Int := if 0 ≤ n then 2 * n else -2 * n - 1
def zagI (v : Int) : Int := if v % 2 = 0 then v / 2 else -(v / 2) - 1
theorem zag_zig (n : Int) : zagI (zigI n) = n := by unfold zagI zigI; split <;> split <;> omega
theorem zig_zag (v : Int) (h : 0 ≤ v) : zigI (zagI v) = v := by unfold zagI zigI; split <;> split <;> omega
theorem zigI_range (n : Int) (h1 : -9223372036854775808 ≤ n) (h2 : n ≤ 9223372036854775807) : 0 ≤ zigI n ∧ zigI n < 18446744073709551616 := by unfold zigI; split <;> omega
theorem zagI_range (v : Int) (h1 : 0 ≤ v) (h2 : v < 18446744073709551616) : -9223372036854775808 ≤ zagI v ∧ zagI v ≤ 9223372036854775807 := by unfold zagI; split <;> omega

theorem xor_ones (x : Nat) (h : x < 18446744073709551616) : x ^^^ 18446744073709551615 = 18446744073709551615 - x := by
  have h1 : (BitVec.ofNat 64 x ^^^ BitVec.allOnes 64).toNat = (~~~ (BitVec.ofNat 64 x)).toNat := by rw [BitVec.xor_allOnes]
  rw [BitVec.toNat_xor, BitVec.toNat_not, BitVec.toNat_ofNat, BitVec.toNat_allOnes] at h1
  have e : x % 2 ^ 64 = x := Nat.mod_eq_of_lt (by omega)
  rw [e] at h1
  exact h1
theorem zig_low (n : Int) (h0 : 0 ≤ n) (h2 : n ≤ 9223372036854775807) : bits .xor .u64 (n * 2) (n / 9223372036854775808) = zigI n := by
  obtain ⟨m, rfl⟩ := Int.eq_ofNat_of_zero_le h0
  rw [show ((m : Int) / 9223372036854775808) = ((0 : Nat) : Int) by omega, show ((m : Int) * 2) = ((m * 2 : Nat) : Int) by omega, u64_xor_nat _ _ (by omega) (by omega), Nat.xor_zero]
  unfold zigI
  rw [if_pos h0]; omega
theorem zig_high (n : Int) (h0 : ¬ 0 ≤ n) (h1 : -9223372036854775808 ≤ n) :
    bits .xor .u64 (IntKind.u64.wrap (IntKind.u64.wrap n * 2)) (IntKind.u64.wrap (n / 9223372036854775808)) = zigI n := by
  obtain ⟨m, hm⟩ := Int.eq_ofNat_of_zero_le (show 0 ≤ 2 * n + 18446744073709551616 by omega)
  rw [show IntKind.u64.wrap (n / 9223372036854775808) = ((18446744073709551615 : Nat) : Int) by rw [IntKind.wrap_u64]; omega, show IntKind.u64.wrap (IntKind.u64.wrap n * 2) = (m : Int) by rw [IntKind.wrap_u64, IntKind.wrap_u64]; omega,
    u64_xor_nat _ _ (by omega) (by omega), xor_ones _ (by omega)]
  unfold zigI
  rw [if_neg h0]; omega
theorem and_one (v : Nat) (hv : v < 18446744073709551616) : bits .and .u64 (v : Int) 1 = ((v % 2 : Nat) : Int) := by
  rw [show (1 : Int) = ((1 : Nat) : Int) from rfl, u64_and_nat _ _ hv (by omega), nat_mask1]
theorem zag_is (v : Nat) (hv : v < 18446744073709551616) : bits .xor .i64 ((v : Int) / 2) (wrap64 (-wrap64 (bits .and .u64 (v : Int) 1))) = zagI v := by
  rw [and_one v hv]
  have hx : (BitVec.ofInt 64 ((v : Int) / 2)).toNat = v / 2 := by
    rw [show ((v : Int) / 2) = ((v / 2 : Nat) : Int) by omega, BitVec.ofInt_natCast, BitVec.toNat_ofNat]; exact Nat.mod_eq_of_lt (by omega)
  show IntKind.i64.wrap ((BitVec.ofInt 64 ((v : Int) / 2) ^^^ BitVec.ofInt 64 (wrap64 (-wrap64 ((v % 2 : Nat) : Int)))).toNat : Int) = _
  unfold zagI
  by_cases h : v % 2 = 0
  · rw [h, show wrap64 (-wrap64 ((0 : Nat) : Int)) = 0 by decide +kernel, if_pos (by omega), show BitVec.ofInt 64 0 = 0#64 from rfl, BitVec.xor_zero, hx, IntKind.wrap_i64]
    omega
  · have h1 : v % 2 = 1 := by omega
    rw [h1, show wrap64 (-wrap64 ((1 : Nat) : Int)) = -1 by decide +kernel, if_neg (by omega), show BitVec.ofInt 64 (-1) = BitVec.allOnes 64 by decide, BitVec.xor_allOnes, BitVec.toNat_not, hx, IntKind.wrap_i64]
    omega

end Go.Proofs.YtkopoepoinkpeaaDoor
