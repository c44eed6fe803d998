/- Contracts of math/bits.Len and of package tree's Split. No condition. -/
import Derived.Test.YtkopoepoinkpeaaDoorLen64
import Derived.Test.YtkopoepoinkpeaaDoorTrPlain
namespace Go.Proofs.YtkopoepoinkpeaaDoor
open Go.RowKit
set_option linter.unusedVariables false
set_option linter.unusedSimpArgs false
set_option maxRecDepth 100000

theorem len_any (x : Nat) (w : World) (h : x < 18446744073709551616) :
    Calls Tryd.prog 33 #[.int .u64 (x : Int)] w fun e w' => e = .returned (.int .i64 (blen x : Int)) ∧ w = w' := by
  have HC := Lib.hid (len64_any x w h)
  go_enter Tryd.func33, Tryd.ntmps33
  go_wp2_with fail
  refine HC.out.mono ?_
  rintro _ _ ⟨rfl, rfl⟩
  go_wp2_with fail
  go_ret
  exact ⟨rfl, rfl⟩
theorem split_any (n : Int) (w : World) (h0 : -9223372036854775808 ≤ n) (h1 : n ≤ 9223372036854775807) :
    Calls Tryd.prog 14 #[.int .i64 n] w fun e w' => e = .returned (.int .i64 (spl n.toNat : Int)) ∧ w = w' := by
  by_cases h2 : n < 2
  · rw [spl_small (by omega)]
    go_enter Tryd.func14, Tryd.ntmps14
    go_wp2_with fail
    go_ret
    exact ⟨rfl, rfl⟩
  · obtain ⟨m, rfl⟩ : ∃ m : Nat, n = (m : Int) + 1 := ⟨(n - 1).toNat, by omega⟩
    have HC := Lib.hid (len_any m w (by omega))
    have hb1 : m < 2 ^ blen m := (blen_le m (blen m)).1 (Nat.le_refl _)
    have hb2 : 0 < blen m := by
      rcases Nat.eq_zero_or_pos (blen m) with h | h
      · rw [h] at hb1; simp at hb1; omega
      · exact h
    have hb3 : 2 ^ (blen m - 1) ≤ m := by
      rcases Nat.lt_or_ge m (2 ^ (blen m - 1)) with h | h
      · have := (blen_le m (blen m - 1)).2 h; omega
      · exact h
    obtain ⟨e, he⟩ : ∃ e, blen m = e + 1 := ⟨blen m - 1, by omega⟩
    have hs : spl (((m : Int) + 1).toNat) = 2 ^ e := by
      rw [he] at hb1 hb3
      rw [Nat.pow_succ] at hb1
      simp only [Nat.add_sub_cancel] at hb3
      exact spl_is (by omega) (by omega)
    have he62 : e < 63 := by
      have : 2 ^ e < 2 ^ 63 := by rw [he] at hb3; simp only [Nat.add_sub_cancel] at hb3; omega
      exact (Nat.pow_lt_pow_iff_right (a := 2) (by omega)).1 this
    rw [hs]
    rw [he] at HC
    have hi1 : (m : Int) + 1 - 1 = (m : Int) := by omega
    have hi2 : IntKind.i64.wrap ((m : Int) + 1 - 1) = (m : Int) := by rw [hi1]; exact IntWalk.i64_in _ (by omega)
    clear he hs hb1 hb2 hb3
    go_enter Tryd.func14, Tryd.ntmps14
    go_wp2_with fail
    refine HC.out.mono ?_
    rintro _ _ ⟨rfl, rfl⟩
    have hs63 : (2 : Int) ^ e ≤ 4611686018427387904 := by
      have h : (2 : Nat) ^ e ≤ 2 ^ 62 := Nat.pow_le_pow_right (by omega) (by omega)
      have h3 : ((2 ^ e : Nat) : Int) ≤ ((2 ^ 62 : Nat) : Int) := Int.ofNat_le.2 h
      simpa using h3
    have hp0 : (0 : Int) < (2 : Int) ^ e := by
      have h3 : (0 : Int) < ((2 ^ e : Nat) : Int) := Int.ofNat_lt.2 (Nat.two_pow_pos e)
      simpa using h3
    have hw2 : IntKind.i64.wrap ((2 : Int) ^ e) = (2 : Int) ^ e := IntWalk.i64_in _ (by omega)
    go_wp2_with fail
    go_ret
    exact ⟨ret_of (congrArg (Value.int IntKind.i64) (by push_cast; rfl)), rfl⟩
end Go.Proofs.YtkopoepoinkpeaaDoor
