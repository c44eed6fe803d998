/- Texts joined: Len64 TrSplit TrHalf. -/
import Derived.Lib.Strings
import Derived.Lib.Slices
import Derived.Lib.Small
import Derived.Lib.Walk
import Derived.Lib.BitFns
import Derived.Test.YtfpbijnlmlaloaaDoorJ2
import Derived.Test.YtfpbijnlmlaloaaDoorDigits
import Derived.Test.YtfpbijnlmlaloaaDoorTrPlain
import Derived.Deep.RegionLaw
import Derived.Deep.RegionWith
import Derived.Deep.DeepCutAuto
import Derived.Deep.CutBlock
import Derived.Test.YtfpbijnlmlaloaaDoorTrDig
/- Contract of math/bits.Len64: how many bits the number has. No condition. -/
namespace Go.Proofs.YtfpbijnlmlaloaaDoor
open Go.RowKit
set_option linter.unusedVariables false
set_option linter.unusedSimpArgs false
set_option maxRecDepth 100000

theorem blen_shift (k v : Nat) (h : 2 ^ k ≤ v) : blen v = blen (v / 2 ^ k) + k := by
  induction k generalizing v with
  | zero => simp
  | succ k ih =>
    have h2 : 2 ^ k ≤ v / 2 := by rw [Nat.pow_succ] at h; omega
    have := Nat.two_pow_pos k
    rw [blen_half v (by omega), ih _ h2, Nat.div_div_eq_div_mul, Nat.pow_succ, Nat.mul_comm 2]; omega
theorem blen8 : ∀ b : Fin 256, Lib.bitLen b.val = blen b.val := by decide +kernel
theorem size_len8tab : Lib.len8tab.size = 256 := by decide +kernel
theorem len8tab_fin : ∀ b : Fin 256, (Lib.len8tab[b.val]'(by rw [size_len8tab]; exact b.isLt)).toNat = blen b.val := by decide +kernel
theorem len8tab_at (x : Int) (n : Nat) (h0 : x.toNat = n) (h1 : n < 256) (hx : x.toNat < Lib.len8tab.size) (m : Nat) (hm : m ≤ 56) : wrap64 (wrap64 ((Lib.len8tab[x.toNat]'hx).toNat : Int)) = (blen n : Int) ∧ wrap64 ((m : Int) + wrap64 ((Lib.len8tab[x.toNat]'hx).toNat : Int)) = ((blen n + m : Nat) : Int) := by
  subst h0
  have h := len8tab_fin ⟨x.toNat, h1⟩
  simp only at h
  rw [h]
  have h8 : blen x.toNat ≤ 8 := (blen_le _ 8).2 (by omega)
  unfold wrap64
  omega
set_option maxHeartbeats 4000000 in
theorem len64_int (x : Int) (w : World) (h0 : 0 ≤ x) (h : x ≤ 18446744073709551615) :
    Calls Tryd.prog 39 #[.int .u64 x] w fun e w' => e = .returned (.int .i64 (blen x.toNat : Int)) ∧ w = w' := by
  have hs := size_len8tab
  go_enter Tryd.func39, Tryd.ntmps39
  go_wp2
  all_goals (go_ret; refine ⟨ret_of (congrArg (Value.int IntKind.i64) ?_), rfl⟩)
  all_goals first
    | (refine (len8tab_at _ (x.toNat / 2 ^ 56) (by omega) (by omega) _ 56 (by omega)).2.trans ?_; rw [← blen_shift 56 _ (by omega)])
    | (refine (len8tab_at _ (x.toNat / 2 ^ 48) (by omega) (by omega) _ 48 (by omega)).2.trans ?_; rw [← blen_shift 48 _ (by omega)])
    | (refine (len8tab_at _ (x.toNat / 2 ^ 40) (by omega) (by omega) _ 40 (by omega)).2.trans ?_; rw [← blen_shift 40 _ (by omega)])
    | (refine (len8tab_at _ (x.toNat / 2 ^ 32) (by omega) (by omega) _ 32 (by omega)).2.trans ?_; rw [← blen_shift 32 _ (by omega)])
    | (refine (len8tab_at _ (x.toNat / 2 ^ 24) (by omega) (by omega) _ 24 (by omega)).2.trans ?_; rw [← blen_shift 24 _ (by omega)])
    | (refine (len8tab_at _ (x.toNat / 2 ^ 16) (by omega) (by omega) _ 16 (by omega)).2.trans ?_; rw [← blen_shift 16 _ (by omega)])
    | (refine (len8tab_at _ (x.toNat / 2 ^ 8) (by omega) (by omega) _ 8 (by omega)).2.trans ?_; rw [← blen_shift 8 _ (by omega)])
    | exact (len8tab_at _ _ rfl (by omega) _ 0 (by omega)).1
theorem len64_any (x : Nat) (w : World) (h : x < 18446744073709551616) :
    Calls Tryd.prog 39 #[.int .u64 (x : Int)] w fun e w' => e = .returned (.int .i64 (blen x : Int)) ∧ w = w' :=
  len64_int x w (by omega) (by omega)
end Go.Proofs.YtfpbijnlmlaloaaDoor

/- Contracts of math/bits.Len and of package tree's Split. No condition. -/
namespace Go.Proofs.YtfpbijnlmlaloaaDoor
open Go.RowKit
set_option linter.unusedVariables false
set_option linter.unusedSimpArgs false
set_option maxRecDepth 100000

theorem len_any (x : Nat) (w : World) (h : x < 18446744073709551616) :
    Calls Tryd.prog 27 #[.int .u64 (x : Int)] w fun e w' => e = .returned (.int .i64 (blen x : Int)) ∧ w = w' := by
  have HC := Lib.hid (len64_any x w h)
  go_enter Tryd.func27, Tryd.ntmps27
  go_wp2_with fail
  refine HC.out.mono ?_
  rintro _ _ ⟨rfl, rfl⟩
  go_wp2_with fail
  go_ret
  exact ⟨rfl, rfl⟩
theorem split_any (n : Int) (w : World) (h0 : -9223372036854775808 ≤ n) (h1 : n ≤ 9223372036854775807) :
    Calls Tryd.prog 18 #[.int .i64 n] w fun e w' => e = .returned (.int .i64 (spl n.toNat : Int)) ∧ w = w' := by
  by_cases h2 : n < 2
  · rw [spl_small (by omega)]
    go_enter Tryd.func18, Tryd.ntmps18
    go_wp2_with fail
    go_ret
    exact ⟨rfl, rfl⟩
  · obtain ⟨m, rfl⟩ : ∃ m : Nat, n = (m : Int) + 1 := ⟨(n - 1).toNat, by omega⟩
    have HC := Lib.hid (len_any m w (by omega))
    have hb1 : m < 2 ^ blen m := (blen_le m (blen m)).1 (Nat.le_refl _)
    have hb2 : 0 < blen m := by
      rcases Nat.eq_zero_or_pos (blen m) with h | h
      · rw [h] at hb1; simp at hb1; omega
      · exact h
    have hb3 : 2 ^ (blen m - 1) ≤ m := by
      rcases Nat.lt_or_ge m (2 ^ (blen m - 1)) with h | h
      · have := (blen_le m (blen m - 1)).2 h; omega
      · exact h
    obtain ⟨e, he⟩ : ∃ e, blen m = e + 1 := ⟨blen m - 1, by omega⟩
    have hs : spl (((m : Int) + 1).toNat) = 2 ^ e := by
      rw [he] at hb1 hb3
      rw [Nat.pow_succ] at hb1
      simp only [Nat.add_sub_cancel] at hb3
      exact spl_is (by omega) (by omega)
    have he62 : e < 63 := by
      have : 2 ^ e < 2 ^ 63 := by rw [he] at hb3; simp only [Nat.add_sub_cancel] at hb3; omega
      exact (Nat.pow_lt_pow_iff_right (a := 2) (by omega)).1 this
    rw [hs]
    rw [he] at HC
    have hi1 : (m : Int) + 1 - 1 = (m : Int) := by omega
    have hi2 : IntKind.i64.wrap ((m : Int) + 1 - 1) = (m : Int) := by rw [hi1]; exact IntWalk.i64_in _ (by omega)
    clear he hs hb1 hb2 hb3
    go_enter Tryd.func18, Tryd.ntmps18
    go_wp2_with fail
    refine HC.out.mono ?_
    rintro _ _ ⟨rfl, rfl⟩
    have hs63 : (2 : Int) ^ e ≤ 4611686018427387904 := by
      have h : (2 : Nat) ^ e ≤ 2 ^ 62 := Nat.pow_le_pow_right (by omega) (by omega)
      have h3 : ((2 ^ e : Nat) : Int) ≤ ((2 ^ 62 : Nat) : Int) := Int.ofNat_le.2 h
      simpa using h3
    have hp0 : (0 : Int) < (2 : Int) ^ e := by
      have h3 : (0 : Int) < ((2 ^ e : Nat) : Int) := Int.ofNat_lt.2 (Nat.two_pow_pos e)
      simpa using h3
    have hw2 : IntKind.i64.wrap ((2 : Int) ^ e) = (2 : Int) ^ e := IntWalk.i64_in _ (by omega)
    go_wp2_with fail
    go_ret
    exact ⟨ret_of (congrArg (Value.int IntKind.i64) (by push_cast; rfl)), rfl⟩
end Go.Proofs.YtfpbijnlmlaloaaDoor

/- Contract of package tree's halves. No condition. -/
namespace Go.Proofs.YtfpbijnlmlaloaaDoor
open Go.RowKit
set_option linter.unusedVariables false
set_option linter.unusedSimpArgs false
set_option maxRecDepth 100000

set_option maxHeartbeats 1000000 in
theorem halves_any (b o n c : Nat) (w : World) (h2 : 2 ≤ n) (hc : n ≤ c) (hm : n ≤ 1000000) :
    Calls Tryd.prog 36 #[.slice (some ⟨b, o, none⟩) n c] w fun e w' => e = .returned (.tuple #[.slice (some ⟨b, o, none⟩) (spl n) (spl n), .slice (some ⟨b, o + spl n * 32, none⟩) (n - spl n) (n - spl n)]) ∧ Drawn w w' := by
  have hsz := Lib.hid (zero_of_info info_hash).2
  have HS := Lib.hid (split_any (n : Int) w (by omega) (by omega))
  rw [Int.toNat_natCast] at HS
  have h3 := spl_lt h2
  have h4 := spl_pos h2
  obtain ⟨k, hk⟩ : ∃ k, spl n = k := ⟨_, rfl⟩
  rw [hk] at h3 h4 HS ⊢
  have hk0 : ¬ (n - k = 0) := by omega
  have hk1 : (k : Int) ≤ (n : Int) := by omega
  have hk2 : (n : Int) ≤ (c : Int) := by omega
  have hk3 : (0 : Int) ≤ (k : Int) := by omega
  have hk4 : (k : Int) ≤ (c : Int) := by omega
  have hk5 : ((n : Int) - (k : Int)).toNat = n - k := by omega
  clear hk
  go_enter Tryd.func36, Tryd.ntmps36
  go_wp2_with fail
  refine HS.out.mono ?_
  rintro _ _ ⟨rfl, rfl⟩
  go_wp2_with fail
  go_region
  go_wp2_with fail
  trace_state
  go_ret2
  exact ⟨rfl, Drawn.one _ _⟩
end Go.Proofs.YtfpbijnlmlaloaaDoor
