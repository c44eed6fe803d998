/- Contract of math/bits.Len64: how many bits the number has. No condition. -/
import Derived.Lib.Strings
import Derived.Lib.Slices
import Derived.Lib.Small
import Derived.Lib.Walk
import Derived.Lib.BitFns
import Derived.Test.YtkopoepoinkpeaaDoorMem
import Derived.Test.YtkopoepoinkpeaaDoorDigits
namespace Go.Proofs.YtkopoepoinkpeaaDoor
open Go.RowKit
set_option linter.unusedVariables false
set_option linter.unusedSimpArgs false
set_option maxRecDepth 100000

theorem blen_shift (k v : Nat) (h : 2 ^ k ≤ v) : blen v = blen (v / 2 ^ k) + k := by
  induction k generalizing v with
  | zero => simp
  | succ k ih =>
    have h2 : 2 ^ k ≤ v / 2 := by rw [Nat.pow_succ] at h; omega
    have := Nat.two_pow_pos k
    rw [blen_half v (by omega), ih _ h2, Nat.div_div_eq_div_mul, Nat.pow_succ, Nat.mul_comm 2]; omega
theorem blen8 : ∀ b : Fin 256, Lib.bitLen b.val = blen b.val := by decide +kernel
theorem size_len8tab : Lib.len8tab.size = 256 := by decide +kernel
theorem len8tab_fin : ∀ b : Fin 256, (Lib.len8tab[b.val]'(by rw [size_len8tab]; exact b.isLt)).toNat = blen b.val := by decide +kernel
theorem len8tab_at (x : Int) (n : Nat) (h0 : x.toNat = n) (h1 : n < 256) (hx : x.toNat < Lib.len8tab.size) (m : Nat) (hm : m ≤ 56) : wrap64 (wrap64 ((Lib.len8tab[x.toNat]'hx).toNat : Int)) = (blen n : Int) ∧ wrap64 ((m : Int) + wrap64 ((Lib.len8tab[x.toNat]'hx).toNat : Int)) = ((blen n + m : Nat) : Int) := by
  subst h0
  have h := len8tab_fin ⟨x.toNat, h1⟩
  simp only at h
  rw [h]
  have h8 : blen x.toNat ≤ 8 := (blen_le _ 8).2 (by omega)
  unfold wrap64
  omega
set_option maxHeartbeats 4000000 in
theorem len64_int (x : Int) (w : World) (h0 : 0 ≤ x) (h : x ≤ 18446744073709551615) :
    Calls Tryd.prog 48 #[.int .u64 x] w fun e w' => e = .returned (.int .i64 (blen x.toNat : Int)) ∧ w = w' := by
  have hs := size_len8tab
  go_enter Tryd.func48, Tryd.ntmps48
  go_wp2
  all_goals (go_ret; refine ⟨ret_of (congrArg (Value.int IntKind.i64) ?_), rfl⟩)
  all_goals first
    | (refine (len8tab_at _ (x.toNat / 2 ^ 56) (by omega) (by omega) _ 56 (by omega)).2.trans ?_; rw [← blen_shift 56 _ (by omega)])
    | (refine (len8tab_at _ (x.toNat / 2 ^ 48) (by omega) (by omega) _ 48 (by omega)).2.trans ?_; rw [← blen_shift 48 _ (by omega)])
    | (refine (len8tab_at _ (x.toNat / 2 ^ 40) (by omega) (by omega) _ 40 (by omega)).2.trans ?_; rw [← blen_shift 40 _ (by omega)])
    | (refine (len8tab_at _ (x.toNat / 2 ^ 32) (by omega) (by omega) _ 32 (by omega)).2.trans ?_; rw [← blen_shift 32 _ (by omega)])
    | (refine (len8tab_at _ (x.toNat / 2 ^ 24) (by omega) (by omega) _ 24 (by omega)).2.trans ?_; rw [← blen_shift 24 _ (by omega)])
    | (refine (len8tab_at _ (x.toNat / 2 ^ 16) (by omega) (by omega) _ 16 (by omega)).2.trans ?_; rw [← blen_shift 16 _ (by omega)])
    | (refine (len8tab_at _ (x.toNat / 2 ^ 8) (by omega) (by omega) _ 8 (by omega)).2.trans ?_; rw [← blen_shift 8 _ (by omega)])
    | exact (len8tab_at _ _ rfl (by omega) _ 0 (by omega)).1
theorem len64_any (x : Nat) (w : World) (h : x < 18446744073709551616) :
    Calls Tryd.prog 48 #[.int .u64 (x : Int)] w fun e w' => e = .returned (.int .i64 (blen x : Int)) ∧ w = w' :=
  len64_int x w (by omega) (by omega)
end Go.Proofs.YtkopoepoinkpeaaDoor
