/- Texts joined: Len64 Mem64. -/
import Derived.Lib.Strings
import Derived.Lib.Slices
import Derived.Lib.Small
import Derived.Lib.Walk
import Derived.Lib.BitFns
import Derived.Test.YtppeagjklndidaaDoorJ3
import Derived.Test.YtppeagjklndidaaDoorDigits
/- Contract of math/bits.Len64: how many bits the number has. No condition. -/
namespace Go.Proofs.YtppeagjklndidaaDoor
open Go.RowKit
set_option linter.unusedVariables false
set_option linter.unusedSimpArgs false
set_option maxRecDepth 100000

theorem blen_shift (k v : Nat) (h : 2 ^ k ≤ v) : blen v = blen (v / 2 ^ k) + k := by
  induction k generalizing v with
  | zero => simp
  | succ k ih =>
    have h2 : 2 ^ k ≤ v / 2 := by rw [Nat.pow_succ] at h; omega
    have := Nat.two_pow_pos k
    rw [blen_half v (by omega), ih _ h2, Nat.div_div_eq_div_mul, Nat.pow_succ, Nat.mul_comm 2]; omega
theorem blen8 : ∀ b : Fin 256, Lib.bitLen b.val = blen b.val := by decide +kernel
theorem size_len8tab : Lib.len8tab.size = 256 := by decide +kernel
theorem len8tab_fin : ∀ b : Fin 256, (Lib.len8tab[b.val]'(by rw [size_len8tab]; exact b.isLt)).toNat = blen b.val := by decide +kernel
theorem len8tab_at (x : Int) (n : Nat) (h0 : x.toNat = n) (h1 : n < 256) (hx : x.toNat < Lib.len8tab.size) (m : Nat) (hm : m ≤ 56) : wrap64 (wrap64 ((Lib.len8tab[x.toNat]'hx).toNat : Int)) = (blen n : Int) ∧ wrap64 ((m : Int) + wrap64 ((Lib.len8tab[x.toNat]'hx).toNat : Int)) = ((blen n + m : Nat) : Int) := by
  subst h0
  have h := len8tab_fin ⟨x.toNat, h1⟩
  simp only at h
  rw [h]
  have h8 : blen x.toNat ≤ 8 := (blen_le _ 8).2 (by omega)
  unfold wrap64
  omega
set_option maxHeartbeats 4000000 in
theorem len64_int (x : Int) (w : World) (h0 : 0 ≤ x) (h : x ≤ 18446744073709551615) :
    Calls Tryd.prog 54 #[.int .u64 x] w fun e w' => e = .returned (.int .i64 (blen x.toNat : Int)) ∧ w = w' := by
  have hs := size_len8tab
  go_enter Tryd.func54, Tryd.ntmps54
  go_wp2
  all_goals (go_ret; refine ⟨ret_of (congrArg (Value.int IntKind.i64) ?_), rfl⟩)
  all_goals first
    | (refine (len8tab_at _ (x.toNat / 2 ^ 56) (by omega) (by omega) _ 56 (by omega)).2.trans ?_; rw [← blen_shift 56 _ (by omega)])
    | (refine (len8tab_at _ (x.toNat / 2 ^ 48) (by omega) (by omega) _ 48 (by omega)).2.trans ?_; rw [← blen_shift 48 _ (by omega)])
    | (refine (len8tab_at _ (x.toNat / 2 ^ 40) (by omega) (by omega) _ 40 (by omega)).2.trans ?_; rw [← blen_shift 40 _ (by omega)])
    | (refine (len8tab_at _ (x.toNat / 2 ^ 32) (by omega) (by omega) _ 32 (by omega)).2.trans ?_; rw [← blen_shift 32 _ (by omega)])
    | (refine (len8tab_at _ (x.toNat / 2 ^ 24) (by omega) (by omega) _ 24 (by omega)).2.trans ?_; rw [← blen_shift 24 _ (by omega)])
    | (refine (len8tab_at _ (x.toNat / 2 ^ 16) (by omega) (by omega) _ 16 (by omega)).2.trans ?_; rw [← blen_shift 16 _ (by omega)])
    | (refine (len8tab_at _ (x.toNat / 2 ^ 8) (by omega) (by omega) _ 8 (by omega)).2.trans ?_; rw [← blen_shift 8 _ (by omega)])
    | exact (len8tab_at _ _ rfl (by omega) _ 0 (by omega)).1
theorem len64_any (x : Nat) (w : World) (h : x < 18446744073709551616) :
    Calls Tryd.prog 54 #[.int .u64 (x : Int)] w fun e w' => e = .returned (.int .i64 (blen x : Int)) ∧ w = w' :=
  len64_int x w (by omega) (by omega)
end Go.Proofs.YtppeagjklndidaaDoor

/- Numbers of 64 bits in memory, over this program: lists of them as values; a slice of them that is made; what a function answers that hands out new ones. No condition. -/
namespace Go.Proofs.YtppeagjklndidaaDoor
open Go.RowKit
set_option linter.unusedVariables false
set_option linter.unusedSimpArgs false
set_option maxRecDepth 100000

/-- Numbers of 64 bits as values. -/
def us (l : List Nat) : List Value := l.map fun b : Nat => Value.int .u64 (b : Int)
theorem us_one (l : List Nat) : ∀ u ∈ us l, u.oneCell' = true := by
  intro u hu
  obtain ⟨b, _, rfl⟩ := List.mem_map.1 hu
  rfl
theorem us_append (l m : List Nat) : us (l ++ m) = us l ++ us m := by simp [us]
theorem us_length (l : List Nat) : (us l).length = l.length := by simp [us]
theorem us_nil : us [] = [] := rfl
theorem us_at {l : List Nat} {k : Nat} {u : Value} (h : (us l)[k]? = some u) : ∃ b, l[k]? = some b ∧ u = .int .u64 (b : Int) := by
  unfold us at h
  rw [List.getElem?_map] at h
  cases hb : l[k]? with
  | none => rw [hb] at h; cases h
  | some b => rw [hb] at h; injection h with h; exact ⟨b, rfl, h.symm⟩
theorem us_get {l : List Nat} {k a : Nat} (h : l[k]? = some a) : (us l)[k]? = some (.int .u64 (a : Int)) := by unfold us; rw [List.getElem?_map, h]; rfl
theorem us_take (l : List Nat) (k : Nat) : (us l).take k = us (l.take k) := by simp [us]
theorem us_drop (l : List Nat) (k : Nat) : (us l).drop k = us (l.drop k) := by simp [us]
theorem us_snoc (xs : List Value) (l : List Nat) (b : Nat) (z : Int) (h : z = (b : Int)) : xs ++ us l ++ [Value.int .u64 z] = xs ++ us (l ++ [b]) := by
  subst h; simp [us]
theorem info_u64 : (Tryd.prog.info? 45).map (fun i => (i.zero, i.size, i.bytes)) = some (some (.int .u64 0), 1, 8) := by kernel_rfl
theorem run_make_u64 (n c : Nat) (hnc : n ≤ c) (hc : c ≤ 35184372088832) (w : World) :
    (Instr.makeSlice 61 (.int .i64 (n : Int)) (.int .i64 (c : Int))).run Tryd.prog w = .ok (.slice (some ⟨w.heap.size, 0, none⟩) n c) (w.alloc (.cells (madeCells #[.int .u64 0] c) 45)) := by
  obtain ⟨i, hi, hz0, hz1, hz2⟩ := info_parts info_u64
  have hr := run_make (P := Tryd.prog) w 61 45 i _ Tryd.underlying61 hi hz0 .i64 .i64 n c (by omega) (by omega) (by rw [hz2]; omega) (by omega)
  rw [hz1] at hr
  simpa [Value.cells] using hr
/-- What a function answers that hands out new numbers: new memory that holds 'xs'. -/
def New64 (w : World) (xs : List Value) (n : Nat) (e : Ending) (w' : World) : Prop := ∃ v, e = .returned v ∧ w'.ownsRow w.heap.size 45 1 v n xs ∧ Below w.heap.size w w'
theorem mem_of_take {l : List Nat} {k b : Nat} (h : l[k]? = some b) : b ∈ l := List.mem_of_getElem? h
end Go.Proofs.YtppeagjklndidaaDoor
