/- Texts joined: Len64 Mem64 Bits. -/
import Derived.Lib.Strings
import Derived.Lib.Slices
import Derived.Lib.Small
import Derived.Lib.Walk
import Derived.Lib.BitFns
import Derived.Test.YtppeagjklndidaaGreatDoorJ2
import Derived.Test.YtppeagjklndidaaGreatDoorDigits
/- Contract of math/bits.Len64: how many bits the number has. No condition. -/
namespace Go.Proofs.YtppeagjklndidaaGreatDoor
open Go.RowKit
set_option linter.unusedVariables false
set_option linter.unusedSimpArgs false
set_option maxRecDepth 100000

theorem blen_shift (k v : Nat) (h : 2 ^ k ≤ v) : blen v = blen (v / 2 ^ k) + k := by
  induction k generalizing v with
  | zero => simp
  | succ k ih =>
    have h2 : 2 ^ k ≤ v / 2 := by rw [Nat.pow_succ] at h; omega
    have := Nat.two_pow_pos k
    rw [blen_half v (by omega), ih _ h2, Nat.div_div_eq_div_mul, Nat.pow_succ, Nat.mul_comm 2]; omega
theorem blen8 : ∀ b : Fin 256, Lib.bitLen b.val = blen b.val := by decide +kernel
theorem size_len8tab : Lib.len8tab.size = 256 := by decide +kernel
theorem len8tab_fin : ∀ b : Fin 256, (Lib.len8tab[b.val]'(by rw [size_len8tab]; exact b.isLt)).toNat = blen b.val := by decide +kernel
theorem len8tab_at (x : Int) (n : Nat) (h0 : x.toNat = n) (h1 : n < 256) (hx : x.toNat < Lib.len8tab.size) (m : Nat) (hm : m ≤ 56) : wrap64 (wrap64 ((Lib.len8tab[x.toNat]'hx).toNat : Int)) = (blen n : Int) ∧ wrap64 ((m : Int) + wrap64 ((Lib.len8tab[x.toNat]'hx).toNat : Int)) = ((blen n + m : Nat) : Int) := by
  subst h0
  have h := len8tab_fin ⟨x.toNat, h1⟩
  simp only at h
  rw [h]
  have h8 : blen x.toNat ≤ 8 := (blen_le _ 8).2 (by omega)
  unfold wrap64
  omega
set_option maxHeartbeats 4000000 in
theorem len64_int (x : Int) (w : World) (h0 : 0 ≤ x) (h : x ≤ 18446744073709551615) :
    Calls Tryz.prog 79 #[.int .u64 x] w fun e w' => e = .returned (.int .i64 (blen x.toNat : Int)) ∧ w = w' := by
  have hs := size_len8tab
  go_enter Tryz.func79, Tryz.ntmps79
  go_wp2
  all_goals (go_ret; refine ⟨ret_of (congrArg (Value.int IntKind.i64) ?_), rfl⟩)
  all_goals first
    | (refine (len8tab_at _ (x.toNat / 2 ^ 56) (by omega) (by omega) _ 56 (by omega)).2.trans ?_; rw [← blen_shift 56 _ (by omega)])
    | (refine (len8tab_at _ (x.toNat / 2 ^ 48) (by omega) (by omega) _ 48 (by omega)).2.trans ?_; rw [← blen_shift 48 _ (by omega)])
    | (refine (len8tab_at _ (x.toNat / 2 ^ 40) (by omega) (by omega) _ 40 (by omega)).2.trans ?_; rw [← blen_shift 40 _ (by omega)])
    | (refine (len8tab_at _ (x.toNat / 2 ^ 32) (by omega) (by omega) _ 32 (by omega)).2.trans ?_; rw [← blen_shift 32 _ (by omega)])
    | (refine (len8tab_at _ (x.toNat / 2 ^ 24) (by omega) (by omega) _ 24 (by omega)).2.trans ?_; rw [← blen_shift 24 _ (by omega)])
    | (refine (len8tab_at _ (x.toNat / 2 ^ 16) (by omega) (by omega) _ 16 (by omega)).2.trans ?_; rw [← blen_shift 16 _ (by omega)])
    | (refine (len8tab_at _ (x.toNat / 2 ^ 8) (by omega) (by omega) _ 8 (by omega)).2.trans ?_; rw [← blen_shift 8 _ (by omega)])
    | exact (len8tab_at _ _ rfl (by omega) _ 0 (by omega)).1
theorem len64_any (x : Nat) (w : World) (h : x < 18446744073709551616) :
    Calls Tryz.prog 79 #[.int .u64 (x : Int)] w fun e w' => e = .returned (.int .i64 (blen x : Int)) ∧ w = w' :=
  len64_int x w (by omega) (by omega)
end Go.Proofs.YtppeagjklndidaaGreatDoor

/- Numbers of 64 bits in memory, over this program: lists of them as values; a slice of them that is made; what a function answers that hands out new ones. No condition. -/
namespace Go.Proofs.YtppeagjklndidaaGreatDoor
open Go.RowKit
set_option linter.unusedVariables false
set_option linter.unusedSimpArgs false
set_option maxRecDepth 100000

/-- Numbers of 64 bits as values. -/
def us (l : List Nat) : List Value := l.map fun b : Nat => Value.int .u64 (b : Int)
theorem us_one (l : List Nat) : ∀ u ∈ us l, u.oneCell' = true := by
  intro u hu
  obtain ⟨b, _, rfl⟩ := List.mem_map.1 hu
  rfl
theorem us_append (l m : List Nat) : us (l ++ m) = us l ++ us m := by simp [us]
theorem us_length (l : List Nat) : (us l).length = l.length := by simp [us]
theorem us_nil : us [] = [] := rfl
theorem us_at {l : List Nat} {k : Nat} {u : Value} (h : (us l)[k]? = some u) : ∃ b, l[k]? = some b ∧ u = .int .u64 (b : Int) := by
  unfold us at h
  rw [List.getElem?_map] at h
  cases hb : l[k]? with
  | none => rw [hb] at h; cases h
  | some b => rw [hb] at h; injection h with h; exact ⟨b, rfl, h.symm⟩
theorem us_get {l : List Nat} {k a : Nat} (h : l[k]? = some a) : (us l)[k]? = some (.int .u64 (a : Int)) := by unfold us; rw [List.getElem?_map, h]; rfl
theorem us_take (l : List Nat) (k : Nat) : (us l).take k = us (l.take k) := by simp [us]
theorem us_drop (l : List Nat) (k : Nat) : (us l).drop k = us (l.drop k) := by simp [us]
theorem us_snoc (xs : List Value) (l : List Nat) (b : Nat) (z : Int) (h : z = (b : Int)) : xs ++ us l ++ [Value.int .u64 z] = xs ++ us (l ++ [b]) := by
  subst h; simp [us]
theorem info_u64 : (Tryz.prog.info? 46).map (fun i => (i.zero, i.size, i.bytes)) = some (some (.int .u64 0), 1, 8) := by kernel_rfl
theorem run_make_u64 (n c : Nat) (hnc : n ≤ c) (hc : c ≤ 35184372088832) (w : World) :
    (Instr.makeSlice 51 (.int .i64 (n : Int)) (.int .i64 (c : Int))).run Tryz.prog w = .ok (.slice (some ⟨w.heap.size, 0, none⟩) n c) (w.alloc (.cells (madeCells #[.int .u64 0] c) 46)) := by
  obtain ⟨i, hi, hz0, hz1, hz2⟩ := info_parts info_u64
  have hr := run_make (P := Tryz.prog) w 51 46 i _ Tryz.underlying51 hi hz0 .i64 .i64 n c (by omega) (by omega) (by rw [hz2]; omega) (by omega)
  rw [hz1] at hr
  simpa [Value.cells] using hr
/-- What a function answers that hands out new numbers: new memory that holds 'xs'. -/
def New64 (w : World) (xs : List Value) (n : Nat) (e : Ending) (w' : World) : Prop := ∃ v, e = .returned v ∧ w'.ownsRow w.heap.size 46 1 v n xs ∧ Below w.heap.size w w'
theorem mem_of_take {l : List Nat} {k b : Nat} (h : l[k]? = some b) : b ∈ l := List.mem_of_getElem? h
end Go.Proofs.YtppeagjklndidaaGreatDoor

/- Contracts of package bits' Width and Size: the least width, and how many bytes. No condition beside the list's length. -/
namespace Go.Proofs.YtppeagjklndidaaGreatDoor
open Go.RowKit
set_option linter.unusedVariables false
set_option linter.unusedSimpArgs false
set_option maxRecDepth 100000

theorem width_any (A : Option Addr) (n c : Nat) (l : List Nat) (w : World) (hr : Reads w w.heap.size 1 A n (us l)) (hl : ∀ a ∈ l, a < 18446744073709551616) (hn : n ≤ 140737488355328) :
    Calls Tryz.prog 54 #[.slice A n c] w fun e w' => e = .returned (.int .i64 (wd l : Int)) ∧ w = w' := by
  have e1 : l.length = n := by have := hr.1; rw [us_length] at this; omega
  have E1 := Lib.hid e1; clear e1
  have HL := Lib.hid hl; clear hl
  go_enter Tryz.func54, Tryz.ntmps54
  go_wp2_with fail
  go_loop [3, 8] (fun s3 s8 => ∃ k m : Nat, k ≤ n ∧ s8 = .int .i64 (k : Int) ∧ s3 = .int .u64 (m : Int) ∧ Hid (m = orl (l.take k))) (fun _ i => n - (intOf i).toNat)
  case atStart => exact ⟨0, 0, Nat.zero_le _, rfl, rfl, Lib.hid rfl⟩
  case round =>
    obtain ⟨k, m, hk, rfl, rfl, hm⟩ := hrel
    by_cases hlt : k < n
    · obtain ⟨ad, u, rfl, _, hu, hc⟩ := hr.at_ hlt
      obtain ⟨b, hb, rfl⟩ := us_at hu
      have HB := Lib.hid hb
      clear hb hu
      go_wp2_with fail
      go_round
      case rel =>
        refine ⟨k + 1, orl (l.take (k + 1)), by omega, by go_num, ?_, Lib.hid rfl⟩
        have e : l.take (k + 1) = l.take k ++ [b] := by rw [List.take_add_one, HB.out]; rfl
        rw [e, orl_snoc, ← hm.out, u64_or_nat]
        · rw [hm.out]; exact orl_lt _ 64 fun a ha => HL.out a (List.mem_of_mem_take ha)
        · exact HL.out b (List.mem_of_getElem? HB.out)
      case measure => simp [intOf]; omega
    · obtain rfl : k = n := by omega
      have hmm : m < 18446744073709551616 := by rw [hm.out]; exact orl_lt _ 64 fun a ha => HL.out a (List.mem_of_mem_take ha)
      go_wp2_with (go_at_call 79; refine (len64_any m _ hmm).mono ?_; rintro e w' ⟨rfl, rfl⟩)
      go_ret
      refine ⟨ret_of (congrArg (Value.int .i64) ?_), rfl⟩
      rw [hm.out, blen_orl, List.take_of_length_le (by rw [E1.out]; omega)]

/-- How many bytes there are, or -1. -/
def szI (n w : Int) : Int := if 0 ≤ n ∧ n ≤ 65536 ∧ 0 ≤ w ∧ w ≤ 64 then (sz n.toNat w.toNat : Int) else -1
theorem sz_small (n w : Nat) (hn : n ≤ 65536) (hw : w ≤ 64) : n * w ≤ 4194304 := (Nat.mul_le_mul hn hw)
theorem size_any (n w : Int) (W : World) (hn : -9223372036854775808 ≤ n ∧ n ≤ 9223372036854775807) (hw : -9223372036854775808 ≤ w ∧ w ≤ 9223372036854775807) :
    Calls Tryz.prog 80 #[.int .i64 n, .int .i64 w] W fun e w' => e = .returned (.int .i64 (szI n w)) ∧ W = w' := by
  by_cases h : 0 ≤ n ∧ n ≤ 65536 ∧ 0 ≤ w ∧ w ≤ 64
  · have hz : szI n w = (sz n.toNat w.toNat : Int) := by unfold szI; rw [if_pos h]
    have HZ := Lib.hid hz; clear hz
    obtain ⟨h1, h2, h3, h4⟩ := h
    obtain ⟨n, rfl⟩ := Int.eq_ofNat_of_zero_le h1
    obtain ⟨w, rfl⟩ := Int.eq_ofNat_of_zero_le h3
    have hs := sz_small n w (by omega) (by omega)
    have hs2 : (n : Int) * (w : Int) ≤ 4194304 := by rw [← Int.natCast_mul]; omega
    have hs3 : 0 ≤ (n : Int) * (w : Int) := by rw [← Int.natCast_mul]; omega
    go_enter Tryz.func80, Tryz.ntmps80
    go_wp2_with fail
    go_ret
    refine ⟨ret_of (congrArg (Value.int .i64) ?_), rfl⟩
    rw [HZ.out]
    unfold sz
    simp
    omega
  · have hz : szI n w = -1 := by unfold szI; rw [if_neg h]
    have HZ := Lib.hid hz; clear hz
    by_cases h1 : n < 0
    · clear h
      go_enter Tryz.func80, Tryz.ntmps80
      go_wp2_with fail
      go_ret
      exact ⟨ret_of (congrArg (Value.int .i64) HZ.out.symm), rfl⟩
    · by_cases h2 : 65536 < n
      · clear h
        go_enter Tryz.func80, Tryz.ntmps80
        go_wp2_with fail
        go_ret
        exact ⟨ret_of (congrArg (Value.int .i64) HZ.out.symm), rfl⟩
      · by_cases h3 : w < 0
        · clear h
          go_enter Tryz.func80, Tryz.ntmps80
          go_wp2_with fail
          go_ret
          exact ⟨ret_of (congrArg (Value.int .i64) HZ.out.symm), rfl⟩
        · have h4 : 64 < w := by omega
          clear h
          go_enter Tryz.func80, Tryz.ntmps80
          go_wp2_with fail
          go_ret
          exact ⟨ret_of (congrArg (Value.int .i64) HZ.out.symm), rfl⟩
end Go.Proofs.YtppeagjklndidaaGreatDoor
