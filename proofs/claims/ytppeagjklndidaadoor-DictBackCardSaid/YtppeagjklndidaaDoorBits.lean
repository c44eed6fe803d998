/- Contracts of package bits' Width and Size: the least width, and how many bytes. No condition beside the list's length. -/
import Derived.Test.YtppeagjklndidaaDoorJ21
namespace Go.Proofs.YtppeagjklndidaaDoor
open Go.RowKit
set_option linter.unusedVariables false
set_option linter.unusedSimpArgs false
set_option maxRecDepth 100000

theorem width_any (A : Option Addr) (n c : Nat) (l : List Nat) (w : World) (hr : Reads w w.heap.size 1 A n (us l)) (hl : ∀ a ∈ l, a < 18446744073709551616) (hn : n ≤ 140737488355328) :
    Calls Tryd.prog 32 #[.slice A n c] w fun e w' => e = .returned (.int .i64 (wd l : Int)) ∧ w = w' := by
  have e1 : l.length = n := by have := hr.1; rw [us_length] at this; omega
  have E1 := Lib.hid e1; clear e1
  have HL := Lib.hid hl; clear hl
  go_enter Tryd.func32, Tryd.ntmps32
  go_wp2_with fail
  go_loop [3, 8] (fun s3 s8 => ∃ k m : Nat, k ≤ n ∧ s8 = .int .i64 (k : Int) ∧ s3 = .int .u64 (m : Int) ∧ Hid (m = orl (l.take k))) (fun _ i => n - (intOf i).toNat)
  case atStart => exact ⟨0, 0, Nat.zero_le _, rfl, rfl, Lib.hid rfl⟩
  case round =>
    obtain ⟨k, m, hk, rfl, rfl, hm⟩ := hrel
    by_cases hlt : k < n
    · obtain ⟨ad, u, rfl, _, hu, hc⟩ := hr.at_ hlt
      obtain ⟨b, hb, rfl⟩ := us_at hu
      have HB := Lib.hid hb
      clear hb hu
      go_wp2_with fail
      go_round
      case rel =>
        refine ⟨k + 1, orl (l.take (k + 1)), by omega, by go_num, ?_, Lib.hid rfl⟩
        have e : l.take (k + 1) = l.take k ++ [b] := by rw [List.take_add_one, HB.out]; rfl
        rw [e, orl_snoc, ← hm.out, u64_or_nat]
        · rw [hm.out]; exact orl_lt _ 64 fun a ha => HL.out a (List.mem_of_mem_take ha)
        · exact HL.out b (List.mem_of_getElem? HB.out)
      case measure => simp [intOf]; omega
    · obtain rfl : k = n := by omega
      have hmm : m < 18446744073709551616 := by rw [hm.out]; exact orl_lt _ 64 fun a ha => HL.out a (List.mem_of_mem_take ha)
      go_wp2_with (go_at_call 54; refine (len64_any m _ hmm).mono ?_; rintro e w' ⟨rfl, rfl⟩)
      go_ret
      refine ⟨ret_of (congrArg (Value.int .i64) ?_), rfl⟩
      rw [hm.out, blen_orl, List.take_of_length_le (by rw [E1.out]; omega)]

/-- How many bytes there are, or -1. -/
def szI (n w : Int) : Int := if 0 ≤ n ∧ n ≤ 65536 ∧ 0 ≤ w ∧ w ≤ 64 then (sz n.toNat w.toNat : Int) else -1
theorem sz_small (n w : Nat) (hn : n ≤ 65536) (hw : w ≤ 64) : n * w ≤ 4194304 := (Nat.mul_le_mul hn hw)
theorem size_any (n w : Int) (W : World) (hn : -9223372036854775808 ≤ n ∧ n ≤ 9223372036854775807) (hw : -9223372036854775808 ≤ w ∧ w ≤ 9223372036854775807) :
    Calls Tryd.prog 55 #[.int .i64 n, .int .i64 w] W fun e w' => e = .returned (.int .i64 (szI n w)) ∧ W = w' := by
  by_cases h : 0 ≤ n ∧ n ≤ 65536 ∧ 0 ≤ w ∧ w ≤ 64
  · have hz : szI n w = (sz n.toNat w.toNat : Int) := by unfold szI; rw [if_pos h]
    have HZ := Lib.hid hz; clear hz
    obtain ⟨h1, h2, h3, h4⟩ := h
    obtain ⟨n, rfl⟩ := Int.eq_ofNat_of_zero_le h1
    obtain ⟨w, rfl⟩ := Int.eq_ofNat_of_zero_le h3
    have hs := sz_small n w (by omega) (by omega)
    have hs2 : (n : Int) * (w : Int) ≤ 4194304 := by rw [← Int.natCast_mul]; omega
    have hs3 : 0 ≤ (n : Int) * (w : Int) := by rw [← Int.natCast_mul]; omega
    go_enter Tryd.func55, Tryd.ntmps55
    go_wp2_with fail
    go_ret
    refine ⟨ret_of (congrArg (Value.int .i64) ?_), rfl⟩
    rw [HZ.out]
    unfold sz
    simp
    omega
  · have hz : szI n w = -1 := by unfold szI; rw [if_neg h]
    have HZ := Lib.hid hz; clear hz
    by_cases h1 : n < 0
    · clear h
      go_enter Tryd.func55, Tryd.ntmps55
      go_wp2_with fail
      go_ret
      exact ⟨ret_of (congrArg (Value.int .i64) HZ.out.symm), rfl⟩
    · by_cases h2 : 65536 < n
      · clear h
        go_enter Tryd.func55, Tryd.ntmps55
        go_wp2_with fail
        go_ret
        exact ⟨ret_of (congrArg (Value.int .i64) HZ.out.symm), rfl⟩
      · by_cases h3 : w < 0
        · clear h
          go_enter Tryd.func55, Tryd.ntmps55
          go_wp2_with fail
          go_ret
          exact ⟨ret_of (congrArg (Value.int .i64) HZ.out.symm), rfl⟩
        · have h4 : 64 < w := by omega
          clear h
          go_enter Tryd.func55, Tryd.ntmps55
          go_wp2_with fail
          go_ret
          exact ⟨ret_of (congrArg (Value.int .i64) HZ.out.symm), rfl⟩
end Go.Proofs.YtppeagjklndidaaDoor
