/- The document's least width of numbers. No condition beside the list's length. -/
import Derived.Test.YtppeagjklndidaaBits
import Derived.Test.YtppeagjklndidaaJ40
namespace Go.Proofs.Ytppeagjklndidaa
open Go.RowKit
set_option linter.unusedVariables false
set_option linter.unusedSimpArgs false
set_option maxRecDepth 100000

theorem refWidth_any (A : Option Addr) (n c : Nat) (l : List Nat) (w : World) (hr : Reads w w.heap.size 1 A n (us l)) (hl : ∀ a ∈ l, a < 18446744073709551616) (hn : n ≤ 140737488355328) :
    Calls Try.prog 48 #[.slice A n c] w fun e w' => e = .returned (.int .i64 (wd l : Int)) ∧ w = w' := by
  have e1 : l.length = n := by have := hr.1; rw [us_length] at this; omega
  have hd64 : ∀ k, wd (l.take k) ≤ 64 := fun k => (wd_le _ 64).2 (by intro a ha; have := hl a (List.mem_of_mem_take ha); omega)
  have E1 := Lib.hid e1; clear e1
  have HD := Lib.hid hd64; clear hd64
  have HL := Lib.hid hl; clear hl
  go_enter Try.func48, Try.ntmps48
  go_wp2_with fail
  go_loop [3, 4] (fun s3 s4 => ∃ k m : Nat, k ≤ n ∧ s4 = .int .i64 (k : Int) ∧ s3 = .int .i64 (m : Int) ∧ Hid (m = wd (l.take k))) (fun _ i => n - (intOf i).toNat)
  case atStart => exact ⟨0, 0, Nat.zero_le _, rfl, rfl, Lib.hid rfl⟩
  case round =>
    obtain ⟨k, m, hk, rfl, rfl, hm⟩ := hrel
    have hm64 : m ≤ 64 := by rw [hm.out]; exact HD.out k
    by_cases hlt : k < n
    · obtain ⟨ad, u, rfl, _, hu, hc⟩ := hr.at_ hlt
      obtain ⟨b, hb, rfl⟩ := us_at hu
      have HB := Lib.hid hb
      clear hb hu
      have hb64 : b < 18446744073709551616 := HL.out b (List.mem_of_getElem? HB.out)
      go_wp2_with fail
      go_loop [5, 6] (fun s5 s6 => ∃ j v : Nat, s5 = .int .i64 (j : Int) ∧ s6 = .int .u64 (v : Int) ∧ j ≤ 64 ∧ v < 18446744073709551616 ∧ Hid (j + blen v = blen b)) (fun _ i => (intOf i).toNat)
      case atStart => exact ⟨0, b, rfl, rfl, by omega, hb64, Lib.hid (by omega)⟩
      case round =>
        obtain ⟨j, v, rfl, rfl, hj, hv64, hjv⟩ := hrel
        by_cases h0 : 0 < v
        · have hbh := blen_half v h0
          have hbb := blen_lt64 b hb64
          have hj63 : j < 64 := by have := hjv.out; omega
          have HBH := Lib.hid hbh; clear hbh hbb
          go_wp2_with fail
          go_round
          case rel => exact ⟨j + 1, v / 2, by go_num, rfl, by omega, by omega, Lib.hid (by have := hjv.out; have := HBH.out; omega)⟩
          case measure => simp [intOf]; omega
        · obtain rfl : v = 0 := by omega
          go_wp2_with fail
          go_round
          case rel =>
            refine ⟨k + 1, max m j, by omega, by go_num, by go_num, Lib.hid ?_⟩
            have e : l.take (k + 1) = l.take k ++ [b] := by rw [List.take_add_one, HB.out]; rfl
            rw [e, wd_snoc, ← hm.out]
            have := hjv.out
            have h00 : blen 0 = 0 := rfl
            congr 1
          case measure => simp [intOf]; omega
    · obtain rfl : k = n := by omega
      go_wp2_with fail
      go_ret
      refine ⟨ret_of (congrArg (Value.int .i64) ?_), rfl⟩
      rw [hm.out, List.take_of_length_le (by rw [E1.out]; omega)]
end Go.Proofs.Ytppeagjklndidaa
