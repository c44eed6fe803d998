/- Contracts of package plain's size and Len: how many bytes a short number, and the plain form, has. -/
import Derived.Test.YtjpcenbleolbgaaDoorPlPlain
import Derived.Test.YtjpcenbleolbgaaDoorLen64
import Derived.Test.YtjpcenbleolbgaaDoorZigF
import Derived.Test.YtjpcenbleolbgaaDoorInts
namespace Go.Proofs.YtjpcenbleolbgaaDoor
open Go.RowKit
set_option linter.unusedVariables false
set_option linter.unusedSimpArgs false
set_option maxRecDepth 100000

theorem zigN_any (z : Int) (w : World) (h : In64 z) : Calls Tryd.prog 20 #[.int .i64 z] w fun e w' => e = .returned (.int .u64 (zg z : Int)) ∧ w = w' := by
  rw [← (zg_int h).1]; exact zig_any z w h.1 h.2
theorem size_any (v : Nat) (w : World) (hv : v < 18446744073709551616) : Calls Tryd.prog 29 #[.int .u64 (v : Int)] w fun e w' => e = .returned (.int .i64 ((vb v).length : Int)) ∧ w = w' := by
  have hor : bits .or .u64 (v : Int) 1 = ((v ||| 1 : Nat) : Int) := by
    rw [show (1 : Int) = ((1 : Nat) : Int) from rfl, u64_or_nat _ _ hv (by omega)]
  have hb := blen_one v
  have hs := vb_size v hv
  have h64 : blen (v ||| 1) ≤ 64 := blen_lt64 _ (Nat.or_lt_two_pow (n := 64) (by simpa using hv) (by decide))
  have h1 : (((blen (v ||| 1) + 7 - 1) / 7 : Nat) : Int) = ((vb v).length : Int) := by rw [hs, hb]; omega
  have HL := Lib.hid h1
  clear hb hs h1
  go_enter Tryd.func29, Tryd.ntmps29
  go_wp2_with fail
  refine (len64_any (v ||| 1) w (Nat.or_lt_two_pow (n := 64) (by simpa using hv) (by decide))).mono ?_
  rintro e w' ⟨rfl, rfl⟩
  go_wp2_with fail
  go_ret
  refine ⟨ret_of (congrArg (Value.int .i64) ?_), rfl⟩
  rw [← HL.out]; omega
set_option maxHeartbeats 400000 in
theorem plen_any (A : Option Addr) (n c : Nat) (l : List Int) (B : Nat) (w : World) (hr : Reads w B 1 A n (zs l)) (hl : ∀ z ∈ l, In64 z) (hn : n ≤ 14073748835532) :
    Calls Tryd.prog 18 #[.slice A n c] w fun e w' => e = .returned (.int .i64 ((pl l).length : Int)) ∧ w = w' := by
  have e1 : l.length = n := by have := hr.1; rw [zs_length] at this; omega
  have E1 := Lib.hid e1; have HLL := Lib.hid hl
  clear e1 hl
  go_enter Tryd.func18, Tryd.ntmps18
  go_wp2_with fail
  go_loop [3, 8] (fun s i => ∃ k q : Nat, k ≤ n ∧ i = .int .i64 (k : Int) ∧ s = .int .i64 (q : Int) ∧ Hid (q = (pl (l.take k)).length) ∧ q ≤ 10 * k) (fun _ i => n - (intOf i).toNat)
  case atStart => exact ⟨0, 0, by omega, rfl, rfl, Lib.hid (by simp [pl]), by omega⟩
  case round =>
    obtain ⟨k, q, hk, rfl, rfl, hq, hqk⟩ := hrel
    by_cases hlt : k < n
    · obtain ⟨ad, u, rfl, _, hu, hc⟩ := hr.at_ hlt
      obtain ⟨z, hz, rfl⟩ := zs_at hu
      have hz64 := HLL.out z (List.mem_of_getElem? hz)
      have hzg := (zg_int hz64).2
      have hvl := vb_length (zg z)
      have HZ := Lib.hid hz
      clear hu hz
      go_wp2_with fail
      refine (zigN_any z w hz64).mono ?_
      rintro e w' ⟨rfl, rfl⟩
      go_wp2_with fail
      refine (size_any (zg z) w hzg).mono ?_
      rintro e w' ⟨rfl, rfl⟩
      go_wp2_with fail
      go_round
      case rel => exact ⟨k + 1, q + (vb (zg z)).length, by omega, by go_num, by go_num, Lib.hid (by rw [pl_step HZ.out, List.length_append, hq.out]), by omega⟩
      case measure => simp [intOf]; omega
    · go_wp2_with fail
      go_ret
      obtain rfl : k = n := by omega
      refine ⟨ret_of (congrArg (Value.int .i64) ?_), rfl⟩
      rw [hq.out, List.take_of_length_le (by rw [E1.out]; omega)]
end Go.Proofs.YtjpcenbleolbgaaDoor
