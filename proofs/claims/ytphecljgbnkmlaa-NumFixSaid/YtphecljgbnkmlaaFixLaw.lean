/- The walk of the statement NumFix: for every number and every size it answers true, and nothing that was there changes. -/
import Derived.Test.YtphecljgbnkmlaaReader
import Derived.Test.YtphecljgbnkmlaaPut
import Derived.Test.YtphecljgbnkmlaaAwake
namespace Go.Proofs.Ytphecljgbnkmlaa
open Go.RowKit
set_option linter.unusedVariables false

theorem putFix_nil (v n : Nat) (w : World) (hv : v < 18446744073709551616) (hn : n ≤ 8) :
    Calls Try.prog 10 #[.slice none 0 0, .int .u64 (v : Int), .int .i64 (n : Int)] w (New w (bs (fx n v)) n) := by
  have h := putFix_any none 0 0 v n [] w hv Reads.none_ (by simp) (by omega)
  rw [show fixSize (n : Int) = n by unfold fixSize; omega] at h
  simpa using h

theorem fix_is {w : World} {g : Nat} {A : Option Addr} {n c : Nat} {l : List Nat} (hR : Rd w g A n c 0 .nilIface l) (hs : n ≤ 8) (x : Nat) (hx : unfx l = x) :
    Calls Try.prog 19 #[.pointer (some ⟨g, 0, none⟩), .int .i64 (n : Int)] w
      fun e w' => e = .returned (.int .u64 (x : Int)) ∧ Rd w' g A n c n .nilIface l ∧ w.grownBy w' (some g) :=
  (fix_ok n hR hs (by omega)).mono fun e w' ⟨he, hr, hg⟩ => by
    have hl := hR.length
    rw [List.drop_zero, List.take_of_length_le (by omega), hx] at he
    rw [Nat.zero_add] at hr
    exact ⟨he, hr, hg⟩
theorem left_none {w : World} {g : Nat} {A : Option Addr} {n c : Nat} {err : Value} {l : List Nat} (hR : Rd w g A n c n err l) :
    Calls Try.prog 20 #[.pointer (some ⟨g, 0, none⟩)] w fun e w' => e = .returned (.int .i64 0) ∧ Drawn w w' :=
  (left_any hR).mono fun e w' ⟨he, hd⟩ => ⟨by rw [he, Int.sub_self], hd⟩
theorem pow_le (k n : Nat) (h : k ≤ n) : 256 ^ k ≤ 256 ^ n := Nat.pow_le_pow_right (by omega) h

set_option maxHeartbeats 800000 in
theorem numFix_tail (v n : Nat) (w : World) (hv : v < 18446744073709551616) (hn8 : n ≤ 8) (a1 : Nat) (ha : a1 < 256) (hn : (a1 : Int) % 9 = (n : Int)) :
    Calls Try.prog 4 #[.int .u64 (v : Int), .int .u8 (a1 : Int)] w fun e w' => e = .returned (.bool true) ∧ Below w.heap.size w w' := by
  by_cases h8 : n < 8
  · go_enter Try.func4, Try.ntmps4
    go_wp2_with fail
    go_loop [7, 8] (fun m i => ∃ (k q : Nat), k ≤ n ∧ i = .int .i64 (k : Int) ∧ m = .int .u64 (q : Int) ∧ Hid (q = 256 ^ k) ∧ 0 < q ∧ q ≤ 72057594037927936) (fun _ i => n - (intOf i).toNat)
    case atStart => exact ⟨0, 1, by omega, rfl, rfl, Lib.hid rfl, by omega, by omega⟩
    case round =>
      obtain ⟨k, q, hk, rfl, rfl, hq, hq0, hq1⟩ := hrel
      by_cases hlt : k < n
      · have hq2 : q ≤ 281474976710656 := by
          have := hq.out; have := pow_le k 6 (by omega); omega
        go_wp2_with fail
        refine ⟨⟨k + 1, q * 256, by omega, by go_num, rfl, Lib.hid (by rw [hq.out, Nat.pow_succ]), by omega, by omega⟩, by simp [intOf]; omega⟩
      · obtain rfl : k = n := by omega
        have Hx := Lib.hid (show unfx (fx k v) = v % q by rw [unfx_fx, hq.out])
        go_wp2_with (first
          | (go_at_call 10; refine (putFix_nil v k w hv (by omega)).mono ?_; rintro e w1 ⟨p1, rfl, hown1, hb1⟩; obtain ⟨A1, c1, rfl, hc1, hc2, hr1⟩ := own_slice hown1)
          | (go_at_call 18; refine (newReader_any A1 k c1 (fx k v) w1 hr1 (by omega) (fx_byte k v)).mono ?_; rintro e w2 ⟨g, A2, c2, rfl, hg2, hR2, hb2⟩)
          | (go_at_call 19; refine (fix_is hR2 (by omega) (v % q) Hx.out).mono ?_; rintro e w3 ⟨rfl, hR3, hg3⟩)
          | (go_at_call 20; refine (left_none hR3).mono ?_; rintro e w4 ⟨rfl, hd4⟩)
          | (go_at_call 5; refine (awake_any _).mono ?_; rintro e w5 ⟨rfl, hb5⟩))
        go_ret
        have b1 := hb1.size
        have b2 := hb2.size
        have b12 : Below w.heap.size w w2 := hb1.trans (hb2.mono b1)
        have b3 : Below w.heap.size w w3 := b12.grown hg3 (by omega) (fun k hk => by injection hk with hk; omega)
        have b4 := hd4.below b3
        exact ⟨rfl, b4.trans (hb5.mono b4.size)⟩
  · obtain rfl : n = 8 := by omega
    go_enter Try.func4, Try.ntmps4
    have Hx := Lib.hid (show unfx (fx 8 v) = v by rw [unfx_fx]; exact Nat.mod_eq_of_lt (by omega))
    go_wp2_with (first
      | (go_at_call 10; refine (putFix_nil v 8 w hv (by omega)).mono ?_; rintro e w1 ⟨p1, rfl, hown1, hb1⟩; obtain ⟨A1, c1, rfl, hc1, hc2, hr1⟩ := own_slice hown1)
      | (go_at_call 18; refine (newReader_any A1 8 c1 (fx 8 v) w1 hr1 (by omega) (fx_byte 8 v)).mono ?_; rintro e w2 ⟨g, A2, c2, rfl, hg2, hR2, hb2⟩)
      | (go_at_call 19; refine (fix_is hR2 (by omega) v Hx.out).mono ?_; rintro e w3 ⟨rfl, hR3, hg3⟩)
      | (go_at_call 20; refine (left_none hR3).mono ?_; rintro e w4 ⟨rfl, hd4⟩)
      | (go_at_call 5; refine (awake_any _).mono ?_; rintro e w5 ⟨rfl, hb5⟩))
    go_ret
    have b1 := hb1.size
    have b2 := hb2.size
    have b12 : Below w.heap.size w w2 := hb1.trans (hb2.mono b1)
    have b3 : Below w.heap.size w w3 := b12.grown hg3 (by omega) (fun k hk => by injection hk with hk; omega)
    have b4 := hd4.below b3
    exact ⟨rfl, b4.trans (hb5.mono b4.size)⟩
end Go.Proofs.Ytphecljgbnkmlaa
