/- Contracts of the document's answer for layer 3: a bit taken in; the sum. -/
import Derived.Test.YtpibekpddbhojaaDoorCrcMore
namespace Go.Proofs.YtpibekpddbhojaaDoor
open Go.RowKit
set_option linter.unusedVariables false
set_option maxRecDepth 100000

theorem take_any (v bit : Nat) (w : World) (hv : v < 4294967296) (hb : bit < 2) : Calls Tryd.prog 32 #[.int .u32 (v : Int), .int .u32 (bit : Int)] w fun e w' => e = .returned (.int .u32 (tk v bit : Int)) ∧ w = w' := by
  by_cases h : v % 2 ≠ bit
  · have e1 : tk v bit = v / 2 ^^^ 3988292384 := by unfold tk; rw [if_pos h]
    have E1 := Lib.hid e1; clear e1
    have hne : (((v : Int) % 2) != (bit : Int)) = true := by simp; omega
    have hne2 : (((v : Int) % 2) == (bit : Int)) = false := by simp; omega
    have hx : bits .xor .u32 ((v : Int) / 2) 3988292384 = ((v / 2 ^^^ 3988292384 : Nat) : Int) := u32_xor_nat (v / 2) 3988292384 (by omega) (by omega)
    go_enter Tryd.func32, Tryd.ntmps32
    go_wp2_with fail
    go_ret
    exact ⟨ret_of (congrArg (Value.int .u32) (by rw [E1.out])), rfl⟩
  · have e1 : tk v bit = v / 2 := by unfold tk; rw [if_neg h]
    have E1 := Lib.hid e1; clear e1
    have hne : (((v : Int) % 2) != (bit : Int)) = false := by simp; omega
    have hne2 : (((v : Int) % 2) == (bit : Int)) = true := by simp; omega
    go_enter Tryd.func32, Tryd.ntmps32
    go_wp2_with fail
    go_ret
    exact ⟨ret_of (congrArg (Value.int .u32) (by rw [E1.out]; rfl)), rfl⟩

set_option maxHeartbeats 1000000 in
theorem refmore_any (s : Nat) (A : Option Addr) (n c : Nat) (l : List Nat) (w : World) (hs : s < 4294967296) (hr : Reads w w.heap.size 1 A n (bs l)) (hl : ∀ b ∈ l, b < 256) (hn : n ≤ 140737488355328) :
    Calls Tryd.prog 23 #[.int .u32 (s : Int), .slice A n c] w fun e w' => e = .returned (.int .u32 (moreN s l : Int)) ∧ Drawn w w' := by
  have e1 : l.length = n := by have := hr.1; rw [bs_length] at this; omega
  have E1 := Lib.hid e1; clear e1
  have HL := Lib.hid hl; clear hl
  obtain ⟨r0, hr0⟩ : ∃ r0 : Nat, 4294967295 - s = r0 := ⟨_, rfl⟩
  have hr0l : r0 < 4294967296 := by omega
  have hsub : (4294967295 : Int) - (s : Int) = (r0 : Int) := by omega
  have H0 := Lib.hid hr0
  clear hr0
  go_enter Tryd.func23, Tryd.ntmps23
  go_wp2_with fail
  go_loopg [5, 6] n (fun g s5 s6 wx => ∃ k v : Nat, k + g = n ∧ s6 = .int .i64 (k : Int) ∧ s5 = .int .u32 (v : Int) ∧ Hid (v = crc r0 (l.take k)) ∧ v < 4294967296 ∧ Drawn w wx)
  case atStart => exact ⟨0, r0, by omega, rfl, by first | rfl | go_num, Lib.hid rfl, hr0l, by first | exact Drawn.refl w | exact ⟨_, rfl⟩⟩
  case round =>
    obtain ⟨k, v, hkg, rfl, rfl, hv, hvl, q, rfl⟩ := hrel
    cases gk with
    | zero =>
      obtain rfl : k = n := by omega
      clear hkg
      go_wp2_with fail
      go_ret
      refine ⟨ret_of (congrArg (Value.int .u32) ?_), ⟨_, rfl⟩⟩
      rw [show (4294967295 : Int) - (v : Int) = ((4294967295 - v : Nat) : Int) by omega, hv.out, List.take_of_length_le (by rw [E1.out]; omega), ← H0.out]
      rfl
    | succ g =>
      have hk : k < n := by omega
      have hk2 : (k : Int) < (n : Int) := by omega
      obtain ⟨ad, u, rfl, _, hu, hc⟩ := hr.at_ hk
      obtain ⟨b, hb, rfl⟩ := bs_at hu
      have hb256 := HL.out b (List.mem_of_getElem? hb)
      have HB := Lib.hid hb
      clear hb hu
      go_wp2_with fail
      go_loopg [5, 7, 8] 8 (fun g s5 s7 s8 wx => ∃ j v2 cc : Nat, j + g = 8 ∧ s8 = .int .i64 (j : Int) ∧ s5 = .int .u32 (v2 : Int) ∧ s7 = .int .u32 (cc : Int) ∧ Hid (v2 = tks j v b) ∧ Hid (cc = b / 2 ^ j) ∧ v2 < 4294967296 ∧ cc < 256 ∧ Drawn w wx)
      case atStart => exact ⟨0, v, b, by omega, rfl, rfl, rfl, Lib.hid rfl, Lib.hid (by simp), hvl, hb256, ⟨_, rfl⟩⟩
      case round =>
        obtain ⟨j, v2, cc, hjg, rfl, rfl, rfl, hv2, hcc, hv2l, hccl, q2, rfl⟩ := hrel
        cases gk with
        | zero =>
          obtain rfl : j = 8 := by omega
          clear hjg
          go_wp2_with fail
          go_roundg g
          case measure => omega
          case rel =>
            refine ⟨k + 1, v2, by omega, by go_num, rfl, Lib.hid ?_, hv2l, ⟨_, rfl⟩⟩
            have e : l.take (k + 1) = l.take k ++ [b] := by rw [List.take_add_one, HB.out]; rfl
            rw [hv2.out, e, crc_snoc, ← hv.out, tks_8 v b hb256]
        | succ g2 =>
          have hj : j < 8 := by omega
          have hj2 : (j : Int) < 8 := by omega
          have hcall := take_any v2 (cc % 2) (w.drewN q2) hv2l (by omega)
          rw [show ((cc % 2 : Nat) : Int) = (cc : Int) % 2 by omega] at hcall
          have htl : tk v2 (cc % 2) < 4294967296 := tk_lt hv2l
          obtain ⟨v3, hv3⟩ : ∃ v3 : Nat, tk v2 (cc % 2) = v3 := ⟨_, rfl⟩
          rw [hv3] at hcall htl
          have HV3 := Lib.hid hv3
          clear hv3
          go_wp2_with fail
          refine hcall.mono ?_
          clear hcall
          rintro e w' ⟨rfl, rfl⟩
          go_wp2_with fail
          go_roundg g2
          case measure => omega
          case rel =>
            refine ⟨j + 1, v3, cc / 2, by omega, by go_num, rfl, by first | rfl | go_num, Lib.hid ?_, Lib.hid ?_, htl, by omega, ⟨_, rfl⟩⟩
            · rw [← HV3.out, hv2.out, hcc.out]; rfl
            · rw [hcc.out, Nat.pow_succ, Nat.div_div_eq_div_mul]
end Go.Proofs.YtpibekpddbhojaaDoor
