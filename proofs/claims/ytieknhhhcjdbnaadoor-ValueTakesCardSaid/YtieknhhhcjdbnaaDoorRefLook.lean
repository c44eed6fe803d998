/- The document's own answer for a short number, byte by byte. -/
import Derived.Test.YtieknhhhcjdbnaaDoorRefRd
import Derived.Test.YtieknhhhcjdbnaaDoorJ13
namespace Go.Proofs.YtieknhhhcjdbnaaDoor
open Go.RowKit
set_option linter.unusedVariables false
set_option linter.unusedSimpArgs false
set_option maxRecDepth 100000

def lookT (r : Nat × Nat × Nat) : Value := .tuple #[.int .u64 (r.1 : Int), .int .i64 (r.2.1 : Int), .int .i64 (r.2.2 : Int)]
theorem mul_shl (b k q : Nat) (hq : q = 128 ^ k) : (b : Int) % 128 * (q : Int) = ((b % 128 * 128 ^ k : Nat) : Int) := by
  subst hq; push_cast; rfl
theorem pow_le128 (j : Nat) (h : j ≤ 8) : 128 ^ j ≤ 72057594037927936 := by
  have := Nat.pow_le_pow_right (show 0 < 128 by omega) h
  have e : (128 : Nat) ^ 8 = 72057594037927936 := by decide
  omega

set_option maxHeartbeats 4000000 in
theorem refLook_any {w : World} {B : Nat} {A : Option Addr} {n : Nat} {l : List Nat} (c : Nat) (hr : Reads w B 1 A n (bs l)) (hby : ∀ b ∈ l, b < 256) (hn : n ≤ 140737488355328) :
    Calls Tryd.prog 58 #[.slice A n c] w fun e w' => e = .returned (lookT (lookF 0 0 l)) ∧ w = w' := by
  have hl : l.length = n := by have := hr.1; rw [bs_length] at this; omega
  have Hl := Lib.hid hl
  clear hl
  go_enter Tryd.func58, Tryd.ntmps58
  go_wp2_with fail
  go_loop [5, 6] (fun v i => ∃ k acc : Nat, k ≤ n ∧ k ≤ 10 ∧ i = .int .i64 (k : Int) ∧ v = .int .u64 (acc : Int) ∧ Hid (acc < 128 ^ k) ∧ acc < 18446744073709551616 ∧ Hid (lookF 0 0 l = lookF k acc (l.drop k))) (fun _ i => n - (intOf i).toNat)
  case atStart => exact ⟨0, 0, by omega, by omega, rfl, rfl, Lib.hid (by omega), by omega, Lib.hid (by simp)⟩
  case round =>
    obtain ⟨k, acc, hk, hk10, rfl, rfl, hacc, hacc64, hpre⟩ := hrel
    by_cases hlt : k < n
    · obtain ⟨ad, u, rfl, _, hu, hc⟩ := hr.at_ hlt
      obtain ⟨b, hb, rfl⟩ := bs_at hu
      have hb256 := hby b (List.mem_of_getElem? hb)
      have hstep := look_step (acc := acc) hb
      rw [← hpre.out] at hstep
      have HS := Lib.hid hstep
      have HBY := Lib.hid hby
      clear hb hu hby hstep
      by_cases hF : (0 < k ∧ b = 0) ∨ (k = 9 ∧ 1 < b % 128) ∨ 9 < k
      · have hv := HS.out
        rw [if_pos hF] at hv
        have HV := Lib.hid hv
        clear hv HS
        by_cases p3 : 9 < k
        · have f0 : decide ((9 : Int) < (k : Int)) = true := by simp; omega
          clear hF
          go_wp2_with fail
          go_ret3
          exact ⟨by rw [HV.out]; rfl, rfl⟩
        · have f0 : decide ((9 : Int) < (k : Int)) = false := by simp; omega
          by_cases p2 : k = 9 ∧ 1 < b % 128
          · obtain ⟨q1, q2⟩ := p2
            have f3 : ((k : Int) == 9) = true := by simp; omega
            have f4 : decide ((1 : Int) < (b : Int) % 128) = true := by simp; omega
            clear hF p3 q1 q2
            go_wp2_with fail
            go_ret3
            exact ⟨by rw [HV.out]; rfl, rfl⟩
          · have f34 : (((k : Int) == 9) = true ∧ decide ((1 : Int) < (b : Int) % 128) = false) ∨ ((k : Int) == 9) = false := by
              rcases Nat.lt_or_ge k 9 with h0 | h0
              · exact .inr (by simp; omega)
              · exact .inl ⟨by simp; omega, by simp; omega⟩
            have f1 : 0 < k := by omega
            have f2 : ((b : Int) == 0) = true := by simp; omega
            clear hF p3 p2
            rcases f34 with ⟨f3, f4⟩ | f3
            all_goals
              go_wp2_with fail
              go_ret3
              exact ⟨by rw [HV.out]; rfl, rfl⟩
      · have hk9 : k ≤ 9 := by omega
        have h91 : k = 9 → b % 128 ≤ 1 := fun h => by
          rcases Nat.lt_or_ge 1 (b % 128) with h1 | h1
          · exact absurd (.inr (.inl ⟨h, h1⟩)) hF
          · exact h1
        have hbd := shl_bound b k hk9 h91
        have HN := Lib.hid (acc_next acc b k hacc.out)
        have HNW := Lib.hid (show acc + b % 128 * 128 ^ k < 18446744073709551616 by have := hacc.out; omega)
        have hv := HS.out
        rw [if_neg hF] at hv
        have HV := Lib.hid hv
        clear hv HS hbd
        have f0 : decide ((9 : Int) < (k : Int)) = false := by simp; omega
        have f12 : (0 < k ∧ ((b : Int) == 0) = false) ∨ ¬ 0 < k := by
          rcases Nat.eq_zero_or_pos k with h0 | h0
          · exact .inr (by omega)
          · exact .inl ⟨h0, by simp; omega⟩
        have f34 : (((k : Int) == 9) = true ∧ decide ((1 : Int) < (b : Int) % 128) = false) ∨ ((k : Int) == 9) = false := by
          rcases Nat.lt_or_ge k 9 with h0 | h0
          · exact .inr (by simp; omega)
          · exact .inl ⟨by simp; omega, by have := h91 (by omega); simp; omega⟩
        clear hF h91
        rcases f12 with ⟨f1, f2⟩ | f1 <;> rcases f34 with ⟨f3, f4⟩ | f3
        all_goals
          go_wp2_with fail
          go_loop [8, 9] (fun t i => ∃ j q : Nat, j ≤ k ∧ i = .int .i64 (j : Int) ∧ t = .int .u64 (q : Int) ∧ Hid (q = 128 ^ j) ∧ q ≤ 9223372036854775808) (fun _ i => k - (intOf i).toNat)
          case atStart => exact ⟨0, 1, by omega, rfl, rfl, Lib.hid rfl, by omega⟩
          case round =>
            obtain ⟨j, q, hj, rfl, rfl, hq, hq2⟩ := hrel
            by_cases hjk : j < k
            · have hq3 : q ≤ 72057594037927936 := by have := hq.out; have := pow_le128 j (by omega); omega
              clear hq2
              go_wp2_with fail
              refine ⟨⟨j + 1, q * 128, by omega, by go_num, rfl, Lib.hid (by rw [hq.out, Nat.pow_succ]), by omega⟩, by simp [intOf]; omega⟩
            · obtain rfl : j = k := by omega
              obtain ⟨y, hy⟩ : ∃ y : Nat, y = b % 128 * 128 ^ j := ⟨_, rfl⟩
              have hmul : (b : Int) % 128 * (q : Int) = (y : Int) := by rw [mul_shl b j q hq.out, hy]
              have hsum : acc + y < 18446744073709551616 := by rw [hy]; exact HNW.out
              have HY := Lib.hid hy
              clear hy
              by_cases hlast : b < 128
              · have hv := HV.out
                rw [if_pos hlast] at hv
                have HV2 := Lib.hid hv
                clear hv
                go_wp2_with fail
                go_ret3
                refine ⟨?_, rfl⟩
                rw [HV2.out, ← HY.out]
                rfl
              · have hv := HV.out
                rw [if_neg hlast] at hv
                have HV2 := Lib.hid hv
                clear hv
                go_wp2_with fail
                refine ⟨⟨j + 1, acc + y, by omega, by omega, by go_num, by go_num, by rw [HY.out]; exact HN, by omega, by rw [HY.out]; exact HV2⟩, by simp [intOf]; omega⟩
    · go_wp2_with fail
      go_ret3
      refine ⟨?_, rfl⟩
      have hl := Hl.out
      rw [hpre.out, List.drop_eq_nil_of_le (by omega)]
      rfl
end Go.Proofs.YtieknhhhcjdbnaaDoor
