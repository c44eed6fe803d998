/- Contracts of the document's Split, of its Depth, and of package tree's Depth. No condition. -/
import Derived.Test.YtkopoepoinkpeaaDoorJ31
namespace Go.Proofs.YtkopoepoinkpeaaDoor
open Go.RowKit
set_option linter.unusedVariables false
set_option linter.unusedSimpArgs false
set_option maxRecDepth 100000

set_option maxHeartbeats 1000000 in
theorem refSplit_any (n : Int) (w : World) (h0 : -9223372036854775808 ≤ n) (h1 : n ≤ 1152921504606846976) :
    Calls Tryd.prog 15 #[.int .i64 n] w fun e w' => e = .returned (.int .i64 (spl n.toNat : Int)) ∧ w = w' := by
  by_cases h2 : n < 2
  · rw [spl_small (by omega)]
    go_enter Tryd.func15, Tryd.ntmps15
    go_wp2_with fail
    go_ret
    exact ⟨rfl, rfl⟩
  · obtain ⟨m, rfl⟩ : ∃ m : Nat, n = (m : Int) := ⟨n.toNat, by omega⟩
    have hm2 : 2 ≤ m := by omega
    rw [Int.toNat_natCast]
    go_enter Tryd.func15, Tryd.ntmps15
    go_wp2_with fail
    go_loop [3] (fun s => ∃ k : Nat, s = .int .i64 (k : Int) ∧ 0 < k ∧ k < m ∧ Hid (∃ e, k = 2 ^ e)) (fun s => m - (intOf s).toNat)
    case atStart => exact ⟨1, rfl, by omega, by omega, Lib.hid ⟨0, rfl⟩⟩
    case round =>
      obtain ⟨k, rfl, hk0, hkm, hp⟩ := hrel
      by_cases hlt : k < m - k
      · have hq : (k : Int) < (m : Int) - (k : Int) := by omega
        have hp2 : Hid (∃ e, 2 * k = 2 ^ e) := Lib.hid (by obtain ⟨e, he⟩ := hp.out; exact ⟨e + 1, by rw [Nat.pow_succ, he]; omega⟩)
        have hw : IntKind.i64.wrap (2 * (k : Int)) = 2 * (k : Int) := IntWalk.i64_in _ (by omega)
        go_wp2_with fail
        go_round
        case rel => exact ⟨2 * k, by go_num, by omega, by omega, hp2⟩
        case measure => simp [intOf]; omega
      · have hq : ¬ (k : Int) < (m : Int) - (k : Int) := by omega
        have hs : Hid (spl m = k) := Lib.hid (by obtain ⟨e, he⟩ := hp.out; rw [he]; exact spl_is (by omega) (by omega))
        go_wp2_with fail
        go_ret
        exact ⟨by rw [hs.out]; rfl, rfl⟩
/-- How deep a leaf is; -1: there is none. -/
def depI (i n : Int) : Int := if i < 0 ∨ n ≤ i then -1 else (depD i.toNat n.toNat : Int)
theorem depI_in {i n : Nat} (h : i < n) : depI (i : Int) (n : Int) = (depD i n : Int) := by
  unfold depI
  rw [if_neg (by omega), Int.toNat_natCast, Int.toNat_natCast]
theorem depI_out {i n : Int} (h : i < 0 ∨ n ≤ i) : depI i n = -1 := by unfold depI; rw [if_pos h]
theorem depD_lt : ∀ (n i : Nat), i < n → depD i n < n := by
  intro n
  induction n using Nat.strongRecOn with
  | _ n ih =>
    intro i hi
    by_cases h2 : 2 ≤ n
    · have h3 := spl_lt h2
      have h4 := spl_pos h2
      by_cases hk : i < spl n
      · rw [depD_left h2 hk]; have := ih (spl n) h3 i hk; omega
      · rw [depD_right h2 hk]; have := ih (n - spl n) (by omega) (i - spl n) (by omega); omega
    · rw [depD_one i (by omega)]; omega
set_option maxHeartbeats 1000000 in
theorem refDepth_in : ∀ (n i : Nat) (w : World), i < n → n ≤ 1152921504606846976 →
    Calls Tryd.prog 17 #[.int .i64 (i : Int), .int .i64 (n : Int)] w fun e w' => e = .returned (.int .i64 (depD i n : Int)) ∧ w = w' := by
  intro n
  induction n using Nat.strongRecOn with
  | _ n ih =>
    intro i w hi hn
    have hni : ¬ (n : Int) ≤ (i : Int) := by omega
    have hi0 : ¬ (i : Int) < 0 := by omega
    by_cases h1 : n = 1
    · subst h1
      rw [depD_one i (by omega)]
      clear ih
      go_enter Tryd.func17, Tryd.ntmps17
      go_wp2_with fail
      go_ret
      exact ⟨rfl, rfl⟩
    · have h2 : 2 ≤ n := by omega
      have h3 := spl_lt h2
      have h4 := spl_pos h2
      have h5 := spl_le h2
      have HS := Lib.hid (refSplit_any (n : Int) w (by omega) (by omega))
      rw [Int.toNat_natCast] at HS
      have HIH := Lib.hid ih
      have hn1 : ¬ (n : Int) = 1 := by omega
      clear ih
      by_cases hk : i < spl n
      · have hd := depD_lt (spl n) i hk
        have HC := Lib.hid (HIH.out (spl n) h3 i w hk (by omega))
        rw [depD_left h2 hk]
        obtain ⟨k, hke⟩ : ∃ k, spl n = k := ⟨_, rfl⟩
        rw [hke] at hk h3 h4 h5 HS HC hd ⊢
        obtain ⟨D, hD⟩ : ∃ D, depD i k = D := ⟨_, rfl⟩
        rw [hD] at HC hd ⊢
        have hkI : (i : Int) < (k : Int) := by omega
        clear hke hD
        go_enter Tryd.func17, Tryd.ntmps17
        go_wp2_with fail
        refine HS.out.mono ?_
        rintro _ _ ⟨rfl, rfl⟩
        go_wp2_with fail
        refine HC.out.mono ?_
        rintro _ _ ⟨rfl, rfl⟩
        have hw : IntKind.i64.wrap (1 + (D : Int)) = 1 + (D : Int) := IntWalk.i64_in _ (by omega)
        go_wp2_with fail
        go_ret
        exact ⟨ret_of (congrArg (Value.int IntKind.i64) (by omega)), rfl⟩
      · have hd := depD_lt (n - spl n) (i - spl n) (by omega)
        have HC := Lib.hid (HIH.out (n - spl n) (by omega) (i - spl n) w (by omega) (by omega))
        rw [depD_right h2 hk]
        obtain ⟨k, hke⟩ : ∃ k, spl n = k := ⟨_, rfl⟩
        rw [hke] at hk h3 h4 h5 HS HC hd ⊢
        obtain ⟨D, hD⟩ : ∃ D, depD (i - k) (n - k) = D := ⟨_, rfl⟩
        rw [hD] at HC hd ⊢
        have hkI : ¬ (i : Int) < (k : Int) := by omega
        rw [show ((i - k : Nat) : Int) = (i : Int) - (k : Int) by omega, show ((n - k : Nat) : Int) = (n : Int) - (k : Int) by omega] at HC
        have hw1 : IntKind.i64.wrap ((i : Int) - (k : Int)) = (i : Int) - (k : Int) := IntWalk.i64_in _ (by omega)
        have hw2 : IntKind.i64.wrap ((n : Int) - (k : Int)) = (n : Int) - (k : Int) := IntWalk.i64_in _ (by omega)
        clear hke hD
        go_enter Tryd.func17, Tryd.ntmps17
        go_wp2_with fail
        refine HS.out.mono ?_
        rintro _ _ ⟨rfl, rfl⟩
        go_wp2_with fail
        refine HC.out.mono ?_
        rintro _ _ ⟨rfl, rfl⟩
        have hw : IntKind.i64.wrap (1 + (D : Int)) = 1 + (D : Int) := IntWalk.i64_in _ (by omega)
        go_wp2_with fail
        go_ret
        exact ⟨ret_of (congrArg (Value.int IntKind.i64) (by omega)), rfl⟩
theorem refDepth_any (i n : Int) (w : World) (h0 : -9223372036854775808 ≤ n) (h1 : n ≤ 1152921504606846976) :
    Calls Tryd.prog 17 #[.int .i64 i, .int .i64 n] w fun e w' => e = .returned (.int .i64 (depI i n)) ∧ w = w' := by
  by_cases h : i < 0
  · rw [depI_out (.inl h)]
    go_enter Tryd.func17, Tryd.ntmps17
    go_wp2_with fail
    go_ret
    exact ⟨rfl, rfl⟩
  · by_cases h2 : n ≤ i
    · rw [depI_out (.inr h2)]
      go_enter Tryd.func17, Tryd.ntmps17
      go_wp2_with fail
      go_ret
      exact ⟨rfl, rfl⟩
    · obtain ⟨a, rfl⟩ : ∃ a : Nat, i = (a : Int) := ⟨i.toNat, by omega⟩
      obtain ⟨m, rfl⟩ : ∃ m : Nat, n = (m : Int) := ⟨n.toNat, by omega⟩
      rw [depI_in (by omega)]
      exact refDepth_in m a w (by omega) (by omega)
set_option maxHeartbeats 1000000 in
theorem depth_any (i n : Int) (w : World) (h0 : -9223372036854775808 ≤ n) (h1 : n ≤ 1152921504606846976) :
    Calls Tryd.prog 16 #[.int .i64 i, .int .i64 n] w fun e w' => e = .returned (.int .i64 (depI i n)) ∧ w = w' := by
  by_cases h : i < 0
  · rw [depI_out (.inl h)]
    go_enter Tryd.func16, Tryd.ntmps16
    go_wp2_with fail
    go_ret
    exact ⟨rfl, rfl⟩
  · by_cases h2 : n ≤ i
    · rw [depI_out (.inr h2)]
      go_enter Tryd.func16, Tryd.ntmps16
      go_wp2_with fail
      go_ret
      exact ⟨rfl, rfl⟩
    · obtain ⟨a, rfl⟩ : ∃ a : Nat, i = (a : Int) := ⟨i.toNat, by omega⟩
      obtain ⟨m, rfl⟩ : ∃ m : Nat, n = (m : Int) := ⟨n.toNat, by omega⟩
      rw [depI_in (by omega)]
      have ham : a < m := by omega
      obtain ⟨D, hD⟩ : ∃ D, depD a m = D := ⟨_, rfl⟩
      have hDm := depD_lt m a ham
      rw [hD] at hDm ⊢
      have HD := Lib.hid hD
      have HSP := Lib.hid fun (x : Nat) (hx : x ≤ 1152921504606846976) => split_any (x : Int) w (by omega) (by omega)
      simp only [Int.toNat_natCast] at HSP
      clear hD
      go_enter Tryd.func16, Tryd.ntmps16
      go_wp2_with fail
      go_loopw [0, 1, 5, 6] (fun s0 s1 s5 s6 wr => ∃ x y d : Nat, s0 = .int .i64 (x : Int) ∧ s1 = .int .i64 (y : Int) ∧ s5 = .int .i64 (d : Int) ∧ x < y ∧ y ≤ m ∧ Hid (depD x y + d = D) ∧ wr = w) (fun _ s1 _ _ _ => (intOf s1).toNat)
      case atStart => exact ⟨a, m, 0, rfl, rfl, rfl, ham, Nat.le_refl _, Lib.hid HD.out, rfl⟩
      case round =>
        obtain ⟨x, y, d, rfl, rfl, rfl, hxy, hym, hd, rfl⟩ := hrel
        by_cases hy : 1 < y
        · have h3 := spl_lt (n := y) hy
          have h4 := spl_pos (n := y) hy
          have HS := Lib.hid (HSP.out y (by omega))
          have hdd := hd.out
          by_cases hk : x < spl y
          · rw [depD_left hy hk] at hdd
            have HDD : Hid (depD x (spl y) + (d + 1) = D) := Lib.hid (by omega)
            obtain ⟨k, hke⟩ : ∃ k, spl y = k := ⟨_, rfl⟩
            rw [hke] at hk h3 h4 HS HDD hdd
            have hw : IntKind.i64.wrap ((d : Int) + 1) = (d : Int) + 1 := IntWalk.i64_in _ (by omega)
            have hkI : (x : Int) < (k : Int) := by omega
            clear hke hdd
            go_wp2_with fail
            refine HS.out.mono ?_
            rintro _ _ ⟨rfl, rfl⟩
            go_wp2_with fail
            go_round
            case rel => exact ⟨x, k, d + 1, rfl, rfl, by go_num, hk, by omega, HDD, trivial⟩
            case measure => simp [intOf]; omega
          · rw [depD_right hy hk] at hdd
            have HDD : Hid (depD (x - spl y) (y - spl y) + (d + 1) = D) := Lib.hid (by omega)
            obtain ⟨k, hke⟩ : ∃ k, spl y = k := ⟨_, rfl⟩
            rw [hke] at hk h3 h4 HS HDD hdd
            have hw : IntKind.i64.wrap ((d : Int) + 1) = (d : Int) + 1 := IntWalk.i64_in _ (by omega)
            have hw1 : IntKind.i64.wrap ((x : Int) - (k : Int)) = (x : Int) - (k : Int) := IntWalk.i64_in _ (by omega)
            have hw2 : IntKind.i64.wrap ((y : Int) - (k : Int)) = (y : Int) - (k : Int) := IntWalk.i64_in _ (by omega)
            have hkI : ¬ (x : Int) < (k : Int) := by omega
            clear hke hdd
            go_wp2_with fail
            refine HS.out.mono ?_
            rintro _ _ ⟨rfl, rfl⟩
            go_wp2_with fail
            go_round
            case rel => exact ⟨x - k, y - k, d + 1, by go_num, by go_num, by go_num, by omega, by omega, HDD, trivial⟩
            case measure => simp [intOf]; omega
        · have hdd := hd.out
          rw [depD_one x (by omega), Nat.zero_add] at hdd
          have HDD := Lib.hid hdd
          clear hdd
          have hy' : ¬ 1 < (y : Int) := by omega
          go_wp2_with fail
          go_ret
          exact ⟨by rw [HDD.out]; rfl, rfl⟩
end Go.Proofs.YtkopoepoinkpeaaDoor
