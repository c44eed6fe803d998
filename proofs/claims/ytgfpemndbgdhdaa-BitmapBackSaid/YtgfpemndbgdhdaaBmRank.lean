/- Contracts of math/bits.OnesCount8 and of package bitmap's Rank and Count. -/
import Derived.Lib.Tables
import Derived.Test.YtgfpemndbgdhdaaBmGet
namespace Go.Proofs.Ytgfpemndbgdhdaa
open Go.RowKit
set_option linter.unusedVariables false
set_option linter.unusedSimpArgs false
set_option maxRecDepth 100000

theorem size_pop8tab : Lib.pop8tab.size = 256 := by decide +kernel
theorem pop8tab_fin : ∀ x : Fin 256, (Lib.pop8tab[x.val]'(by rw [size_pop8tab]; exact x.isLt)).toNat = pc x.val := by decide +kernel
theorem pop8tab_at (x : Nat) (hx : x < Lib.pop8tab.size) : wrap64 ((Lib.pop8tab[x]'hx).toNat : Int) = (pc x : Int) := by
  have h := pop8tab_fin ⟨x, by rwa [size_pop8tab] at hx⟩
  simp only at h
  rw [h]
  have := pc_le x
  unfold wrap64
  omega
theorem ones_any (x : Nat) (w : World) (h : x < 256) : Calls Try.prog 24 #[.int .u8 (x : Int)] w fun e w' => e = .returned (.int .i64 (pc x : Int)) ∧ w = w' := by
  have hs := size_pop8tab
  go_enter Try.func24, Try.ntmps24
  go_wp2_with fail
  go_ret
  exact ⟨ret_of (congrArg (Value.int IntKind.i64) (pop8tab_at x _)), rfl⟩
theorem Rank_nil (i : Int) (w : World) : Calls Try.prog 14 #[.pointer none, .int .i64 i] w fun e w' => e = .returned (.int .i64 0) ∧ w = w' := by
  go_enter Try.func14, Try.ntmps14
  go_wp2_with fail
  go_ret
  exact ⟨rfl, rfl⟩
/-- How many marked ones are below the number. -/
def rk (l : List Nat) (i : Int) : Nat := cnt (bit l) i.toNat
section
variable {w : World} {B g h n : Nat} {l : List Nat}
set_option maxHeartbeats 1000000 in
theorem Rank_any (s : SetIn w B g h n l) (i : Int) : Calls Try.prog 14 #[.pointer (some ⟨g, 0, none⟩), .int .i64 i] w fun e w' => e = .returned (.int .i64 (rk l i : Int)) ∧ w = w' := by
  obtain ⟨c0, c1⟩ := s.cells
  have hl := s.size.2
  have hn := s.le
  by_cases h0 : i ≤ 0
  · have hr : rk l i = 0 := by unfold rk; rw [show i.toNat = 0 by omega]; rfl
    have HR := Lib.hid hr
    clear hr
    go_enter Try.func14, Try.ntmps14
    go_wp2_with fail
    go_ret
    exact ⟨ret_of (congrArg (Value.int IntKind.i64) (by rw [HR.out]; rfl)), rfl⟩
  · obtain ⟨k, rfl⟩ : ∃ k : Nat, i = (k : Int) := ⟨i.toNat, by omega⟩
    have hd : decide ((k : Int) ≤ 0) = false := by simpa using h0
    obtain ⟨m, hm⟩ : ∃ m : Nat, m = min k n := ⟨_, rfl⟩
    obtain ⟨kq, hkq⟩ : ∃ kq : Nat, kq = m / 8 := ⟨_, rfl⟩
    obtain ⟨k8, hk8⟩ : ∃ k8 : Nat, k8 = m % 8 := ⟨_, rfl⟩
    have rq : (m : Int) / 8 = (kq : Int) := by omega
    have r8 : (m : Int) % 8 = (k8 : Int) := by omega
    have hkql : kq ≤ l.length := by have := s.size.1; unfold siz at this; omega
    have hmn : m ≤ n := by omega
    have hm9 : m ≤ 65536 := by omega
    have hk9 : kq ≤ 8192 := by omega
    have hk89 : k8 < 8 := by omega
    have HM := Lib.hid (And.intro hm (And.intro hkq hk8))
    have hRK : rk l (k : Int) = cnt (bit l) m := by
      unfold rk
      rw [Int.toNat_natCast, hm]
      by_cases hkn : k ≤ n
      · rw [Nat.min_eq_left hkn]
      · rw [Nat.min_eq_right (by omega), cnt_over s.ok.left k (by omega)]
    have HRK := Lib.hid hRK
    have hmin : (k ≤ n ∧ m = k) ∨ (¬ k ≤ n ∧ m = n) := by omega
    clear hm hkq hk8 hRK
    have hcase : ∀ N : Nat, N ≤ kq → cnt (bit l) (8 * N) ≤ 65536 := fun N hN => by have := cnt_le (bit l) (8 * N); omega
    have HC := Lib.hid hcase
    clear hcase
    rcases hmin with ⟨hkn, hmk⟩ | ⟨hkn, hmk⟩
    all_goals
      subst hmk
      go_enter Try.func14, Try.ntmps14
      go_wp2_with fail
      go_loop [5, 7, 29] (fun c b i => ∃ t ct : Nat, t ≤ kq ∧ ct ≤ 65536 ∧ i = .int .i64 (t : Int) ∧ c = .int .i64 (ct : Int) ∧ Hid (ct = cnt (bit l) (8 * t))) (fun _ _ i => kq - (intOf i).toNat)
      case atStart => exact ⟨0, 0, by omega, by omega, rfl, rfl, Lib.hid rfl⟩
      case round =>
        obtain ⟨t, ct, ht, hct9, rfl, rfl, hct⟩ := hrel
        by_cases hlt : t < kq
        · have cb := s.byte (show t < l.length by omega)
          have hx := getD_byte s.ok.byte t
          obtain ⟨x, hx0⟩ : ∃ x, x = l.getD t 0 := ⟨_, rfl⟩
          rw [← hx0] at cb hx
          have HX := Lib.hid hx0
          have hpl := pc_le x
          clear hx0
          go_wp2_with fail
          refine (ones_any x _ hx).mono ?_
          rintro e w' ⟨rfl, rfl⟩
          go_wp2_with fail
          go_round
          case rel =>
            have hs := rank_step l t
            rw [← hct.out, ← HX.out] at hs
            exact ⟨t + 1, ct + pc x, by omega, by have := HC.out (t + 1) hlt; omega, by go_num, by go_num, Lib.hid hs.symm⟩
          case measure => simp [intOf]; omega
        · obtain rfl : t = kq := by omega
          by_cases h8 : 0 < k8
          · have hd8 : decide (0 < (k8 : Int)) = true := by simpa using h8
            have hHM := HM.out
            have hsz := s.size.1
            have hkl : t < l.length := by unfold siz at hsz; omega
            have cb := s.byte hkl
            have hx := getD_byte s.ok.byte t
            have hrr := rank_rest l m (by rw [← hHM.2.1]; exact hx) (by omega)
            rw [← hHM.2.1, ← hHM.2.2, ← hct.out] at hrr
            obtain ⟨x, hx0⟩ : ∃ x, x = l.getD t 0 := ⟨_, rfl⟩
            rw [← hx0] at cb hx hrr
            obtain ⟨r, hr⟩ : ∃ r : Nat, r = 8 - k8 := ⟨_, rfl⟩
            rw [← hr] at hrr
            have rr : (8 : Int) - (k8 : Int) = (r : Int) := by omega
            have hr8 : r ≤ 8 := by omega
            have hsh : (x : Int) * 2 ^ r % 256 = ((x * 2 ^ r % 256 : Nat) : Int) := by push_cast; rfl
            obtain ⟨y, hy⟩ : ∃ y, y = x * 2 ^ r % 256 := ⟨_, rfl⟩
            rw [← hy] at hrr hsh
            have hy8 : y < 256 := by omega
            have hpl := pc_le y
            have HRR := Lib.hid hrr
            clear hrr hr hx0 hHM hsz hy
            go_wp2_with fail
            refine (ones_any y _ hy8).mono ?_
            rintro e w' ⟨rfl, rfl⟩
            go_wp2_with fail
            go_ret
            exact ⟨ret_of (congrArg (Value.int IntKind.i64) (by rw [HRK.out, HRR.out]; rfl)), rfl⟩
          · go_wp2_with fail
            go_ret
            refine ⟨ret_of (congrArg (Value.int IntKind.i64) ?_), rfl⟩
            rw [HRK.out, hct.out]
            congr 2
            have := HM.out
            omega
theorem Count_nil (w : World) : Calls Try.prog 13 #[.pointer none] w fun e w' => e = .returned (.int .i64 0) ∧ w = w' := by
  go_enter Try.func13, Try.ntmps13
  go_wp2_with fail
  refine (Len_nil w).mono ?_
  rintro e w' ⟨rfl, rfl⟩
  go_wp2_with fail
  refine (Rank_nil 0 w).mono ?_
  rintro e w' ⟨rfl, rfl⟩
  go_wp2_with fail
  go_ret
  exact ⟨rfl, rfl⟩
theorem Count_any (s : SetIn w B g h n l) : Calls Try.prog 13 #[.pointer (some ⟨g, 0, none⟩)] w fun e w' => e = .returned (.int .i64 (cnt (bit l) n : Int)) ∧ w = w' := by
  have hr := Rank_any s (n : Int)
  rw [show rk l (n : Int) = cnt (bit l) n by unfold rk; rw [Int.toNat_natCast]] at hr
  go_enter Try.func13, Try.ntmps13
  go_wp2_with fail
  refine (Len_any s).mono ?_
  rintro e w' ⟨rfl, rfl⟩
  go_wp2_with fail
  refine hr.mono ?_
  clear hr
  rintro e w' ⟨rfl, rfl⟩
  go_wp2_with fail
  go_ret
  exact ⟨rfl, rfl⟩
end
end Go.Proofs.Ytgfpemndbgdhdaa
