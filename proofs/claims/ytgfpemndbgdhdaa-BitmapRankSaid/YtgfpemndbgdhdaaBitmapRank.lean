/- The walk of the statement BitmapRank: the marked ones below a place, and those from it on, are all; the rank rises by one at each marked place alone. -/
import Derived.Deep.LoopGhost
import Derived.Test.YtgfpemndbgdhdaaBmRank
import Derived.Test.YtgfpemndbgdhdaaBmAwake
import Derived.Test.YtgfpemndbgdhdaaIntRow
namespace Go.Proofs.Ytgfpemndbgdhdaa
open Go.RowKit
set_option linter.unusedVariables false
set_option linter.unusedSimpArgs false
set_option maxRecDepth 100000

/-- The marked places from the number on, up to a place. -/
def beh (f : Nat → Bool) (i : Int) (k : Nat) : Nat := cnt (fun j => f j && decide (i ≤ (j : Int))) k
theorem beh_le (f : Nat → Bool) (i : Int) (k : Nat) : beh f i k ≤ k := cnt_le _ _
theorem beh_step (f : Nat → Bool) (i : Int) (k : Nat) : beh f i (k + 1) = beh f i k + (if f k && decide (i ≤ (k : Int)) then 1 else 0) := rfl
theorem cnt_none (f : Nat → Bool) (n : Nat) (h : ∀ k, k < n → f k = false) : cnt f n = 0 := by
  induction n with
  | zero => rfl
  | succ n ih => unfold cnt; rw [ih (fun k hk => h k (by omega)), h n (by omega)]; rfl
theorem beh_all (f : Nat → Bool) (i : Int) (n : Nat) (h : ∀ k, f k = true → k < n) : cnt f i.toNat + beh f i n = cnt f n := by
  have low : ∀ m, m ≤ i.toNat → cnt (fun j => f j && decide (i ≤ (j : Int))) m = 0 := fun m hm => cnt_none _ m (fun k hk => by
    have : decide (i ≤ (k : Int)) = false := by simp; omega
    rw [this, Bool.and_false])
  unfold beh
  by_cases hi : n ≤ i.toNat
  · rw [cnt_over h _ hi, low n hi, Nat.add_zero]
  · obtain ⟨b, rfl⟩ := Nat.exists_eq_add_of_le (show i.toNat ≤ n by omega)
    rw [cnt_add (fun j => f j && decide (i ≤ (j : Int))), low _ (Nat.le_refl _), Nat.zero_add, cnt_add f]
    congr 1
    refine cnt_congr b (fun k hk => ?_)
    have : decide (i ≤ ((i.toNat + k : Nat) : Int)) = true := by simp; omega
    rw [this, Bool.and_true]
/-- Between two marks: the set, somehow marked. -/
def Marked2 (w wr : World) (g h n : Nat) : Prop := ∃ L, SetIn wr w.heap.size g h n L ∧ Below w.heap.size w wr
theorem rank_else (A : Option Addr) (nl cl : Nat) (n i : Int) (w : World) (h : 100 < nl ∨ n < 0 ∨ 500 < n) :
    Calls Try.prog 6 #[.int .i64 n, .slice A nl cl, .int .i64 i] w fun e w' => e = .returned (.bool true) ∧ Below w.heap.size w w' := by
  by_cases h2 : n < 0
  · clear h
    go_enter Try.func6, Try.ntmps6
    go_wp2_with fail
    refine (awake_any w).mono ?_
    rintro e w1 ⟨rfl, hb⟩
    go_wp2_with fail
    go_ret
    exact ⟨rfl, hb⟩
  have d2 : decide (n < 0) = false := by simp; omega
  by_cases h3 : 500 < n
  · clear h
    go_enter Try.func6, Try.ntmps6
    go_wp2_with fail
    refine (awake_any w).mono ?_
    rintro e w1 ⟨rfl, hb⟩
    go_wp2_with fail
    go_ret
    exact ⟨rfl, hb⟩
  have d3 : decide (500 < n) = false := by simp; omega
  have h4 : 100 < nl := by omega
  clear h
  go_enter Try.func6, Try.ntmps6
  go_wp2_with fail
  refine (awake_any w).mono ?_
  rintro e w1 ⟨rfl, hb⟩
  go_wp2_with fail
  go_ret
  exact ⟨rfl, hb⟩
set_option maxHeartbeats 2000000 in
theorem rank_main (A : Option Addr) (nl cl n : Nat) (i : Int) (zl : List Int) (w : World) (hrl : Reads w w.heap.size 1 A nl (zs zl)) (h1 : nl ≤ 100) (h2 : n ≤ 500) :
    Calls Try.prog 6 #[.int .i64 (n : Int), .slice A nl cl, .int .i64 i] w fun e w' => e = .returned (.bool true) ∧ Below w.heap.size w w' := by
  have d1 : decide ((100 : Int) < (nl : Int)) = false := by simp; omega
  have d3 : decide ((500 : Int) < (n : Int)) = false := by simp; omega
  go_enter Try.func6, Try.ntmps6
  go_wp2_with fail
  refine (New_any n w (by omega)).mono ?_
  rintro e w1 ⟨g, h, rfl, s1, hb1⟩
  go_wp2_with fail
  go_loopg [8] nl (fun gk s8 wr => ∃ k : Nat, k + gk = nl ∧ s8 = .int .i64 (k : Int) ∧ Marked2 w wr g h n)
  case atStart => exact ⟨0, by omega, rfl, _, s1, hb1⟩
  case round =>
    clear s1 hb1
    obtain ⟨k, hkg, rfl, L, s, hb⟩ := hrel
    cases gk with
    | succ g1 =>
      have hlt : k < nl := by omega
      obtain ⟨ad, u, rfl, _, hu, hc⟩ := (hrl.below hb).at_ hlt
      obtain ⟨z, _, rfl⟩ := zs_at hu
      clear hu
      go_wp2_with fail
      refine (Mark_any s z).mono ?_
      rintro e w2 ⟨rfl, s2, hg2⟩
      go_wp2_with fail
      go_roundg g1
      case measure => omega
      case rel => exact ⟨k + 1, by omega, by go_num, _, s2, hb.grown hg2 hb.size (fun k hk => by injection hk with hk; subst hk; exact s.bh)⟩
    | zero =>
      obtain rfl : k = nl := by omega
      obtain ⟨w1, rfl⟩ : ∃ w1 : World, w1 = wr := ⟨_, rfl⟩
      have hsz := hb.size
      go_wp2_with fail
      go_loopg [9, 10, 11] n (fun gk s9 s10 s11 wr => ∃ t b : Nat, t + gk = n ∧ b ≤ t ∧ s10 = .int .i64 (t : Int) ∧ s9 = .int .i64 (b : Int) ∧ Hid (b = beh (bit L) i t) ∧ wr = w1)
      case atStart => exact ⟨0, 0, by omega, by omega, rfl, rfl, Lib.hid rfl, rfl⟩
      case round =>
        obtain ⟨t, b, htg, hbt, rfl, rfl, hbe, rfl⟩ := hrel
        cases gk with
        | zero =>
          obtain rfl : t = n := by omega
          have hall := beh_all (bit L) i t s.ok.left
          rw [← hbe.out] at hall
          have hr0 := Rank_any s i
          have hr1 := Rank_any s 0
          have hr2 := Rank_any s (-1)
          rw [show rk L 0 = 0 from rfl] at hr1
          rw [show rk L (-1) = 0 from rfl] at hr2
          have hrk : rk L i = cnt (bit L) i.toNat := rfl
          rw [← hrk] at hall
          obtain ⟨a, ha⟩ : ∃ a, a = rk L i := ⟨_, rfl⟩
          obtain ⟨cn, hcn⟩ : ∃ cn, cn = cnt (bit L) t := ⟨_, rfl⟩
          have hc := Count_any s
          rw [← ha] at hr0 hall
          rw [← hcn] at hall hc
          have hcl : cn ≤ 500 := by have := cnt_le (bit L) t; omega
          have heq : ((a : Int) + (b : Int) == (cn : Int)) = true := by simp; omega
          have hab : a ≤ 500 := by omega
          clear ha hcn hrk hall
          go_wp2_with fail
          refine hr0.mono ?_
          clear hr0
          rintro e w' ⟨rfl, rfl⟩
          go_wp2_with fail
          refine hc.mono ?_
          clear hc
          rintro e w' ⟨rfl, rfl⟩
          go_wp2_with fail
          refine hr1.mono ?_
          clear hr1
          rintro e w' ⟨rfl, rfl⟩
          go_wp2_with fail
          refine hr2.mono ?_
          clear hr2
          rintro e w' ⟨rfl, rfl⟩
          go_wp2_with fail
          refine (awake_any _).mono ?_
          rintro e w10 ⟨rfl, hb10⟩
          go_wp2_with fail
          go_ret
          exact ⟨rfl, hb.trans (hb10.mono hb.size)⟩
        | succ g1 =>
          have hlt : t < n := by omega
          have hh := Has_any s (t : Int)
          rw [has_at hlt] at hh
          have hr0 := Rank_any s (t : Int)
          have hr1 := Rank_any s ((t : Int) + 1)
          have hst : rk L ((t : Int) + 1) = rk L (t : Int) + (if bit L t then 1 else 0) := by
            unfold rk
            rw [show ((t : Int) + 1).toNat = t + 1 by omega, Int.toNat_natCast]
            rfl
          rw [hst] at hr1
          have hcl : rk L (t : Int) ≤ 500 := by unfold rk; rw [Int.toNat_natCast]; have := cnt_le (bit L) t; omega
          have hbs := beh_step (bit L) i t
          rw [← hbe.out] at hbs
          obtain ⟨a, ha⟩ : ∃ a, a = rk L (t : Int) := ⟨_, rfl⟩
          rw [← ha] at hr0 hr1 hcl
          clear hst ha
          by_cases hi : i ≤ (t : Int)
          · have hid : decide (i ≤ (t : Int)) = true := by simpa using hi
            rw [hid] at hbs
            cases hbit : bit L t with
            | true =>
              rw [hbit] at hh hr1 hbs
              have HBS := Lib.hid hbs
              have hne : ((a : Int) + 1 != ((a + 1 : Nat) : Int)) = false := by simp
              clear hbs hbit
              go_wp2_with fail
              refine hh.mono ?_
              clear hh
              rintro e w' ⟨rfl, rfl⟩
              go_wp2_with fail
              refine hr0.mono ?_
              clear hr0
              rintro e w' ⟨rfl, rfl⟩
              go_wp2_with fail
              refine hr1.mono ?_
              clear hr1
              rintro e w' ⟨rfl, rfl⟩
              go_wp2_with fail
              go_roundg g1
              case measure => omega
              case rel => exact ⟨t + 1, b + 1, by omega, by omega, by go_num, by go_num, Lib.hid HBS.out.symm, rfl⟩
            | false =>
              rw [hbit] at hh hr1 hbs
              have HBS := Lib.hid hbs
              clear hbs hbit
              go_wp2_with fail
              refine hh.mono ?_
              clear hh
              rintro e w' ⟨rfl, rfl⟩
              go_wp2_with fail
              refine hr0.mono ?_
              clear hr0
              rintro e w' ⟨rfl, rfl⟩
              go_wp2_with fail
              refine hr1.mono ?_
              clear hr1
              rintro e w' ⟨rfl, rfl⟩
              go_wp2_with fail
              go_roundg g1
              case measure => omega
              case rel => exact ⟨t + 1, b, by omega, by omega, by go_num, rfl, Lib.hid HBS.out.symm, rfl⟩
          · have hid : decide (i ≤ (t : Int)) = false := by simpa using hi
            rw [hid] at hbs
            cases hbit : bit L t with
            | true =>
              rw [hbit] at hh hr1 hbs
              have HBS := Lib.hid hbs
              clear hbs hbit
              go_wp2_with fail
              refine hh.mono ?_
              clear hh
              rintro e w' ⟨rfl, rfl⟩
              go_wp2_with fail
              refine hr0.mono ?_
              clear hr0
              rintro e w' ⟨rfl, rfl⟩
              go_wp2_with fail
              refine hr1.mono ?_
              clear hr1
              rintro e w' ⟨rfl, rfl⟩
              go_wp2_with fail
              go_roundg g1
              case measure => omega
              case rel => exact ⟨t + 1, b, by omega, by omega, by go_num, rfl, Lib.hid HBS.out.symm, rfl⟩
            | false =>
              rw [hbit] at hh hr1 hbs
              have HBS := Lib.hid hbs
              clear hbs hbit
              go_wp2_with fail
              refine hh.mono ?_
              clear hh
              rintro e w' ⟨rfl, rfl⟩
              go_wp2_with fail
              refine hr0.mono ?_
              clear hr0
              rintro e w' ⟨rfl, rfl⟩
              go_wp2_with fail
              refine hr1.mono ?_
              clear hr1
              rintro e w' ⟨rfl, rfl⟩
              go_wp2_with fail
              go_roundg g1
              case measure => omega
              case rel => exact ⟨t + 1, b, by omega, by omega, by go_num, rfl, Lib.hid HBS.out.symm, rfl⟩
theorem rank_any (A : Option Addr) (nl cl : Nat) (n i : Int) (zl : List Int) (w : World) (hrl : Reads w w.heap.size 1 A nl (zs zl)) :
    Calls Try.prog 6 #[.int .i64 n, .slice A nl cl, .int .i64 i] w fun e w' => e = .returned (.bool true) ∧ Below w.heap.size w w' := by
  by_cases h : 100 < nl ∨ n < 0 ∨ 500 < n
  · exact rank_else A nl cl n i w h
  · obtain ⟨N, rfl⟩ : ∃ N : Nat, n = (N : Int) := ⟨n.toNat, by omega⟩
    exact rank_main A nl cl N i zl w hrl (by omega) (by omega)
end Go.Proofs.Ytgfpemndbgdhdaa
