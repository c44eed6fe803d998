/- The walk of the statement BitmapBack: what is told as bytes is read as it was; what is read is told as it was; a set that is none has nothing. -/
import Derived.Test.YtgfpemndbgdhdaaBmAll
import Derived.Test.YtgfpemndbgdhdaaBmRead
import Derived.Test.YtgfpemndbgdhdaaBmAwake
import Derived.Test.YtgfpemndbgdhdaaSameI
namespace Go.Proofs.Ytgfpemndbgdhdaa
open Go.RowKit
set_option linter.unusedVariables false
set_option linter.unusedSimpArgs false
set_option maxRecDepth 100000

theorem mark_below {a w w' : World} {B g h n : Nat} {l : List Nat} {i : Int} (hb : Below B a w) (s : SetIn w B g h n l) (hB : B ≤ w.heap.size) (hg : w.grownBy w' (some h)) : Below B a w' :=
  hb.grown hg hB (fun k hk => by injection hk with hk; subst hk; exact s.bh)
/-- Between two marks: the set, somehow marked. -/
def Marked (w wr : World) (g h n : Nat) : Prop := ∃ L, SetIn wr w.heap.size g h n L ∧ Below w.heap.size w wr
theorem back_else (A Ab : Option Addr) (nl cl nb cb : Nat) (n m : Int) (w : World) (h : 100 < nl ∨ n < 0 ∨ 500 < n ∨ 500 < nb) :
    Calls Try.prog 5 #[.int .i64 n, .slice A nl cl, .slice Ab nb cb, .int .i64 m] w fun e w' => e = .returned (.bool true) ∧ Below w.heap.size w w' := by
  by_cases h1 : 100 < nl
  · clear h
    go_enter Try.func5, Try.ntmps5
    go_wp2_with fail
    refine (awake_any w).mono ?_
    rintro e w1 ⟨rfl, hb⟩
    go_wp2_with fail
    go_ret
    exact ⟨rfl, hb⟩
  have d1 : decide ((100 : Int) < (nl : Int)) = false := by simp; omega
  by_cases h2 : n < 0
  · clear h
    go_enter Try.func5, Try.ntmps5
    go_wp2_with fail
    refine (awake_any w).mono ?_
    rintro e w1 ⟨rfl, hb⟩
    go_wp2_with fail
    go_ret
    exact ⟨rfl, hb⟩
  have d2 : decide (n < 0) = false := by simp; omega
  by_cases h3 : 500 < n
  · clear h
    go_enter Try.func5, Try.ntmps5
    go_wp2_with fail
    refine (awake_any w).mono ?_
    rintro e w1 ⟨rfl, hb⟩
    go_wp2_with fail
    go_ret
    exact ⟨rfl, hb⟩
  have d3 : decide (500 < n) = false := by simp; omega
  have h4 : 500 < nb := by omega
  clear h
  go_enter Try.func5, Try.ntmps5
  go_wp2_with fail
  refine (awake_any w).mono ?_
  rintro e w1 ⟨rfl, hb⟩
  go_wp2_with fail
  go_ret
  exact ⟨rfl, hb⟩
set_option maxHeartbeats 2000000 in
theorem back_main (A Ab : Option Addr) (nl cl nb cb n : Nat) (m : Int) (zl : List Int) (lb : List Nat) (w : World) (hrl : Reads w w.heap.size 1 A nl (zs zl)) (hrb : Reads w w.heap.size 1 Ab nb (bs lb)) (hlb : ∀ x ∈ lb, x < 256)
    (h1 : nl ≤ 100) (h2 : n ≤ 500) (h3 : nb ≤ 500) :
    Calls Try.prog 5 #[.int .i64 (n : Int), .slice A nl cl, .slice Ab nb cb, .int .i64 m] w fun e w' => e = .returned (.bool true) ∧ Below w.heap.size w w' := by
  have d1 : decide ((100 : Int) < (nl : Int)) = false := by simp; omega
  have d3 : decide ((500 : Int) < (n : Int)) = false := by simp; omega
  have d4 : decide ((500 : Int) < (nb : Int)) = false := by simp; omega
  go_enter Try.func5, Try.ntmps5
  go_wp2_with fail
  refine (New_any n w (by omega)).mono ?_
  rintro e w1 ⟨g, h, rfl, s1, hb1⟩
  go_wp2_with fail
  go_loopg [10] nl (fun gk s10 wr => ∃ k : Nat, k + gk = nl ∧ s10 = .int .i64 (k : Int) ∧ Marked w wr g h n)
  case atStart => exact ⟨0, by omega, rfl, _, s1, hb1⟩
  case round =>
    clear s1 hb1
    obtain ⟨k, hkg, rfl, L, s, hb⟩ := hrel
    cases gk with
    | succ g1 =>
      have hlt : k < nl := by omega
      obtain ⟨ad, u, rfl, _, hu, hc⟩ := (hrl.below hb).at_ hlt
      obtain ⟨z, _, rfl⟩ := zs_at hu
      clear hu
      go_wp2_with fail
      refine (Mark_any s z).mono ?_
      rintro e w2 ⟨rfl, s2, hg2⟩
      go_wp2_with fail
      go_roundg g1
      case measure => omega
      case rel => exact ⟨k + 1, by omega, by go_num, _, s2, mark_below (i := z) hb s hb.size hg2⟩
    | zero =>
      obtain rfl : k = nl := by omega
      obtain ⟨w1, rfl⟩ : ∃ w1 : World, w1 = wr := ⟨_, rfl⟩
      go_wp2_with fail
      refine (Bytes_any s).mono ?_
      rintro e w2 ⟨q, rfl, hq, hq2, hb2⟩
      have s2 := s.below hb2 (Nat.le_refl _)
      have hB2 := hb.trans (hb2.mono hb.size)
      clear s hb hb2 hq2
      go_wp2_with fail
      refine (Read_ok (some ⟨q, 0, none⟩) L.length L.length n L w2 (reads_blk hq _ _ _ hq.lt (bs_length L) (by simp [bs_length, List.take_of_length_le])) (by omega) s2.ok).mono ?_
      rintro e w3 ⟨g3, h3', rfl, s3, hb3⟩
      have s2 := s2.below hb3 (Nat.le_refl _)
      have hB3 := hB2.trans (hb3.mono hB2.size)
      clear hB2 hb3 hq
      go_wp2_with fail
      refine (All_any s2).mono ?_
      rintro e w4 ⟨v4, rfl, o4, hb4⟩
      obtain ⟨A4, c4, rfl, _, _, r4⟩ := own_slice o4
      have s2 := s2.below hb4 (Nat.le_refl _)
      have s3 := s3.below hb4 (Nat.le_refl _)
      have hB4 := hB3.trans (hb4.mono hB3.size)
      clear hB3 hb4 o4
      go_wp2_with fail
      refine (All_any s3).mono ?_
      rintro e w5 ⟨v5, rfl, o5, hb5⟩
      obtain ⟨A5, c5, rfl, _, _, r5⟩ := own_slice o5
      have s2 := s2.below hb5 (Nat.le_refl _)
      have s3 := s3.below hb5 (Nat.le_refl _)
      have r4 := (r4.below hb5).more hb5.size
      have hB5 := hB4.trans (hb5.mono hB4.size)
      clear hB4 hb5 o5
      go_wp2_with fail
      refine (sameI_true A4 A5 _ c4 c5 _ w5 r4 r5 (by rw [sel_length]; have := cnt_le (bit L) n; omega)).mono ?_
      rintro e w6 ⟨rfl, hd6⟩
      have s2 := s2.drawn hd6
      have s3 := s3.drawn hd6
      have hB6 := hd6.below hB5
      clear r4 r5 hB5 hd6
      go_wp2_with fail
      refine (Count_any s2).mono ?_
      rintro e w' ⟨rfl, rfl⟩
      go_wp2_with fail
      refine (Count_any s3).mono ?_
      rintro e w' ⟨rfl, rfl⟩
      have hcn := cnt_le (bit L) n
      go_wp2_with fail
      clear s2 s3
      have hrb6 := (hrb.below hB6).more hB6.size
      by_cases hE : rdE lb m = 0
      case' pos =>
        obtain ⟨hm0, hm1, hok⟩ := rdE_ok hlb hE
        obtain ⟨M, rfl⟩ : ∃ M : Nat, m = (M : Int) := ⟨m.toNat, by omega⟩
        rw [Int.toNat_natCast] at hok
        refine (Read_ok Ab nb cb M lb w6 hrb6 (by omega) hok).mono ?_
        rintro e w7 ⟨g7, h7, rfl, s7, hb7⟩
        have hrb7 := (hrb6.below hb7).more hb7.size
        have hB7 := hB6.trans (hb7.mono hB6.size)
        clear hB6 hb7 hE hrb6
        go_wp2_with fail
        refine (Bytes_any s7).mono ?_
        rintro e w8 ⟨q8, rfl, hq8, hq82, hb8⟩
        have hrb8 := (hrb7.below hb8).more hb8.size
        have hB8 := hB7.trans (hb8.mono hB7.size)
        have hlen : lb.length = nb := by have := hrb8.1; rw [bs_length] at this; omega
        rw [hlen]
        clear hB7 hb8 s7 hrb7 hq82
        go_wp2_with fail
        refine (same_true (some ⟨q8, 0, none⟩) Ab nb nb nb cb lb w8 (reads_blk hq8 _ _ _ hq8.lt (by rw [bs_length, hlen]) (by simp [bs_length, ← hlen, List.take_of_length_le])) hrb8 (by omega)).mono ?_
        rintro e w9 ⟨rfl, hd9⟩
        have hB9 := hd9.below hB8
        clear hB8 hrb8 hq8 hlen hd9
        go_wp2_with fail
      case' neg =>
        refine (Read_no Ab nb cb m lb w6 hrb6 hlb (by omega) hE).mono ?_
        rintro e w9 ⟨rfl, hb9⟩
        have hB9 := hB6.trans (hb9.mono hB6.size)
        obtain ⟨r, hr⟩ : ∃ r, r = rdE lb m := ⟨_, rfl⟩
        rw [← hr] at hE ⊢
        have hne : ((r : Int) == 0) = false := by simp; omega
        clear hB6 hb9 hr hrb6
        go_wp2_with fail
      all_goals
        refine (Mark_nil 0 w9).mono ?_
        rintro e w' ⟨rfl, rfl⟩
        go_wp2_with fail
        refine (Has_nil 0 w9).mono ?_
        rintro e w' ⟨rfl, rfl⟩
        go_wp2_with fail
        refine (Len_nil w9).mono ?_
        rintro e w' ⟨rfl, rfl⟩
        go_wp2_with fail
        refine (Count_nil w9).mono ?_
        rintro e w' ⟨rfl, rfl⟩
        go_wp2_with fail
        refine (Rank_nil 3 w9).mono ?_
        rintro e w' ⟨rfl, rfl⟩
        go_wp2_with fail
        refine (Bytes_nil w9).mono ?_
        rintro e w' ⟨rfl, rfl⟩
        go_wp2_with fail
        refine (Copy_nil w9).mono ?_
        rintro e w' ⟨rfl, rfl⟩
        go_wp2_with fail
        refine (All_nil w9).mono ?_
        rintro e w' ⟨rfl, rfl⟩
        go_wp2_with fail
        refine (awake_any w9).mono ?_
        rintro e w10 ⟨rfl, hb10⟩
        go_wp2_with fail
        go_ret
        exact ⟨rfl, hB9.trans (hb10.mono hB9.size)⟩
theorem back_any (A Ab : Option Addr) (nl cl nb cb : Nat) (n m : Int) (zl : List Int) (lb : List Nat) (w : World) (hrl : Reads w w.heap.size 1 A nl (zs zl)) (hrb : Reads w w.heap.size 1 Ab nb (bs lb)) (hlb : ∀ x ∈ lb, x < 256) :
    Calls Try.prog 5 #[.int .i64 n, .slice A nl cl, .slice Ab nb cb, .int .i64 m] w fun e w' => e = .returned (.bool true) ∧ Below w.heap.size w w' := by
  by_cases h : 100 < nl ∨ n < 0 ∨ 500 < n ∨ 500 < nb
  · exact back_else A Ab nl cl nb cb n m w h
  · obtain ⟨N, rfl⟩ : ∃ N : Nat, n = (N : Int) := ⟨n.toNat, by omega⟩
    exact back_main A Ab nl cl nb cb N m zl lb w hrl hrb hlb (by omega) (by omega) (by omega)
end Go.Proofs.Ytgfpemndbgdhdaa
