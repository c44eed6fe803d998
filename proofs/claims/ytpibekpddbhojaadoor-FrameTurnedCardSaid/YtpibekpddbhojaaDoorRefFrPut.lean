/- Contract of the document's answer for a frame: Put. -/
import Derived.Test.YtpibekpddbhojaaDoorFramePlain
import Derived.Test.YtpibekpddbhojaaDoorRefPutFix
import Derived.Test.YtpibekpddbhojaaDoorRefCrc
namespace Go.Proofs.YtpibekpddbhojaaDoor
open Go.RowKit
set_option linter.unusedVariables false
set_option maxRecDepth 100000

theorem refFix4 (v : Nat) (w : World) (hv : v < 18446744073709551616) : Calls Tryd.prog 22 #[.int .u64 (v : Int), .int .i64 4] w (New w (bs (fx 4 v)) 4) := refFix_any v 4 w hv (by omega)
set_option maxHeartbeats 1000000 in
theorem refPut_any (A : Option Addr) (n c : Nat) (p : List Nat) (w : World) (hr : Reads w w.heap.size 1 A n (bs p)) (hp : ∀ b ∈ p, b < 256) (hn : n ≤ 16777216) :
    Calls Tryd.prog 11 #[.slice A n c] w (New w (bs (fr p)) (8 + n)) := by
  have e1 : p.length = n := by have := hr.1; rw [bs_length] at this; omega
  have E1 := Lib.hid e1; clear e1
  have HP := Lib.hid hp; clear hp
  obtain ⟨i0, hi0, hz0, hz1, hz2⟩ := info_parts info_u8
  go_enter Tryd.func11, Tryd.ntmps11
  go_wp2_with fail
  refine (refFix4 n w (by omega)).mono ?_
  rintro e w1 ⟨v1, rfl, hown1, hb1⟩
  obtain ⟨A1, c1, rfl, _, _, hr1⟩ := own_slice hown1
  have hrp1 := (hr.below hb1).more hb1.size
  have hownA : (w1.alloc (.cells #[] 5)).ownsRow w1.heap.size 5 1 (.slice (some ⟨w1.heap.size, 0, none⟩) 0 0) 0 [] := World.ownsRow_made w1 _ _ (Nat.le_refl _) (by unfold maxLen; omega) rfl
  go_wp2_with (first
    | (at_builtin
       refine wpList_append_any _ rfl (.tmp 9) (.tmp 10) _ rfl w1.heap.size 5 i0 _ 1 1 Tryd.underlying22 hi0 hz0 hz1 hz2 rfl (by omega) (.slice (some ⟨w1.heap.size, 0, none⟩) 0 0) 0 [] rfl
         hownA w1.heap.size A1 4 c1 (bs (fx 4 n)) rfl (hr1.alloc (Nat.le_refl _) _) (bs_one _) (by unfold maxLen; omega) (by omega) (by simp) ?_
       intro v2 w2 hown2 hg2 hat2
       have hb2 : Below w1.heap.size w1 w2 := ((Below.refl _ _).alloc (Nat.le_refl _) _).grown hg2 (by simp) (fun k hk => by simp [Value.ownBlock] at hk; omega)
       have hrp2 := hrp1.below hb2)
    | (at_builtin
       refine wpList_append_any _ rfl (.tmp 11) (.tmp 12) _ rfl w1.heap.size 5 i0 _ 1 1 Tryd.underlying22 hi0 hz0 hz1 hz2 rfl (by omega) v2 (0 + 4) ([] ++ bs (fx 4 n)) rfl
         hown2 w1.heap.size A n c (bs p) rfl hrp2 (bs_one _) (by unfold maxLen; omega) (by omega) hb2.size ?_
       intro v3 w3 hown3 hg3 hat3
       have hb3 : Below w1.heap.size w1 w3 := hb2.grown hg3 hb2.size (fun k hk => (hown2.lt k hk).1)
       have hown3' : w3.ownsRow w1.heap.size 5 1 v3 (4 + n) (bs (fx 4 n ++ p)) := by simpa [bs_append] using hown3
       obtain ⟨A3, c3, rfl, _, _, hr3⟩ := own_slice hown3'))
  refine (refmore_any 0 A3 (4 + n) c3 (fx 4 n ++ p) w3 (by omega) hr3 (by intro b hb; rcases List.mem_append.1 hb with hb | hb; exact fx_byte _ _ b hb; exact HP.out b hb) (by omega)).mono ?_
  rintro e w4 ⟨rfl, hd4⟩
  rw [show moreN 0 (fx 4 n ++ p) = sumN (fx 4 n ++ p) from rfl]
  have hs := sumN_lt (fx 4 n ++ p)
  obtain ⟨s, hsd⟩ : ∃ s, sumN (fx 4 n ++ p) = s := ⟨_, rfl⟩
  rw [hsd] at hs ⊢
  have HS := Lib.hid hsd; clear hsd
  have hb4 : Below w1.heap.size w1 w4 := hd4.below hb3
  have hown14 := own_below hown1 hb4
  clear hown3 hown3' hr3
  go_wp2_with fail
  refine (refFix4 s w4 (by omega)).mono ?_
  rintro e w5 ⟨v5, rfl, hown5, hb5⟩
  obtain ⟨A5, c5, rfl, _, _, hr5⟩ := own_slice hown5
  have hb15 : Below w1.heap.size w1 w5 := hb4.trans (hb5.mono hb4.size)
  have hown15 := own_below hown1 hb15
  have hb05 : Below w.heap.size w w5 := hb1.trans (hb15.mono hb1.size)
  have hrp5 := hr.below hb05
  go_wp2_with (first
    | (at_builtin
       refine wpList_append_any _ rfl (.tmp 15) (.tmp 18) _ rfl w.heap.size 5 i0 _ 1 1 Tryd.underlying22 hi0 hz0 hz1 hz2 rfl (by omega) (.slice A1 4 c1) 4 (bs (fx 4 n)) rfl
         hown15 w5.heap.size A5 4 c5 (bs (fx 4 s)) rfl hr5 (bs_one _) (by unfold maxLen; omega) (by omega) hb05.size ?_
       intro v6 w6 hown6 hg6 hat6
       have hb6 : Below w.heap.size w w6 := hb05.grown hg6 hb05.size (fun k hk => (hown15.lt k hk).1)
       have hrp6 := hr.below hb6)
    | (at_builtin
       refine wpList_append_any _ rfl (.tmp 19) (.tmp 20) _ rfl w.heap.size 5 i0 _ 1 1 Tryd.underlying22 hi0 hz0 hz1 hz2 rfl (by omega) v6 (4 + 4) (bs (fx 4 n) ++ bs (fx 4 s)) rfl
         hown6 w.heap.size A n c (bs p) rfl hrp6 (bs_one _) (by unfold maxLen; omega) (by omega) hb6.size ?_
       intro v7 w7 hown7 hg7 hat7
       have hb7 : Below w.heap.size w w7 := hb6.grown hg7 hb6.size (fun k hk => (hown6.lt k hk).1)))
  go_ret
  have e1 := E1.out
  have hfr : fr p = fx 4 n ++ fx 4 s ++ p := by unfold fr; rw [e1, HS.out]
  refine ⟨v7, rfl, ?_, hb7⟩
  rw [hfr, bs_append, bs_append]
  exact hown7
end Go.Proofs.YtpibekpddbhojaaDoor
