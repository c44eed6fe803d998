/- The walk of FrameParts: behind frames that are whole, what follows is read as if it stood alone. -/
import Derived.Test.YtpibekpddbhojaaDoorFrAll
import Derived.Test.YtpibekpddbhojaaDoorSameAll
import Derived.Test.YtpibekpddbhojaaDoorAwake04
namespace Go.Proofs.YtpibekpddbhojaaDoor
open Go.RowKit
set_option linter.unusedVariables false
set_option maxRecDepth 100000

theorem parts_big (A A' : Option Addr) (n c m c' : Nat) (w : World) (hm : Met w) (h : 1000 < n ∨ 1000 < m) :
    Calls Tryd.prog 7 #[.slice A n c, .slice A' m c'] w fun e w' => e = .returned (.bool true) ∧ Below w.heap.size w w' := by
  by_cases h1 : 1000 < n
  · clear h
    go_enter Tryd.func7, Tryd.ntmps7
    go_wp2_with fail
    refine (awake_any w hm).mono ?_
    rintro e w1 ⟨rfl, hb⟩
    go_wp2_with fail
    go_ret
    exact ⟨rfl, hb⟩
  · have h2 : 1000 < m := by omega
    have d1 : decide ((1000 : Int) < (n : Int)) = false := by simp; omega
    clear h
    go_enter Tryd.func7, Tryd.ntmps7
    go_wp2_with fail
    refine (awake_any w hm).mono ?_
    rintro e w1 ⟨rfl, hb⟩
    go_wp2_with fail
    go_ret
    exact ⟨rfl, hb⟩
theorem allS_count (b : List Nat) : 8 * (allS b).1.length ≤ b.length ∧ ∀ p ∈ (allS b).1, p.length ≤ b.length := by
  obtain ⟨n, hn⟩ : ∃ n, b.length = n := ⟨_, rfl⟩
  induction n using Nat.strongRecOn generalizing b with
  | ind n ih =>
    by_cases h : (getS b).2.2 = 0
    · have hc := getS_cases b
      have hl : (b.drop (getS b).2.1).length < n := by rw [List.length_drop]; omega
      have := ih _ hl _ rfl
      rw [List.length_drop] at this
      rw [allS_go b h]
      constructor
      · simp only [List.length_cons]; omega
      · intro p hp
        rcases List.mem_cons.1 hp with rfl | hp
        · omega
        · have := this.2 p hp; omega
    · rw [allS_stop b h]; simp
set_option maxHeartbeats 1000000 in
theorem parts_less (A A' : Option Addr) (n c m c' : Nat) (a b : List Nat) (w : World) (hm : Met w) (hr : Reads w w.heap.size 1 A n (bs a)) (ha : ∀ x ∈ a, x < 256) (hc : n ≤ c) (hn : n ≤ 1000) (hm2 : m ≤ 1000) (h : (allS a).2 < n) :
    Calls Tryd.prog 7 #[.slice A n c, .slice A' m c'] w fun e w' => e = .returned (.bool true) ∧ Below w.heap.size w w' := by
  have hall := all_any A n c a w hm hr ha hc (by omega)
  generalize allS a = G at hall h
  obtain ⟨gl, gn⟩ := G
  simp only at h
  have HALL := Lib.hid hall; clear hall
  clear ha
  have d1 : decide ((1000 : Int) < (n : Int)) = false := by simp; omega
  go_enter Tryd.func7, Tryd.ntmps7
  go_wp2_with fail
  refine HALL.out.mono ?_
  rintro e w1 ⟨A1, c1, rfl, _, hb1⟩
  go_wp2_with fail
  refine (awake_any w1 (hm.next hb1)).mono ?_
  rintro e w2 ⟨rfl, hb2⟩
  go_wp2_with fail
  go_ret
  exact ⟨rfl, hb1.trans (hb2.mono hb1.size)⟩
set_option maxHeartbeats 1000000 in
theorem parts_main (A A' : Option Addr) (n c m c' : Nat) (a b : List Nat) (w : World) (hm : Met w) (hr : Reads w w.heap.size 1 A n (bs a)) (hr' : Reads w w.heap.size 1 A' m (bs b)) (ha : ∀ x ∈ a, x < 256) (hb : ∀ x ∈ b, x < 256) (hc : n ≤ c) (hc' : m ≤ c') (hn : n ≤ 1000) (hm2 : m ≤ 1000) (h : (allS a).2 = n) :
    Calls Tryd.prog 7 #[.slice A n c, .slice A' m c'] w fun e w' => e = .returned (.bool true) ∧ Below w.heap.size w w' := by
  have e1 := fz_len hr
  have e2 := fz_len hr'
  have happ := allS_app a b (by omega)
  obtain ⟨x, hx⟩ : ∃ x, allS a = x := ⟨_, rfl⟩
  obtain ⟨y, hy⟩ : ∃ y, allS b = y := ⟨_, rfl⟩
  have hall := all_any A n c a w hm hr ha hc (by omega)
  have hxc := allS_count a
  have hyc := allS_count b
  have hyl := allS_le b
  rw [hx] at hall h hxc
  rw [hx, hy, e1] at happ
  rw [hy] at hyc hyl
  obtain ⟨xl, xn⟩ := x
  obtain ⟨yl, yn⟩ := y
  simp only at h happ hxc hyc hyl
  subst h
  have hxl : 8 * xl.length ≤ 1000 := by omega
  have hyl1 : 8 * yl.length ≤ 1000 := by omega
  have hyn : yn ≤ 1000 := by omega
  have hsz : ∀ l ∈ xl ++ yl, l.length ≤ 140737488355328 := by
    intro l hl
    rcases List.mem_append.1 hl with hl | hl
    · have := hxc.2 l hl; omega
    · have := hyc.2 l hl; omega
  have HAPP := Lib.hid happ; clear happ
  have HY := Lib.hid hy; clear hy
  have HALL := Lib.hid hall; clear hall
  have HA := Lib.hid ha; clear ha
  have HB := Lib.hid hb; clear hb
  have HSZ := Lib.hid hsz; clear hsz
  have E1 := Lib.hid e1; clear e1
  have E2 := Lib.hid e2; clear e2
  clear hx hxc hyc hyl
  have d1 : decide ((1000 : Int) < (xn : Int)) = false := by simp; omega
  obtain ⟨i0, hi0, hz0, hz1, hz2⟩ := info_parts info_u8
  obtain ⟨j0, hj0, hj1, hj2, hj3⟩ := info_parts info_bytes
  go_enter Tryd.func7, Tryd.ntmps7
  go_wp2_with fail
  refine HALL.out.mono ?_
  rintro e w1 ⟨A1, c1, rfl, hL1, hb1⟩
  go_wp2_with fail
  have hall2 := all_any A' m c' b w1 (hm.next hb1) ((hr'.below hb1).more hb1.size) HB.out hc' (by omega)
  rw [HY.out] at hall2
  refine hall2.mono ?_
  clear hall2
  rintro e w2 ⟨A2, c2, rfl, hL2, hb2⟩
  have hL12 := hL1.next hb2
  have hb02 := hb1.trans (hb2.mono hb1.size)
  have hra2 := (hr.below hb02).more hb02.size
  have hrb2 := (hr'.below hb02).more hb02.size
  have hown0 : (w2.alloc (.cells #[] 5)).ownsRow w2.heap.size 5 1 (.slice (some ⟨w2.heap.size, 0, none⟩) 0 0) 0 [] := World.ownsRow_made w2 _ _ (Nat.le_refl _) (by unfold maxLen; omega) rfl
  go_wp2_with (first
    | (at_builtin
       refine wpList_append_any _ rfl (.tmp 36) (.tmp 37) _ rfl w2.heap.size 5 i0 _ 1 1 Tryd.underlying22 hi0 hz0 hz1 hz2 rfl (by omega) (.slice (some ⟨w2.heap.size, 0, none⟩) 0 0) 0 [] rfl
         hown0 w2.heap.size A xn c (bs a) rfl (hra2.alloc (Nat.le_refl _) _) (bs_one _) (by unfold maxLen; omega) (by omega) (by simp) ?_
       intro v3 w3 hown3 hg3 hat3
       have hb3 : Below w2.heap.size w2 w3 := ((Below.refl _ _).alloc (Nat.le_refl _) _).grown hg3 (by simp) (fun k hk => by simp [Value.ownBlock] at hk; omega)
       have hrb3 := hrb2.below hb3)
    | (at_builtin
       refine wpList_append_any _ rfl (.tmp 38) (.tmp 39) _ rfl w2.heap.size 5 i0 _ 1 1 Tryd.underlying22 hi0 hz0 hz1 hz2 rfl (by omega) v3 (0 + xn) ([] ++ bs a) rfl
         hown3 w2.heap.size A' m c' (bs b) rfl hrb3 (bs_one _) (by unfold maxLen; omega) (by omega) hb3.size ?_
       intro v4 w4 hown4 hg4 hat4
       have hb4 : Below w2.heap.size w2 w4 := hb3.grown hg4 hb3.size (fun k hk => (hown3.lt k hk).1)
       have hown4' : w4.ownsRow w2.heap.size 5 1 v4 (xn + m) (bs (a ++ b)) := by simpa [bs_append] using hown4
       obtain ⟨A4, c4, rfl, hc4, _, hr4⟩ := own_slice hown4'))
  clear hown0 hown3 hown4 hown4' hg3 hg4 hat3 hat4 hrb3
  have hb04 := hb02.trans (hb4.mono hb02.size)
  have hall4 := all_any A4 (xn + m) c4 (a ++ b) w4 (hm.next hb04) hr4 (by intro x hx; rcases List.mem_append.1 hx with hx | hx; exact HA.out x hx; exact HB.out x hx) hc4 (by omega)
  obtain ⟨zl, hzl⟩ : ∃ zl, xl ++ yl = zl := ⟨_, rfl⟩
  rw [HAPP.out, hzl] at hall4
  have HZ := Lib.hid hzl; clear hzl
  refine hall4.mono ?_
  clear hall4
  rintro e w5 ⟨A5, c5, rfl, hL5, hb5⟩
  have hb25 := hb4.trans (hb5.mono hb4.size)
  obtain ⟨xs, hrx, hEx⟩ := hL12.next hb25
  obtain ⟨ys, hry, hEy⟩ := hL2.next hb25
  have hb05 := hb04.trans (hb5.mono hb04.size)
  have hownl : (w5.alloc (.cells #[] 22)).ownsRow w5.heap.size 22 1 (.slice (some ⟨w5.heap.size, 0, none⟩) 0 0) 0 [] := World.ownsRow_made w5 _ _ (Nat.le_refl _) (by unfold maxLen; omega) rfl
  have hL5 : LL w5 A5 zl := hL5
  clear hL1 hL2 hL12 hr4 hra2 hrb2
  have hx1 : ∀ u ∈ xs, u.oneCell' = true := hEx.cells fun _ _ h => h.one
  have hy1 : ∀ u ∈ ys, u.oneCell' = true := hEy.cells fun _ _ h => h.one
  go_wp2_with (first
    | (at_builtin
       refine wpList_append_when _ (by rfl) (.tmp 50) (.tmp 51) _ rfl w5.heap.size 22 j0 _ 1 24 Tryd.underlying35 hj0 hj1 hj2 hj3 rfl (by omega) (.slice (some ⟨w5.heap.size, 0, none⟩) 0 0) 0 [] rfl
         hownl w5.heap.size A1 xl.length c1 xs rfl (hrx.alloc (Nat.le_refl _) _) hx1 (by unfold maxLen; omega) (by omega) (by simp) ?_
       intro v6 w6 hown6 hg6 hat6
       have hb6 : Below w5.heap.size w5 w6 := ((Below.refl _ _).alloc (Nat.le_refl _) _).grown hg6 (by simp) (fun k hk => by simp [Value.ownBlock] at hk; omega)
       have hry6 := hry.below hb6)
    | (at_builtin
       refine wpList_append_when _ (by rfl) (.tmp 52) (.tmp 53) _ rfl w5.heap.size 22 j0 _ 1 24 Tryd.underlying35 hj0 hj1 hj2 hj3 rfl (by omega) v6 (0 + xl.length) ([] ++ xs) rfl
         hown6 w5.heap.size A2 yl.length c2 ys rfl hry6 hy1 (by unfold maxLen; omega) (by omega) hb6.size ?_
       intro v7 w7 hown7 hg7 hat7
       have hb7 : Below w5.heap.size w5 w7 := hb6.grown hg7 hb6.size (fun k hk => (hown6.lt k hk).1)
       have hown7' : w7.ownsRow w5.heap.size 22 1 v7 (xl.length + yl.length) (xs ++ ys) := by simpa using hown7
       obtain ⟨A7, c7, rfl, _, _, hr7⟩ := own_slice hown7'))
  have hsame : Calls Tryd.prog 16 #[.slice A7 (xl.length + yl.length) c7, .slice A5 zl.length c5] w7 fun e w' => e = .returned (.bool true) ∧ Drawn w7 w' := by
    have hz := HZ.out
    subst hz
    have h := sameAll_true A7 A5 c7 c5 (xl ++ yl) w7 ⟨xs ++ ys, by rw [List.length_append]; exact hr7, (hEx.imp fun _ _ h => h.next hb7).append (hEy.imp fun _ _ h => h.next hb7)⟩ (hL5.next hb7) HSZ.out (by rw [List.length_append]; omega)
    rw [List.length_append] at h ⊢
    exact h
  refine hsame.mono ?_
  clear hsame
  rintro e w8 ⟨rfl, hd8⟩
  have hb8 := hd8.below (hb05.trans (hb7.mono hb05.size))
  go_wp2_with fail
  refine (awake_any w8 (hm.next hb8)).mono ?_
  rintro e w9 ⟨rfl, hb9⟩
  go_wp2_with fail
  go_ret
  exact ⟨rfl, hb8.trans (hb9.mono hb8.size)⟩
theorem parts_any (A A' : Option Addr) (n c m c' : Nat) (a b : List Nat) (w : World) (hm : Met w) (hr : Reads w w.heap.size 1 A n (bs a)) (hr' : Reads w w.heap.size 1 A' m (bs b)) (ha : ∀ x ∈ a, x < 256) (hb : ∀ x ∈ b, x < 256) (hc : n ≤ c) (hc' : m ≤ c') :
    Calls Tryd.prog 7 #[.slice A n c, .slice A' m c'] w fun e w' => e = .returned (.bool true) ∧ Below w.heap.size w w' := by
  by_cases h : 1000 < n ∨ 1000 < m
  · exact parts_big A A' n c m c' w hm h
  · have e1 := fz_len hr
    have hle := allS_le a
    by_cases hw : (allS a).2 < n
    · exact parts_less A A' n c m c' a b w hm hr ha hc (by omega) (by omega) hw
    · exact parts_main A A' n c m c' a b w hm hr hr' ha hb hc hc' (by omega) (by omega) (by omega)
end Go.Proofs.YtpibekpddbhojaaDoor
