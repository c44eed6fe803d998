/- Contracts of the library's cmp.Compare (over int, int64, string) and of package value's Cmp: the order of values. Nothing that was there changes. -/
import Derived.Test.YtieknhhhcjdbnaaDoorJ22
import Derived.Test.YtieknhhhcjdbnaaDoorJ30
import Derived.Test.YtieknhhhcjdbnaaDoorJ2
namespace Go.Proofs.YtieknhhhcjdbnaaDoor
open Go.RowKit
set_option linter.unusedVariables false
set_option linter.unusedSimpArgs false
set_option maxRecDepth 100000
attribute [local go_sem] binOp_gtr_tx

/-- The order of numbers, of texts. -/
def cmpI (x y : Int) : Int := if x < y then -1 else if y < x then 1 else 0
def cmpT (x y : Tx) : Int := if tlt x y then -1 else if tlt y x then 1 else 0
theorem cmpV_is (a b : Vl) : cmpV a b = if a.1 = b.1 then (if a.1 = 1 then cmpI a.2.1 b.2.1 else if a.1 = 2 then cmpT a.2.2 b.2.2 else 0) else cmpI a.1 b.1 := by
  unfold cmpI cmpT
  rcases cmp_cases a b with ⟨h, e⟩ | ⟨h, e⟩ | ⟨h0, ⟨k, ⟨h, e⟩ | ⟨h, e⟩ | ⟨h, e⟩⟩ | ⟨k, ⟨h, e⟩ | ⟨h, e⟩ | ⟨h, e⟩⟩ | ⟨k1, k2, e⟩⟩
  · rw [e, if_neg (by omega), if_pos h]
  · rw [e, if_neg (by omega), if_neg (by omega), if_pos h]
  · rw [e, if_pos h0, if_pos k, if_pos h]
  · rw [e, if_pos h0, if_pos k, if_neg (by omega), if_pos h]
  · rw [e, if_pos h0, if_pos k, if_neg (by omega), if_neg (by omega)]
  · rw [e, if_pos h0, if_neg (by omega), if_pos k, if_pos h]
  · rw [e, if_pos h0, if_neg (by omega), if_pos k, if_neg (tlt_asymm h), if_pos h]
  · rw [e, if_pos h0, if_neg (by omega), if_pos k, h, if_neg (tlt_irrefl _), if_neg (tlt_irrefl _)]
  · rw [e, if_pos h0, if_neg k1, if_neg k2]
theorem isNaN_int (x : Int) (w : World) : Calls Tryd.prog 65 #[.int .i64 x] w fun e w' => e = .returned (.bool false) ∧ w = w' := by
  go_enter Tryd.func65, Tryd.ntmps65
  go_wp2_with fail
  go_ret
  exact ⟨by first | rfl | simp, rfl⟩
theorem isNaN_int64 (x : Int) (w : World) : Calls Tryd.prog 66 #[.int .i64 x] w fun e w' => e = .returned (.bool false) ∧ w = w' := by
  go_enter Tryd.func66, Tryd.ntmps66
  go_wp2_with fail
  go_ret
  exact ⟨by first | rfl | simp, rfl⟩
theorem isNaN_tx (x : Tx) (w : World) : Calls Tryd.prog 67 #[.string ⟨x.toArray⟩] w fun e w' => e = .returned (.bool false) ∧ w = w' := by
  go_enter Tryd.func67, Tryd.ntmps67
  go_wp2_with fail
  go_ret
  exact ⟨by first | rfl | simp, rfl⟩
theorem compare_int (x y : Int) (w : World) : Calls Tryd.prog 49 #[.int .i64 x, .int .i64 y] w fun e w' => e = .returned (.int .i64 (cmpI x y)) ∧ w = w' := by
  obtain ⟨r, hr⟩ : ∃ r, cmpI x y = r := ⟨_, rfl⟩
  rw [hr]
  unfold cmpI at hr
  have H1 := Lib.hid (isNaN_int x); have H2 := Lib.hid (isNaN_int y)
  go_enter Tryd.func49, Tryd.ntmps49
  go_wp2_with fail
  refine (H1.out _).mono ?_
  rintro e w' ⟨rfl, rfl⟩
  go_wp2_with fail
  refine (H2.out _).mono ?_
  rintro e w' ⟨rfl, rfl⟩
  by_cases h1 : x < y
  · rw [if_pos h1] at hr
    subst hr
    go_wp2_with fail
    go_ret
    exact ⟨rfl, rfl⟩
  · rw [if_neg h1] at hr
    by_cases h2 : y < x
    · rw [if_pos h2] at hr
      subst hr
      go_wp2_with fail
      go_ret
      exact ⟨rfl, rfl⟩
    · rw [if_neg h2] at hr
      subst hr
      go_wp2_with fail
      go_ret
      exact ⟨rfl, rfl⟩
theorem compare_int64 (x y : Int) (w : World) : Calls Tryd.prog 50 #[.int .i64 x, .int .i64 y] w fun e w' => e = .returned (.int .i64 (cmpI x y)) ∧ w = w' := by
  obtain ⟨r, hr⟩ : ∃ r, cmpI x y = r := ⟨_, rfl⟩
  rw [hr]
  unfold cmpI at hr
  have H1 := Lib.hid (isNaN_int64 x); have H2 := Lib.hid (isNaN_int64 y)
  go_enter Tryd.func50, Tryd.ntmps50
  go_wp2_with fail
  refine (H1.out _).mono ?_
  rintro e w' ⟨rfl, rfl⟩
  go_wp2_with fail
  refine (H2.out _).mono ?_
  rintro e w' ⟨rfl, rfl⟩
  by_cases h1 : x < y
  · rw [if_pos h1] at hr
    subst hr
    go_wp2_with fail
    go_ret
    exact ⟨rfl, rfl⟩
  · rw [if_neg h1] at hr
    by_cases h2 : y < x
    · rw [if_pos h2] at hr
      subst hr
      go_wp2_with fail
      go_ret
      exact ⟨rfl, rfl⟩
    · rw [if_neg h2] at hr
      subst hr
      go_wp2_with fail
      go_ret
      exact ⟨rfl, rfl⟩
theorem compare_tx (x y : Tx) (w : World) : Calls Tryd.prog 51 #[.string ⟨x.toArray⟩, .string ⟨y.toArray⟩] w fun e w' => e = .returned (.int .i64 (cmpT x y)) ∧ w = w' := by
  obtain ⟨r, hr⟩ : ∃ r, cmpT x y = r := ⟨_, rfl⟩
  rw [hr]
  unfold cmpT at hr
  have H1 := Lib.hid (isNaN_tx x); have H2 := Lib.hid (isNaN_tx y)
  go_enter Tryd.func51, Tryd.ntmps51
  go_wp2_with fail
  refine (H1.out _).mono ?_
  rintro e w' ⟨rfl, rfl⟩
  go_wp2_with fail
  refine (H2.out _).mono ?_
  rintro e w' ⟨rfl, rfl⟩
  by_cases h1 : tlt x y
  · rw [if_pos h1] at hr
    subst hr
    have l1 := less_of h1
    have g1 : decide (tlt x y) = true := by simp [h1]
    clear h1
    go_wp2_with fail
    go_ret
    exact ⟨rfl, rfl⟩
  · rw [if_neg h1] at hr
    have l1 := less_not h1
    have g1 : decide (tlt x y) = false := by simp [h1]
    by_cases h2 : tlt y x
    · rw [if_pos h2] at hr
      subst hr
      have g2 : decide (tlt y x) = true := by simp [h2]
      clear h1 h2
      go_wp2_with fail
      go_ret
      exact ⟨rfl, rfl⟩
    · rw [if_neg h2] at hr
      subst hr
      have g2 : decide (tlt y x) = false := by simp [h2]
      clear h1 h2
      go_wp2_with fail
      go_ret
      exact ⟨rfl, rfl⟩
set_option maxHeartbeats 1000000 in
theorem cmpC_any : CmpC := by
  intro a b w
  have hR := cmpV_is a b
  obtain ⟨r, hr⟩ : ∃ r, cmpV a b = r := ⟨_, rfl⟩
  rw [hr] at hR ⊢
  obtain ⟨a0, a1, za⟩ := a
  obtain ⟨b0, b1, zb⟩ := b
  simp only at hR
  clear hr
  unfold vW
  simp only
  have hB : Below w.heap.size w ((w.alloc (.cells #[.int .i64 a0, .int .i64 a1, .string ⟨za.toArray⟩] 31)).alloc (.cells #[.int .i64 b0, .int .i64 b1, .string ⟨zb.toArray⟩] 31)) :=
    ((Below.refl _ _).alloc (Nat.le_refl _) _).alloc (by simp) _
  by_cases h0 : a0 = b0
  · subst h0
    rw [if_pos rfl] at hR
    by_cases k1 : a0 = 1
    · subst k1
      rw [if_pos rfl] at hR
      subst hR
      have H := Lib.hid (compare_int64 a1 b1)
      go_enter Tryd.func22, Tryd.ntmps22
      go_wp2_with fail
      refine (H.out _).mono ?_
      rintro e w' ⟨rfl, rfl⟩
      go_wp2_with fail
      go_ret
      exact ⟨rfl, hB⟩
    · by_cases k2 : a0 = 2
      · subst k2
        rw [if_neg (by decide), if_pos rfl] at hR
        subst hR
        have H := Lib.hid (compare_tx za zb)
        go_enter Tryd.func22, Tryd.ntmps22
        go_wp2_with fail
        refine (H.out _).mono ?_
        rintro e w' ⟨rfl, rfl⟩
        go_wp2_with fail
        go_ret
        exact ⟨rfl, hB⟩
      · rw [if_neg k1, if_neg k2] at hR
        subst hR
        have q1 : (a0 == 1) = false := by simp [k1]
        have q2 : (a0 == 2) = false := by simp [k2]
        clear k1 k2
        go_enter Tryd.func22, Tryd.ntmps22
        go_wp2_with fail
        go_ret
        exact ⟨rfl, hB⟩
  · rw [if_neg h0] at hR
    subst hR
    have q1 : (a0 != b0) = true := by simp [h0]
    have H := Lib.hid (compare_int a0 b0)
    clear h0
    go_enter Tryd.func22, Tryd.ntmps22
    go_wp2_with fail
    refine (H.out _).mono ?_
    rintro e w' ⟨rfl, rfl⟩
    go_wp2_with fail
    go_ret
    exact ⟨rfl, hB⟩
end Go.Proofs.YtieknhhhcjdbnaaDoor
